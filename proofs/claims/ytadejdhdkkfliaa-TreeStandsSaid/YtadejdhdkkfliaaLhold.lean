/- Hold: what each bridge of a graph holds of the root. Its condition: what fits. -/
import Derived.Test.YtadejdhdkkfliaaLvec
import Derived.Deep.RegionHeld
namespace Go.Proofs.Ytadejdhdkkfliaa
open Go.RowKit
set_option maxRecDepth 100000

/-- An operation taken first under a condition on the world, its slot said by number. -/
theorem wpAnyH_takeD {P : Program} {ops : Array Oper} {Q : Exit → Act → World → Prop} {md : Region.Mode} {S : World → Prop} {i : Nat} (d : Nat) {oi : Oper} {v : Value} {fuel : Nat} {listed : Array Bool} {a : Act} {w : World} (hi : ops[i]? = some oi) (hd : oi.dst = some d)
    (hs : Region.noSelect ops = true) (hf : Region.free md ops listed i = true) (hr : (Region.ready md ops listed).contains i = true)
    (hQ : ∀ c a (d : Nat) v w, Q (.panic c) (Act.put a (some d) v) w → Q (.panic c) a w) (hy : YieldsIf P ops S oi v a) (hS : S w)
    (h : wpAnyH P md ops Q S fuel (listed.setIfInBounds i true) (a.put (some d) v) w) : wpAnyH P md ops Q S (fuel + 1) listed a w :=
  wpAnyH_take hi hs hf hr (fun c a w h => by rw [hd] at h; exact hQ c a d v w h) hy hS (by rw [hd]; exact h)
theorem wp_region_heldD {P : Program} {ops : Array Oper} {Q : Exit → Act → World → Prop} {S : World → Prop} {id : Nat} {a : Act} {w : World} (hm : P.follows .mixedOrders = true) (hPF : ∀ c a (d : Nat) v w, Q (.panic c) (Act.put a (some d) v) w → Q (.panic c) a w) (hS : S w.drew)
    (h : (∀ c a (d : Nat) v w, Q (.panic c) (Act.put a (some d) v) w → Q (.panic c) a w) → S w.drew → wpAnyH P .any ops Q S ops.size (Array.replicate ops.size false) a w.drew) : (Code.region id ops true).wp P Q a w := wp_region_held_drew hm hS (h hPF)
set_option maxHeartbeats 8000000 in
theorem hold_any (A : Option Addr) (n c : Nat) (f : Nat → Int) (A2 : Option Addr) (c2 : Nat) (l : List Li) (w : World) (h : IdAt w w.heap.size A n f) (h2 : LiAt w w.heap.size A2 l) (hK : Big n f (l.map Li.lk)) (hL : l.length ≤ 16) (hn : 1 ≤ n) (ha : ∀ x ∈ l, 0 ≤ x.a ∧ 0 ≤ x.b) :
    Calls Try.prog 50 #[.slice A n c, .slice A2 l.length c2] w fun e w' => ∃ g cap, e = .returned (.slice (some ⟨g, 0, none⟩) n cap) ∧ w.heap.size ≤ g ∧ VsAt w' g n (sweeps f (linkE (l.map Li.lk)) (n * l.length)) ∧ Below w.heap.size w w' := by
  obtain ⟨k, hk⟩ : ∃ k, l.length = k := ⟨_, rfl⟩
  have H := Lib.hid (And.intro h (And.intro h2 (And.intro hK (And.intro (hk ▸ hL : k ≤ 16) (And.intro hn (And.intro ha (And.intro hk hK.few)))))))
  rw [hk]
  have n0 : (0 : Int) ≤ n := by omega
  have k0 : (0 : Int) ≤ k := by omega
  clear h h2 hK hL hn ha hk
  go_enter Try.func50, Try.ntmps50
  go_wp2_with fail
  go_loopw [5, 12] (fun ov iv wr => ∃ (j : Nat) (A1 : Option Addr) (c1 : Nat), j ≤ n ∧ iv = .int .i64 j ∧ ov = .slice A1 j c1 ∧ Hid (OwnL wr w.heap.size A1 c1 ((List.range j).map (own0 f)) ∧ Below w.heap.size w wr)) (fun _ iv _ => n - (intOf iv).toNat)
  case atStart => exact ⟨0, none, 0, Nat.zero_le _, rfl, rfl, Lib.hid ⟨World.ownsRow_nil _ _ _ _, Below.refl _ _⟩⟩
  case round =>
    obtain ⟨j, A1, c1, hj, rfl, rfl, hS⟩ := hrel
    by_cases hlt : j < n
    · have j1 : (j : Int) < n := by omega
      have j0 : (0 : Int) ≤ j := by omega
      have HJ := Lib.hid (show wrap64 ((j : Int) + 1) = (j : Int) + 1 from IntWalk.wrap64_in _ (by have := H.out.2.2.2.2.2.2.2; omega))
      obtain ⟨b, off, rfl, hb, hc⟩ := H.out.1 j hlt
      have hc := (hS.out.2.cell (p := ⟨b, off + j, none⟩) hb).trans hc
      have hap : ∃ a' c' w3, (Builtin.append_ #[102, 102] 102 #[.slice A1 j c1, .slice (some ⟨wr.heap.size, 0, none⟩) 1 1]).run Try.prog (wr.alloc (.cells #[.int .i64 (f j), .int .i64 0, .int .i64 (f j), .int .i64 0] 32)) = .ok (.slice a' (j + 1) c') w3 ∧ Hid (OwnL w3 w.heap.size a' c' ((List.range (j + 1)).map (own0 f)) ∧ Below w.heap.size w w3) := by
        have hnb := Blk.new wr 32 #[.int .i64 (f j), .int .i64 0, .int .i64 (f j), .int .i64 0]
        have hbe := bel_alloc wr (.cells #[.int .i64 (f j), .int .i64 0, .int .i64 (f j), .int .i64 0] 32)
        have hown : OwnL (wr.alloc (.cells #[.int .i64 (f j), .int .i64 0, .int .i64 (f j), .int .i64 0] 32)) w.heap.size A1 c1 ((List.range j).map (own0 f)) := World.ownsRow.alloc hS.out.1 _
        have hbw := hS.out.2.trans (hbe.mono hS.out.2.size)
        have hws := hbw.size
        generalize wr.alloc (.cells #[.int .i64 (f j), .int .i64 0, .int .i64 (f j), .int .i64 0] 32) = W at hnb hbe hown hbw hws ⊢
        obtain ⟨a', c', w3, hr, ho, hg⟩ := append_vc W w.heap.size A1 c1 j _ (by simp) hown wr.heap.size (own0 f j) hnb (by simp; have := H.out.2.2.2.2.2.2.2; omega) hws
        have hown' := hown
        unfold OwnL at hown'
        rw [List.length_map, List.length_range] at hown'
        refine ⟨a', c', w3, hr, Lib.hid ⟨?_, hbw.trans (bel_own hown' hg (Nat.le_refl _) hws)⟩⟩
        rw [List.range_succ, List.map_append]
        exact ho
      obtain ⟨a', c', w3, hr, HE⟩ := hap
      have HR := Lib.hid hr
      clear hr hb hj
      go_wp2_with (at_builtin; refine Lib.wpList_append_run _ rfl _ _ _ _ rfl _ _ rfl rfl _ _ HR.out ?_)
      go_roundw
      case rel =>
        rw [HJ.out]
        exact ⟨j + 1, a', c', hlt, by rw [Int.natCast_add]; rfl, rfl, HE⟩
      case measure =>
        rw [HJ.out]
        show n - ((j : Int) + 1).toNat < n - ((j : Int)).toNat
        omega
    · obtain rfl : n = j := by omega
      obtain ⟨g, hA1, hbg, hvs⟩ := hS.out.1.vs (by rw [List.length_map, List.length_range]; exact H.out.2.2.2.2.1)
      subst hA1
      have hvs0 : VsAt wr g n (own0 f) := by
        obtain ⟨cs, hb, hs, hc⟩ := hvs
        rw [List.length_map, List.length_range] at hs hc
        refine ⟨cs, hb, hs, fun i hi k hk => ?_⟩
        rw [hc i hi k hk]
        show (((List.range n).map (own0 f)).getD i vz0).arr[k]? = _
        rw [List.getD_eq_getElem?_getD, List.getElem?_map, List.getElem?_range hi]
        rfl
      have HV := Lib.hid (And.intro hvs0 (And.intro hbg hS.out.2))
      have nc : (n : Int) ≤ n := Int.le_refl _
      clear hvs hvs0 hbg hS hj hlt
      go_wp2_with fail
      go_loopw [25] (fun iv wr => ∃ t : Nat, t ≤ n ∧ iv = .int .i64 t ∧ Hid (VsAt wr g n (sweeps f (linkE (l.map Li.lk)) (t * k)) ∧ Below w.heap.size w wr)) (fun iv _ => n - (intOf iv).toNat)
      case atStart => exact ⟨0, Nat.zero_le _, rfl, Lib.hid ⟨by rw [Nat.zero_mul]; exact HV.out.1, HV.out.2.2⟩⟩
      case round =>
        obtain ⟨t, ht, rfl, hT⟩ := hrel
        by_cases hlt : t < n
        rotate_left
        · obtain rfl : n = t := by omega
          go_wp2_with fail
          go_ret
          refine ⟨g, c1, rfl, HV.out.2.1, ?_, hT.out.2⟩
          exact hT.out.1
        have t1 : (t : Int) < n := by omega
        have t0 : (0 : Int) ≤ t := by omega
        have HJT := Lib.hid (show wrap64 ((t : Int) + 1) = (t : Int) + 1 from IntWalk.wrap64_in _ (by have := H.out.2.2.2.2.2.2.2; omega))
        go_wp2_with fail
        go_loopw [29] (fun iv wr => ∃ s : Nat, s ≤ k ∧ iv = .int .i64 s ∧ Hid (VsAt wr g n (sweeps f (linkE (l.map Li.lk)) (t * k + s)) ∧ Below w.heap.size w wr)) (fun iv _ => k - (intOf iv).toNat)
        case atStart => exact ⟨0, Nat.zero_le _, rfl, Lib.hid ⟨hT.out.1, hT.out.2⟩⟩
        case round =>
          obtain ⟨s, hs, rfl, hU⟩ := hrel
          by_cases hls : s < k
          rotate_left
          · obtain rfl : k = s := by omega
            go_wp2_with fail
            go_roundw
            case rel =>
              rw [HJT.out]
              exact ⟨t + 1, hlt, by rw [Int.natCast_add]; rfl, Lib.hid ⟨by rw [Nat.succ_mul]; exact hU.out.1, hU.out.2⟩⟩
            case measure =>
              rw [HJT.out]
              show n - ((t : Int) + 1).toNat < n - ((t : Int)).toNat
              omega
          have s1 : (s : Int) < k := by omega
          have s0 : (0 : Int) ≤ s := by omega
          have HJS := Lib.hid (show wrap64 ((s : Int) + 1) = (s : Int) + 1 from IntWalk.wrap64_in _ (by have := H.out.2.2.2.1; omega))
          go_wp2_with fail
          go_loopw [33] (fun iv wr => ∃ q : Nat, q ≤ k ∧ iv = .int .i64 q ∧ Hid (VsAt wr g n (foldK f (l.map Li.lk) q (sweeps f (linkE (l.map Li.lk)) (t * k + s))) ∧ Below w.heap.size w wr)) (fun iv _ => k - (intOf iv).toNat)
          case atStart => exact ⟨0, Nat.zero_le _, rfl, Lib.hid ⟨hU.out.1, hU.out.2⟩⟩
          case round =>
            obtain ⟨q, hq, rfl, hQ⟩ := hrel
            by_cases hlq : q < k
            rotate_left
            · obtain rfl : k = q := by omega
              have hfin : foldK f (l.map Li.lk) k (sweeps f (linkE (l.map Li.lk)) (t * k + s)) = sweeps f (linkE (l.map Li.lk)) (t * k + (s + 1)) := by
                have e : k = (l.map Li.lk).length := by rw [List.length_map]; exact H.out.2.2.2.2.2.2.1.symm
                have h1 := foldK_all f (l.map Li.lk) (sweeps f (linkE (l.map Li.lk)) (t * k + s))
                rw [← e] at h1
                rw [h1]
                rfl
              have HNX := Lib.hid (And.intro (hfin ▸ hQ.out.1) hQ.out.2)
              clear hfin
              go_wp2_with fail
              go_roundw
              case rel =>
                rw [HJS.out]
                exact ⟨s + 1, hls, by rw [Int.natCast_add]; rfl, HNX⟩
              case measure =>
                rw [HJS.out]
                show k - ((s : Int) + 1).toNat < k - ((s : Int)).toNat
                omega
            have q1 : (q : Int) < k := by omega
            have q0 : (0 : Int) ≤ q := by omega
            have HJQ := Lib.hid (show wrap64 ((q : Int) + 1) = (q : Int) + 1 from IntWalk.wrap64_in _ (by have := H.out.2.2.2.1; omega))
            have hql : q < l.length := by rw [H.out.2.2.2.2.2.2.1]; exact hlq
            obtain ⟨bl, ofl, rfl, hbl, hc⟩ := H.out.2.1 q hql
            have hc := hc.below hQ.out.2 hbl
            have hmem : l.getD q li0 ∈ l := by rw [List.getD_eq_getElem?_getD, List.getElem?_eq_getElem hql]; exact List.getElem_mem hql
            have hlm : (l.getD q li0).lk ∈ l.map Li.lk := List.mem_map_of_mem hmem
            have hend := H.out.2.2.1.fits.ends _ hlm
            have hcos := H.out.2.2.1.fits.costs _ hlm
            have hche := H.out.2.2.1.cheap _ hlm
            have hpos := H.out.2.2.2.2.2.1 _ hmem
            have hqm : q < (l.map Li.lk).length := by rw [List.length_map]; exact hql
            have hstep := foldK_succ f (l.map Li.lk) q hqm (sweeps f (linkE (l.map Li.lk)) (t * k + s))
            have hel : (l.map Li.lk)[q] = (l.getD q li0).lk := by rw [List.getElem_map, List.getD_eq_getElem?_getD, List.getElem?_eq_getElem hql]; rfl
            rw [hel] at hstep
            have hcost := costIn_foldK H.out.2.2.1 (costIn_sweeps H.out.2.2.1 (by rw [List.length_map, H.out.2.2.2.2.2.2.1]; exact H.out.2.2.2.1) (t * k + s)) q (Nat.le_of_lt hqm)
            obtain ⟨F, hF⟩ : ∃ F, foldK f (l.map Li.lk) q (sweeps f (linkE (l.map Li.lk)) (t * k + s)) = F := ⟨_, rfl⟩
            rw [hF] at hstep hcost
            have hVF : VsAt wr g n F := hF ▸ hQ.out.1
            obtain ⟨x, hx⟩ : ∃ x, l.getD q li0 = x := ⟨_, rfl⟩
            rw [hx] at hc hend hcos hche hpos hstep
            obtain ⟨xa, xpa, xb, xpb, xca, xcb⟩ := x
            have hpos : 0 ≤ xa ∧ 0 ≤ xb := hpos
            obtain ⟨a, rfl⟩ : ∃ a : Nat, xa = a := ⟨xa.toNat, by omega⟩
            obtain ⟨b, rfl⟩ : ∃ b : Nat, xb = b := ⟨xb.toNat, by omega⟩
            have hend : a < n ∧ b < n ∧ a ≠ b := by simpa [Li.lk] using hend
            have hcos : 1 ≤ xca ∧ 1 ≤ xcb := hcos
            have hche : xca ≤ 1048576 ∧ xcb ≤ 1048576 := hche
            have hstep : foldK f (l.map Li.lk) (q + 1) (sweeps f (linkE (l.map Li.lk)) (t * k + s)) = relax f (relax f F ⟨a, b, xpa, xcb⟩) ⟨b, a, xpb, xca⟩ := by simpa [Li.lk, Lk.e1, Lk.e2] using hstep
            have htk : t * k + s ≤ 200 := by
              have h1 := H.out.2.2.2.1
              have h2 := H.out.2.2.2.2.2.2.2
              have h3 : t * k ≤ 8 * 16 := Nat.mul_le_mul (by omega) h1
              omega
            have HL := Lib.hid (And.intro hstep (And.intro hcost (And.intro hend (And.intro hcos (And.intro hche (And.intro htk hVF))))))
            obtain ⟨p0, p1, p2, p3, p4, p5⟩ := hc
            clear hql hbl hmem hlm hend hcos hche hpos hqm hstep hel hcost hF hVF hx htk hq
            obtain ⟨ba, oa, rfl, hba, hca⟩ := H.out.1 a HL.out.2.2.1.1
            obtain ⟨ba', oa', e, hba', hcb⟩ := H.out.1 b HL.out.2.2.1.2.1
            injection e with e
            injection e with e3 e4
            subst e3 e4
            have hca := (hQ.out.2.cell (p := ⟨ba, oa + a, none⟩) hba).trans hca
            have hcb := (hQ.out.2.cell (p := ⟨ba, oa + b, none⟩) hba').trans hcb
            have hne : f b ≠ f a := fun e => HL.out.2.2.1.2.2 (H.out.2.2.1.fits.names a b HL.out.2.2.1.1 HL.out.2.2.1.2.1 e.symm)
            have a1 : (a : Int) < n := by have := HL.out.2.2.1; omega
            have b1 : (b : Int) < n := by have := HL.out.2.2.1; omega
            have a0 : (0 : Int) ≤ a := by omega
            have b0 : (0 : Int) ≤ b := by omega
            have hbgW := HV.out.2.1
            obtain ⟨G, hG⟩ : ∃ G, wr.heap.size = G := ⟨_, rfl⟩
            have hgG : g < G := by rw [← hG]; exact HL.out.2.2.2.2.2.2.lt
            have hbaG : ba < G := by rw [← hG]; have := hQ.out.2.size; omega
            obtain ⟨W, hW⟩ : ∃ W, wr.alloc (.cells #[.int .i64 a, .int .i64 xpa, .int .i64 b, .int .i64 xpb, .int .i64 xca, .int .i64 xcb] 99) = W := ⟨_, rfl⟩
            have hbe : Below wr.heap.size wr W := by rw [← hW]; exact bel_alloc _ _
            have hbk : Blk W G 99 #[.int .i64 a, .int .i64 xpa, .int .i64 b, .int .i64 xpb, .int .i64 xca, .int .i64 xcb] := by rw [← hW, ← hG]; exact Blk.new _ _ _
            have hVW : VsAt W.drew g n F := HL.out.2.2.2.2.2.2.below hbe.drew HL.out.2.2.2.2.2.2.lt
            have hbW : Below w.heap.size w W.drew := (hQ.out.2.trans (hbe.mono hQ.out.2.size)).drew
            obtain ⟨fa, hfa⟩ : ∃ fa, f a = fa := ⟨_, rfl⟩
            obtain ⟨fb, hfb⟩ : ∃ fb, f b = fb := ⟨_, rfl⟩
            rw [hfa] at hca
            rw [hfb] at hcb
            have cD : W.drew.cell? ⟨G, 0, none⟩ = some (.int .i64 a) ∧ W.drew.cell? ⟨G, 1, none⟩ = some (.int .i64 xpa) ∧ W.drew.cell? ⟨G, 2, none⟩ = some (.int .i64 b) ∧ W.drew.cell? ⟨G, 3, none⟩ = some (.int .i64 xpb) ∧ W.drew.cell? ⟨G, 4, none⟩ = some (.int .i64 xca) ∧ W.drew.cell? ⟨G, 5, none⟩ = some (.int .i64 xcb) ∧ W.drew.cell? ⟨ba, oa + a, none⟩ = some (.int .i64 fa) ∧ W.drew.cell? ⟨ba, oa + b, none⟩ = some (.int .i64 fb) := ⟨hbk.cell 0, hbk.cell 1, hbk.cell 2, hbk.cell 3, hbk.cell 4, hbk.cell 5, (hbe.cell (p := ⟨ba, oa + a, none⟩) (by show ba < wr.heap.size; omega)).trans hca, (hbe.cell (p := ⟨ba, oa + b, none⟩) (by show ba < wr.heap.size; omega)).trans hcb⟩
            -- the first way
            have hvb := hVW.cells HL.out.2.2.1.2.1
            have hva := hVW.cells HL.out.2.2.1.1
            have hFa := HL.out.2.1 a HL.out.2.2.1.1
            have hwb : wrap64 ((F a).cost + xcb) = (F a).cost + xcb := IntWalk.wrap64_in _ (by have h1 := HL.out.2.2.2.1; have h2 := HL.out.2.2.2.2.1; have h3 := HL.out.2.2.2.2.2.1; have h4 := H.out.2.2.2.1; omega)
            have hG1 : relax f F ⟨a, b, xpa, xcb⟩ b = betV (F b) (f b) (F a) (f a) xpa xcb ∧ ∀ j, j < n → j ≠ b → relax f F ⟨a, b, xpa, xcb⟩ j = F j := relax_bet (n := n) (e := ⟨a, b, xpa, xcb⟩) hne
            have hbt := fun w => lbetter_any (F b) (F a) (f b) (f a) xpa xcb hwb w
            obtain ⟨bv, hbv⟩ : ∃ bv, betV (F b) (f b) (F a) (f a) xpa xcb = bv := ⟨_, rfl⟩
            rw [hbv] at hbt hG1
            have HP1 := Lib.hid (fun (w5 : World) (b5 : Below W.drew.heap.size W.drew w5) => And.intro ((hVW.below b5 hVW.lt).put HL.out.2.2.1.2.1 bv hG1.1 hG1.2) (And.intro (put4at_below (o := b * 4) (hbW.trans (b5.mono hbW.size)) hbgW bv) (hVW.below b5 hVW.lt)))
            rw [hfa, hfb] at hbt
            obtain ⟨md, hmd⟩ : ∃ md, F b = md := ⟨_, rfl⟩
            obtain ⟨ms, hms⟩ : ∃ ms, F a = ms := ⟨_, rfl⟩
            rw [hmd] at hbt hvb
            rw [hms] at hbt hva
            have HF1 := Lib.hid (And.intro hfa (And.intro hfb (And.intro hne (And.intro hFa (And.intro hmd hms)))))
            obtain ⟨u0, u1, u2, u3⟩ := hvb
            obtain ⟨y0, y1, y2, y3⟩ := hva
            obtain ⟨d0, d1, d2, d3⟩ := md
            obtain ⟨e0, e1, e2, e3⟩ := ms
            obtain ⟨r0, r1, r2, r3⟩ := bv
            simp only [Vec.v, Vec.arr] at hbt
            have HBT := Lib.hid hbt
            have HGG := Lib.hid (And.intro hgG hbaG)
            have HSZ := Lib.hid (show G < W.drew.heap.size ∧ ba < W.drew.heap.size from ⟨hbk.lt, Nat.lt_trans hbaG hbk.lt⟩)
            have HGG2b := Lib.hid (show ba ≠ g by omega)
            clear hbt hbv hmd hms hwb hG1 hFa hVW hbW hbk hbe hca hcb hba hba' hne hfa hfb hbgW
            go_wp2_with fail
            clear hW p0 p1 p2 p3 p4 p5
            have keepB : ∀ w5, Below W.drew.heap.size W.drew w5 → w5.cell? ⟨G, 0, none⟩ = some (.int .i64 a) ∧ w5.cell? ⟨G, 1, none⟩ = some (.int .i64 xpa) ∧ w5.cell? ⟨G, 2, none⟩ = some (.int .i64 b) ∧ w5.cell? ⟨G, 3, none⟩ = some (.int .i64 xpb) ∧ w5.cell? ⟨G, 4, none⟩ = some (.int .i64 xca) ∧ w5.cell? ⟨G, 5, none⟩ = some (.int .i64 xcb) ∧ w5.cell? ⟨ba, oa + a, none⟩ = some (.int .i64 fa) ∧ w5.cell? ⟨ba, oa + b, none⟩ = some (.int .i64 fb) := fun w5 b5 => by
              obtain ⟨h0, h1, h2, h3, h4, h5, h6, h7⟩ := cD
              have e : ∀ q : Addr, q.block < W.drew.heap.size → w5.cell? q = W.drew.cell? q := fun q hq => b5.cell hq
              exact ⟨(e _ HSZ.out.1).trans h0, (e _ HSZ.out.1).trans h1, (e _ HSZ.out.1).trans h2, (e _ HSZ.out.1).trans h3, (e _ HSZ.out.1).trans h4, (e _ HSZ.out.1).trans h5, (e _ HSZ.out.2).trans h6, (e _ HSZ.out.2).trans h7⟩
            have keepO : ∀ (w5 : World) (v : Vec), (w5.cell? ⟨G, 0, none⟩ = some (.int .i64 a) ∧ w5.cell? ⟨G, 1, none⟩ = some (.int .i64 xpa) ∧ w5.cell? ⟨G, 2, none⟩ = some (.int .i64 b) ∧ w5.cell? ⟨G, 3, none⟩ = some (.int .i64 xpb) ∧ w5.cell? ⟨G, 4, none⟩ = some (.int .i64 xca) ∧ w5.cell? ⟨G, 5, none⟩ = some (.int .i64 xcb) ∧ w5.cell? ⟨ba, oa + a, none⟩ = some (.int .i64 fa) ∧ w5.cell? ⟨ba, oa + b, none⟩ = some (.int .i64 fb)) → (put4at w5 g (b * 4) v).cell? ⟨G, 0, none⟩ = some (.int .i64 a) ∧ (put4at w5 g (b * 4) v).cell? ⟨G, 1, none⟩ = some (.int .i64 xpa) ∧ (put4at w5 g (b * 4) v).cell? ⟨G, 2, none⟩ = some (.int .i64 b) ∧ (put4at w5 g (b * 4) v).cell? ⟨G, 3, none⟩ = some (.int .i64 xpb) ∧ (put4at w5 g (b * 4) v).cell? ⟨G, 4, none⟩ = some (.int .i64 xca) ∧ (put4at w5 g (b * 4) v).cell? ⟨G, 5, none⟩ = some (.int .i64 xcb) ∧ (put4at w5 g (b * 4) v).cell? ⟨ba, oa + a, none⟩ = some (.int .i64 fa) ∧ (put4at w5 g (b * 4) v).cell? ⟨ba, oa + b, none⟩ = some (.int .i64 fb) := fun w5 v ⟨h0, h1, h2, h3, h4, h5, h6, h7⟩ => by
              have n1 : G ≠ g := Nat.ne_of_gt HGG.out.1
              have n2 : ba ≠ g := HGG2b.out
              exact ⟨(put4at_other n1).trans h0, (put4at_other n1).trans h1, (put4at_other n1).trans h2, (put4at_other n1).trans h3, (put4at_other n1).trans h4, (put4at_other n1).trans h5, (put4at_other n2).trans h6, (put4at_other n2).trans h7⟩
            refine wp_region_heldD (S := fun w' => w'.cell? ⟨G, 0, none⟩ = some (.int .i64 a) ∧ w'.cell? ⟨G, 1, none⟩ = some (.int .i64 xpa) ∧ w'.cell? ⟨G, 2, none⟩ = some (.int .i64 b) ∧ w'.cell? ⟨G, 3, none⟩ = some (.int .i64 xpb) ∧ w'.cell? ⟨G, 4, none⟩ = some (.int .i64 xca) ∧ w'.cell? ⟨G, 5, none⟩ = some (.int .i64 xcb) ∧ w'.cell? ⟨ba, oa + a, none⟩ = some (.int .i64 fa) ∧ w'.cell? ⟨ba, oa + b, none⟩ = some (.int .i64 fb)) (by kernel_rfl) (fun _ _ _ _ _ h => h) cD (fun hPF hHeld => ?_)
            refine wpAnyH_takeD (i := 0) 37 (v := ?_) rfl rfl (by kernel_rfl) (by kernel_rfl) (by kernel_rfl) hPF (Or.inl ⟨by kernel_rfl, ?_⟩) hHeld ?_
            rotate_left
            · intro w hSw; obtain ⟨s0, s1, s2, s3, s4, s5, s6, s7⟩ := hSw; go_simp; try with_reducible rfl
            simp only [Act.put, List.setIfInBounds_toArray, List.set_cons_zero, List.set_cons_succ]
            refine wpAnyH_takeD (i := 1) 38 (v := ?_) rfl rfl (by kernel_rfl) (by kernel_rfl) (by kernel_rfl) hPF (Or.inl ⟨by kernel_rfl, ?_⟩) hHeld ?_
            rotate_left
            · intro w hSw; obtain ⟨s0, s1, s2, s3, s4, s5, s6, s7⟩ := hSw; go_simp; try with_reducible rfl
            simp only [Act.put, List.setIfInBounds_toArray, List.set_cons_zero, List.set_cons_succ]
            refine wpAnyH_takeD (i := 2) 39 (v := ?_) rfl rfl (by kernel_rfl) (by kernel_rfl) (by kernel_rfl) hPF (Or.inl ⟨by kernel_rfl, ?_⟩) hHeld ?_
            rotate_left
            · intro w hSw; obtain ⟨s0, s1, s2, s3, s4, s5, s6, s7⟩ := hSw; go_simp; try with_reducible rfl
            simp only [Act.put, List.setIfInBounds_toArray, List.set_cons_zero, List.set_cons_succ]
            refine wpAnyH_takeD (i := 3) 40 (v := ?_) rfl rfl (by kernel_rfl) (by kernel_rfl) (by kernel_rfl) hPF (Or.inl ⟨by kernel_rfl, ?_⟩) hHeld ?_
            rotate_left
            · intro w hSw; obtain ⟨s0, s1, s2, s3, s4, s5, s6, s7⟩ := hSw; go_simp; try with_reducible rfl
            simp only [Act.put, List.setIfInBounds_toArray, List.set_cons_zero, List.set_cons_succ]
            refine wpAnyH_takeD (i := 4) 41 (v := ?_) rfl rfl (by kernel_rfl) (by kernel_rfl) (by kernel_rfl) hPF (Or.inl ⟨by kernel_rfl, ?_⟩) hHeld ?_
            rotate_left
            · intro w hSw; obtain ⟨s0, s1, s2, s3, s4, s5, s6, s7⟩ := hSw; go_simp; try with_reducible rfl
            simp only [Act.put, List.setIfInBounds_toArray, List.set_cons_zero, List.set_cons_succ]
            refine wpAnyH_takeD (i := 5) 42 (v := ?_) rfl rfl (by kernel_rfl) (by kernel_rfl) (by kernel_rfl) hPF (Or.inl ⟨by kernel_rfl, ?_⟩) hHeld ?_
            rotate_left
            · intro w hSw; obtain ⟨s0, s1, s2, s3, s4, s5, s6, s7⟩ := hSw; go_simp; try with_reducible rfl
            simp only [Act.put, List.setIfInBounds_toArray, List.set_cons_zero, List.set_cons_succ]
            refine wpAnyH_takeD (i := 6) 43 (v := ?_) rfl rfl (by kernel_rfl) (by kernel_rfl) (by kernel_rfl) hPF (Or.inl ⟨by kernel_rfl, ?_⟩) hHeld ?_
            rotate_left
            · intro w hSw; obtain ⟨s0, s1, s2, s3, s4, s5, s6, s7⟩ := hSw; go_simp; try with_reducible rfl
            simp only [Act.put, List.setIfInBounds_toArray, List.set_cons_zero, List.set_cons_succ]
            refine wpAnyH_takeD (i := 8) 45 (v := ?_) rfl rfl (by kernel_rfl) (by kernel_rfl) (by kernel_rfl) hPF (Or.inl ⟨by kernel_rfl, ?_⟩) hHeld ?_
            rotate_left
            · intro w hSw; obtain ⟨s0, s1, s2, s3, s4, s5, s6, s7⟩ := hSw; go_simp; try with_reducible rfl
            simp only [Act.put, List.setIfInBounds_toArray, List.set_cons_zero, List.set_cons_succ]
            refine wpAnyH_takeD (i := 9) 46 (v := ?_) rfl rfl (by kernel_rfl) (by kernel_rfl) (by kernel_rfl) hPF (Or.inl ⟨by kernel_rfl, ?_⟩) hHeld ?_
            rotate_left
            · intro w hSw; obtain ⟨s0, s1, s2, s3, s4, s5, s6, s7⟩ := hSw; go_simp; try with_reducible rfl
            simp only [Act.put, List.setIfInBounds_toArray, List.set_cons_zero, List.set_cons_succ]
            refine wpAnyH_takeD (i := 10) 47 (v := ?_) rfl rfl (by kernel_rfl) (by kernel_rfl) (by kernel_rfl) hPF (Or.inl ⟨by kernel_rfl, ?_⟩) hHeld ?_
            rotate_left
            · intro w hSw; obtain ⟨s0, s1, s2, s3, s4, s5, s6, s7⟩ := hSw; go_simp; try with_reducible rfl
            simp only [Act.put, List.setIfInBounds_toArray, List.set_cons_zero, List.set_cons_succ]
            refine wpAnyH_takeD (i := 11) 48 (v := ?_) rfl rfl (by kernel_rfl) (by kernel_rfl) (by kernel_rfl) hPF (Or.inl ⟨by kernel_rfl, ?_⟩) hHeld ?_
            rotate_left
            · intro w hSw; obtain ⟨s0, s1, s2, s3, s4, s5, s6, s7⟩ := hSw; go_simp; try with_reducible rfl
            simp only [Act.put, List.setIfInBounds_toArray, List.set_cons_zero, List.set_cons_succ]
            refine wpAnyH_takeD (i := 12) 49 (v := ?_) rfl rfl (by kernel_rfl) (by kernel_rfl) (by kernel_rfl) hPF (Or.inl ⟨by kernel_rfl, ?_⟩) hHeld ?_
            rotate_left
            · intro w hSw; obtain ⟨s0, s1, s2, s3, s4, s5, s6, s7⟩ := hSw; go_simp; try with_reducible rfl
            simp only [Act.put, List.setIfInBounds_toArray, List.set_cons_zero, List.set_cons_succ]
            refine wpAnyH_takeD (i := 13) 50 (v := ?_) rfl rfl (by kernel_rfl) (by kernel_rfl) (by kernel_rfl) hPF (Or.inl ⟨by kernel_rfl, ?_⟩) hHeld ?_
            rotate_left
            · intro w hSw; obtain ⟨s0, s1, s2, s3, s4, s5, s6, s7⟩ := hSw; go_simp; try with_reducible rfl
            simp only [Act.put, List.setIfInBounds_toArray, List.set_cons_zero, List.set_cons_succ]
            refine wpAnyH_takeD (i := 14) 51 (v := ?_) rfl rfl (by kernel_rfl) (by kernel_rfl) (by kernel_rfl) hPF (Or.inl ⟨by kernel_rfl, ?_⟩) hHeld ?_
            rotate_left
            · intro w hSw; obtain ⟨s0, s1, s2, s3, s4, s5, s6, s7⟩ := hSw; go_simp; try with_reducible rfl
            simp only [Act.put, List.setIfInBounds_toArray, List.set_cons_zero, List.set_cons_succ]
            refine wpAnyH_takeD (i := 15) 52 (v := ?_) rfl rfl (by kernel_rfl) (by kernel_rfl) (by kernel_rfl) hPF (Or.inl ⟨by kernel_rfl, ?_⟩) hHeld ?_
            rotate_left
            · intro w hSw; obtain ⟨s0, s1, s2, s3, s4, s5, s6, s7⟩ := hSw; go_simp; try with_reducible rfl
            simp only [Act.put, List.setIfInBounds_toArray, List.set_cons_zero, List.set_cons_succ]
            refine wpAnyH_takeD (i := 16) 53 (v := ?_) rfl rfl (by kernel_rfl) (by kernel_rfl) (by kernel_rfl) hPF (Or.inl ⟨by kernel_rfl, ?_⟩) hHeld ?_
            rotate_left
            · intro w hSw; obtain ⟨s0, s1, s2, s3, s4, s5, s6, s7⟩ := hSw; go_simp; try with_reducible rfl
            simp only [Act.put, List.setIfInBounds_toArray, List.set_cons_zero, List.set_cons_succ]
            refine wpAnyH_takeD (i := 18) 55 (v := ?_) rfl rfl (by kernel_rfl) (by kernel_rfl) (by kernel_rfl) hPF (Or.inl ⟨by kernel_rfl, ?_⟩) hHeld ?_
            rotate_left
            · intro w hSw; obtain ⟨s0, s1, s2, s3, s4, s5, s6, s7⟩ := hSw; go_simp; try with_reducible rfl
            simp only [Act.put, List.setIfInBounds_toArray, List.set_cons_zero, List.set_cons_succ]
            refine wpAnyH_takeD (i := 19) 56 (v := ?_) rfl rfl (by kernel_rfl) (by kernel_rfl) (by kernel_rfl) hPF (Or.inl ⟨by kernel_rfl, ?_⟩) hHeld ?_
            rotate_left
            · intro w hSw; obtain ⟨s0, s1, s2, s3, s4, s5, s6, s7⟩ := hSw; go_simp; try with_reducible rfl
            simp only [Act.put, List.setIfInBounds_toArray, List.set_cons_zero, List.set_cons_succ]
            refine wpAnyH_takeD (i := 20) 57 (v := ?_) rfl rfl (by kernel_rfl) (by kernel_rfl) (by kernel_rfl) hPF (Or.inl ⟨by kernel_rfl, ?_⟩) hHeld ?_
            rotate_left
            · intro w hSw; obtain ⟨s0, s1, s2, s3, s4, s5, s6, s7⟩ := hSw; go_simp; try with_reducible rfl
            simp only [Act.put, List.setIfInBounds_toArray, List.set_cons_zero, List.set_cons_succ]
            refine wpAnyH_takeD (i := 21) 58 (v := ?_) rfl rfl (by kernel_rfl) (by kernel_rfl) (by kernel_rfl) hPF (Or.inl ⟨by kernel_rfl, ?_⟩) hHeld ?_
            rotate_left
            · intro w hSw; obtain ⟨s0, s1, s2, s3, s4, s5, s6, s7⟩ := hSw; go_simp; try with_reducible rfl
            simp only [Act.put, List.setIfInBounds_toArray, List.set_cons_zero, List.set_cons_succ]
            refine wpAnyH_takeD (i := 22) 59 (v := ?_) rfl rfl (by kernel_rfl) (by kernel_rfl) (by kernel_rfl) hPF (Or.inl ⟨by kernel_rfl, ?_⟩) hHeld ?_
            rotate_left
            · intro w hSw; obtain ⟨s0, s1, s2, s3, s4, s5, s6, s7⟩ := hSw; go_simp; try with_reducible rfl
            simp only [Act.put, List.setIfInBounds_toArray, List.set_cons_zero, List.set_cons_succ]
            refine wpAnyH_takeD (i := 23) 60 (v := ?_) rfl rfl (by kernel_rfl) (by kernel_rfl) (by kernel_rfl) hPF (Or.inl ⟨by kernel_rfl, ?_⟩) hHeld ?_
            rotate_left
            · intro w hSw; obtain ⟨s0, s1, s2, s3, s4, s5, s6, s7⟩ := hSw; go_simp; try with_reducible rfl
            simp only [Act.put, List.setIfInBounds_toArray, List.set_cons_zero, List.set_cons_succ]
            refine wpAnyH_takeD (i := 24) 61 (v := ?_) rfl rfl (by kernel_rfl) (by kernel_rfl) (by kernel_rfl) hPF (Or.inl ⟨by kernel_rfl, ?_⟩) hHeld ?_
            rotate_left
            · intro w hSw; obtain ⟨s0, s1, s2, s3, s4, s5, s6, s7⟩ := hSw; go_simp; try with_reducible rfl
            simp only [Act.put, List.setIfInBounds_toArray, List.set_cons_zero, List.set_cons_succ]
            refine wpAnyH_takeD (i := 25) 62 (v := ?_) rfl rfl (by kernel_rfl) (by kernel_rfl) (by kernel_rfl) hPF (Or.inl ⟨by kernel_rfl, ?_⟩) hHeld ?_
            rotate_left
            · intro w hSw; obtain ⟨s0, s1, s2, s3, s4, s5, s6, s7⟩ := hSw; go_simp; try with_reducible rfl
            simp only [Act.put, List.setIfInBounds_toArray, List.set_cons_zero, List.set_cons_succ]
            refine wpAnyH_takeD (i := 26) 63 (v := ?_) rfl rfl (by kernel_rfl) (by kernel_rfl) (by kernel_rfl) hPF (Or.inl ⟨by kernel_rfl, ?_⟩) hHeld ?_
            rotate_left
            · intro w hSw; obtain ⟨s0, s1, s2, s3, s4, s5, s6, s7⟩ := hSw; go_simp; try with_reducible rfl
            simp only [Act.put, List.setIfInBounds_toArray, List.set_cons_zero, List.set_cons_succ]
            refine wpAnyH_ready (rs := [7, 17]) (by kernel_rfl) (by simp) ?_
            refine AllReadyH.cons rfl (fun K hK => ?_) (AllReadyH.cons rfl (fun K hK => ?_) AllReadyH.nil)
            · go_simp
              refine hK.out _ _ cD (fun hHeld2 => ?_)
              clear hK K hHeld
              have hHeld := hHeld2
              clear hHeld2
              try simp only [Act.put, List.setIfInBounds_toArray, List.set_cons_zero, List.set_cons_succ]
              refine wpAnyH_ready (rs := [17]) (by kernel_rfl) (by simp) ?_
              refine AllReadyH.cons rfl (fun K hK => ?_) AllReadyH.nil
              go_simp
              refine hK.out _ _ cD (fun hHeld2 => ?_)
              clear hK K hHeld
              have hHeld := hHeld2
              clear hHeld2
              try simp only [Act.put, List.setIfInBounds_toArray, List.set_cons_zero, List.set_cons_succ]
              refine wpAnyH_ready (rs := [27]) (by kernel_rfl) (by simp) ?_
              refine AllReadyH.cons rfl (fun K hK => ?_) AllReadyH.nil
              go_simp
              go_at_call 68
              (with_reducible (refine (HBT.out _).mono ?_))
              rintro e w5 ⟨rfl, b5⟩
              have cA : w5.cell? ⟨G, 0, none⟩ = some (.int .i64 a) ∧ w5.cell? ⟨G, 1, none⟩ = some (.int .i64 xpa) ∧ w5.cell? ⟨G, 2, none⟩ = some (.int .i64 b) ∧ w5.cell? ⟨G, 3, none⟩ = some (.int .i64 xpb) ∧ w5.cell? ⟨G, 4, none⟩ = some (.int .i64 xca) ∧ w5.cell? ⟨G, 5, none⟩ = some (.int .i64 xcb) ∧ w5.cell? ⟨ba, oa + a, none⟩ = some (.int .i64 fa) ∧ w5.cell? ⟨ba, oa + b, none⟩ = some (.int .i64 fb) := keepB w5 b5
              refine hK.out _ _ cA (fun hHeld2 => ?_)
              clear hK K hHeld
              have hHeld := hHeld2
              clear hHeld2
              try simp only [Act.put, List.setIfInBounds_toArray, List.set_cons_zero, List.set_cons_succ]
              have hx := HP1.out w5 b5
              obtain ⟨x0, x1, x2, x3⟩ := hx.2.2.cells HL.out.2.2.1.2.1
              have f0 := hx.2.2.frozen (b * 4)
              have f1 := hx.2.2.frozen (b * 4 + 1)
              have f2 := hx.2.2.frozen (b * 4 + 2)
              have f3 := hx.2.2.frozen (b * 4 + 3)
              have cB := keepO w5 ⟨r0, r1, r2, r3⟩ cA
              refine wpAnyH_takeD (i := 28) 65 (v := ?_) rfl rfl (by kernel_rfl) (by kernel_rfl) (by kernel_rfl) hPF (Or.inl ⟨by kernel_rfl, ?_⟩) hHeld ?_
              rotate_left
              · intro w hSw; obtain ⟨s0, s1, s2, s3, s4, s5, s6, s7⟩ := hSw; go_simp; try with_reducible rfl
              simp only [Act.put, List.setIfInBounds_toArray, List.set_cons_zero, List.set_cons_succ]
              refine wpAnyH_ready (rs := [29]) (by kernel_rfl) (by simp) ?_
              refine AllReadyH.cons rfl (fun K hK => ?_) AllReadyH.nil
              go_simp
              refine hK.out _ _ cB (fun hHeld2 => ?_)
              clear hK K hHeld
              have hHeld := hHeld2
              clear hHeld2
              try simp only [Act.put, List.setIfInBounds_toArray, List.set_cons_zero, List.set_cons_succ]
              refine wpAnyH_done (by kernel_rfl) ?_ _
              generalize hW1 : ((((w5.setCell ⟨g, b * 4, none⟩ (.int .i64 r0)).setCell ⟨g, b * 4 + 1, none⟩ (.int .i64 r1)).setCell ⟨g, b * 4 + 2, none⟩ (.int .i64 r2)).setCell ⟨g, b * 4 + 3, none⟩ (.int .i64 r3)) = W1
              have hW1 : put4at w5 g (b * 4) ⟨r0, r1, r2, r3⟩ = W1 := hW1
              have hx1 := hx.1
              have hx2 := hx.2.1
              have cC := cB
              have hsz : (put4at w5 g (b * 4) ⟨r0, r1, r2, r3⟩).heap.size = w5.heap.size := by simp [put4at, World.setCell]
              rw [hW1] at hx1 hx2 cC hsz
              have HSZB := Lib.hid (show G < W1.drew.heap.size ∧ ba < W1.drew.heap.size by
                have h1 := HSZ.out
                have h2 := b5.size
                show G < W1.heap.size ∧ ba < W1.heap.size
                omega)
              clear hHeld hPF x0 x1 x2 x3 f0 f1 f2 f3 cA cB cD keepB keepO u0 u1 u2 u3 y0 y1 y2 y3 hW1 hsz b5 hx HBT HP1
              have hcost1 := costIn_relax (ids := f) HL.out.2.1 (e := ⟨a, b, xpa, xcb⟩) HL.out.2.2.1.1 (by have := HL.out.2.2.2.1; show (0 : Int) ≤ xcb; omega) HL.out.2.2.2.2.1.2
              have hstep1 := HL.out.1
              obtain ⟨F1, hF1⟩ : ∃ F1, relax f F ⟨a, b, xpa, xcb⟩ = F1 := ⟨_, rfl⟩
              rw [hF1] at hx1 hcost1 hstep1
              have hvb := hx1.cells HL.out.2.2.1.2.1
              have hva := hx1.cells HL.out.2.2.1.1
              have hFb := hcost1 b HL.out.2.2.1.2.1
              have hwa : wrap64 ((F1 b).cost + xca) = (F1 b).cost + xca := IntWalk.wrap64_in _ (by have h1 := HL.out.2.2.2.1; have h2 := HL.out.2.2.2.2.1; have h3 := HL.out.2.2.2.2.2.1; have h4 := H.out.2.2.2.1; omega)
              have hG2 : relax f F1 ⟨b, a, xpb, xca⟩ a = betV (F1 a) (f a) (F1 b) (f b) xpb xca ∧ ∀ j, j < n → j ≠ a → relax f F1 ⟨b, a, xpb, xca⟩ j = F1 j := relax_bet (n := n) (e := ⟨b, a, xpb, xca⟩) (fun e => HF1.out.2.2.1 e.symm)
              have hbt := fun w => lbetter_any (F1 a) (F1 b) (f a) (f b) xpb xca hwa w
              obtain ⟨bv, hbv⟩ : ∃ bv, betV (F1 a) (f a) (F1 b) (f b) xpb xca = bv := ⟨_, rfl⟩
              rw [hbv] at hbt hG2
              have HP2 := Lib.hid (fun (w5 : World) (b5 : Below W1.drew.heap.size W1.drew w5) => And.intro ((VsAt.below (w := W1.drew) hx1 b5 hx1.lt).put HL.out.2.2.1.1 bv hG2.1 hG2.2) (And.intro (put4at_below (o := a * 4) (hx2.drew.trans (b5.mono hx2.size)) HV.out.2.1 bv) (VsAt.below (w := W1.drew) hx1 b5 hx1.lt)))
              rw [HF1.out.1, HF1.out.2.1] at hbt
              obtain ⟨md, hmd⟩ : ∃ md, F1 a = md := ⟨_, rfl⟩
              obtain ⟨ms, hms⟩ : ∃ ms, F1 b = ms := ⟨_, rfl⟩
              rw [hmd] at hbt hva
              rw [hms] at hbt hvb
              obtain ⟨y0, y1, y2, y3⟩ := hvb
              obtain ⟨u0, u1, u2, u3⟩ := hva
              obtain ⟨m0, m1, m2, m3⟩ := md
              obtain ⟨o0, o1, o2, o3⟩ := ms
              obtain ⟨v0, v1, v2, v3⟩ := bv
              simp only [Vec.v, Vec.arr] at hbt
              have HBT2 := Lib.hid hbt
              have HST2 := Lib.hid hstep1
              have cDB : W1.drew.cell? ⟨G, 0, none⟩ = some (.int .i64 a) ∧ W1.drew.cell? ⟨G, 1, none⟩ = some (.int .i64 xpa) ∧ W1.drew.cell? ⟨G, 2, none⟩ = some (.int .i64 b) ∧ W1.drew.cell? ⟨G, 3, none⟩ = some (.int .i64 xpb) ∧ W1.drew.cell? ⟨G, 4, none⟩ = some (.int .i64 xca) ∧ W1.drew.cell? ⟨G, 5, none⟩ = some (.int .i64 xcb) ∧ W1.drew.cell? ⟨ba, oa + a, none⟩ = some (.int .i64 fa) ∧ W1.drew.cell? ⟨ba, oa + b, none⟩ = some (.int .i64 fb) := cC
              have y0 : W1.drew.cell? ⟨g, b * 4, none⟩ = some (.int .i64 o0) := y0
              have y1 : W1.drew.cell? ⟨g, b * 4 + 1, none⟩ = some (.int .i64 o1) := y1
              have y2 : W1.drew.cell? ⟨g, b * 4 + 2, none⟩ = some (.int .i64 o2) := y2
              have y3 : W1.drew.cell? ⟨g, b * 4 + 3, none⟩ = some (.int .i64 o3) := y3
              have u0 : W1.drew.cell? ⟨g, a * 4, none⟩ = some (.int .i64 m0) := u0
              have u1 : W1.drew.cell? ⟨g, a * 4 + 1, none⟩ = some (.int .i64 m1) := u1
              have u2 : W1.drew.cell? ⟨g, a * 4 + 2, none⟩ = some (.int .i64 m2) := u2
              have u3 : W1.drew.cell? ⟨g, a * 4 + 3, none⟩ = some (.int .i64 m3) := u3
              clear hbt hbv hmd hms hwa hG2 hFb hcost1 hstep1 hx1 hx2 cC hF1
              go_wp2_with fail
              have keepBB : ∀ w5, Below W1.drew.heap.size W1.drew w5 → w5.cell? ⟨G, 0, none⟩ = some (.int .i64 a) ∧ w5.cell? ⟨G, 1, none⟩ = some (.int .i64 xpa) ∧ w5.cell? ⟨G, 2, none⟩ = some (.int .i64 b) ∧ w5.cell? ⟨G, 3, none⟩ = some (.int .i64 xpb) ∧ w5.cell? ⟨G, 4, none⟩ = some (.int .i64 xca) ∧ w5.cell? ⟨G, 5, none⟩ = some (.int .i64 xcb) ∧ w5.cell? ⟨ba, oa + a, none⟩ = some (.int .i64 fa) ∧ w5.cell? ⟨ba, oa + b, none⟩ = some (.int .i64 fb) := fun w5 b5 => by
                obtain ⟨h0, h1, h2, h3, h4, h5, h6, h7⟩ := cDB
                have e : ∀ q : Addr, q.block < W1.drew.heap.size → w5.cell? q = W1.drew.cell? q := fun q hq => b5.cell hq
                exact ⟨(e _ HSZB.out.1).trans h0, (e _ HSZB.out.1).trans h1, (e _ HSZB.out.1).trans h2, (e _ HSZB.out.1).trans h3, (e _ HSZB.out.1).trans h4, (e _ HSZB.out.1).trans h5, (e _ HSZB.out.2).trans h6, (e _ HSZB.out.2).trans h7⟩
              have keepOB : ∀ (w5 : World) (v : Vec), (w5.cell? ⟨G, 0, none⟩ = some (.int .i64 a) ∧ w5.cell? ⟨G, 1, none⟩ = some (.int .i64 xpa) ∧ w5.cell? ⟨G, 2, none⟩ = some (.int .i64 b) ∧ w5.cell? ⟨G, 3, none⟩ = some (.int .i64 xpb) ∧ w5.cell? ⟨G, 4, none⟩ = some (.int .i64 xca) ∧ w5.cell? ⟨G, 5, none⟩ = some (.int .i64 xcb) ∧ w5.cell? ⟨ba, oa + a, none⟩ = some (.int .i64 fa) ∧ w5.cell? ⟨ba, oa + b, none⟩ = some (.int .i64 fb)) → (put4at w5 g (a * 4) v).cell? ⟨G, 0, none⟩ = some (.int .i64 a) ∧ (put4at w5 g (a * 4) v).cell? ⟨G, 1, none⟩ = some (.int .i64 xpa) ∧ (put4at w5 g (a * 4) v).cell? ⟨G, 2, none⟩ = some (.int .i64 b) ∧ (put4at w5 g (a * 4) v).cell? ⟨G, 3, none⟩ = some (.int .i64 xpb) ∧ (put4at w5 g (a * 4) v).cell? ⟨G, 4, none⟩ = some (.int .i64 xca) ∧ (put4at w5 g (a * 4) v).cell? ⟨G, 5, none⟩ = some (.int .i64 xcb) ∧ (put4at w5 g (a * 4) v).cell? ⟨ba, oa + a, none⟩ = some (.int .i64 fa) ∧ (put4at w5 g (a * 4) v).cell? ⟨ba, oa + b, none⟩ = some (.int .i64 fb) := fun w5 v ⟨h0, h1, h2, h3, h4, h5, h6, h7⟩ => by
                have n1 : G ≠ g := Nat.ne_of_gt HGG.out.1
                have n2 : ba ≠ g := HGG2b.out
                exact ⟨(put4at_other n1).trans h0, (put4at_other n1).trans h1, (put4at_other n1).trans h2, (put4at_other n1).trans h3, (put4at_other n1).trans h4, (put4at_other n1).trans h5, (put4at_other n2).trans h6, (put4at_other n2).trans h7⟩
              refine wp_region_heldD (S := fun w' => w'.cell? ⟨G, 0, none⟩ = some (.int .i64 a) ∧ w'.cell? ⟨G, 1, none⟩ = some (.int .i64 xpa) ∧ w'.cell? ⟨G, 2, none⟩ = some (.int .i64 b) ∧ w'.cell? ⟨G, 3, none⟩ = some (.int .i64 xpb) ∧ w'.cell? ⟨G, 4, none⟩ = some (.int .i64 xca) ∧ w'.cell? ⟨G, 5, none⟩ = some (.int .i64 xcb) ∧ w'.cell? ⟨ba, oa + a, none⟩ = some (.int .i64 fa) ∧ w'.cell? ⟨ba, oa + b, none⟩ = some (.int .i64 fb)) (by kernel_rfl) (fun _ _ _ _ _ h => h) cDB (fun hPF hHeld => ?_)
              refine wpAnyH_takeD (i := 0) 66 (v := ?_) rfl rfl (by kernel_rfl) (by kernel_rfl) (by kernel_rfl) hPF (Or.inl ⟨by kernel_rfl, ?_⟩) hHeld ?_
              rotate_left
              · intro w hSw; obtain ⟨s0, s1, s2, s3, s4, s5, s6, s7⟩ := hSw; go_simp; try with_reducible rfl
              simp only [Act.put, List.setIfInBounds_toArray, List.set_cons_zero, List.set_cons_succ]
              refine wpAnyH_takeD (i := 1) 67 (v := ?_) rfl rfl (by kernel_rfl) (by kernel_rfl) (by kernel_rfl) hPF (Or.inl ⟨by kernel_rfl, ?_⟩) hHeld ?_
              rotate_left
              · intro w hSw; obtain ⟨s0, s1, s2, s3, s4, s5, s6, s7⟩ := hSw; go_simp; try with_reducible rfl
              simp only [Act.put, List.setIfInBounds_toArray, List.set_cons_zero, List.set_cons_succ]
              refine wpAnyH_takeD (i := 2) 68 (v := ?_) rfl rfl (by kernel_rfl) (by kernel_rfl) (by kernel_rfl) hPF (Or.inl ⟨by kernel_rfl, ?_⟩) hHeld ?_
              rotate_left
              · intro w hSw; obtain ⟨s0, s1, s2, s3, s4, s5, s6, s7⟩ := hSw; go_simp; try with_reducible rfl
              simp only [Act.put, List.setIfInBounds_toArray, List.set_cons_zero, List.set_cons_succ]
              refine wpAnyH_takeD (i := 3) 69 (v := ?_) rfl rfl (by kernel_rfl) (by kernel_rfl) (by kernel_rfl) hPF (Or.inl ⟨by kernel_rfl, ?_⟩) hHeld ?_
              rotate_left
              · intro w hSw; obtain ⟨s0, s1, s2, s3, s4, s5, s6, s7⟩ := hSw; go_simp; try with_reducible rfl
              simp only [Act.put, List.setIfInBounds_toArray, List.set_cons_zero, List.set_cons_succ]
              refine wpAnyH_takeD (i := 4) 70 (v := ?_) rfl rfl (by kernel_rfl) (by kernel_rfl) (by kernel_rfl) hPF (Or.inl ⟨by kernel_rfl, ?_⟩) hHeld ?_
              rotate_left
              · intro w hSw; obtain ⟨s0, s1, s2, s3, s4, s5, s6, s7⟩ := hSw; go_simp; try with_reducible rfl
              simp only [Act.put, List.setIfInBounds_toArray, List.set_cons_zero, List.set_cons_succ]
              refine wpAnyH_takeD (i := 5) 71 (v := ?_) rfl rfl (by kernel_rfl) (by kernel_rfl) (by kernel_rfl) hPF (Or.inl ⟨by kernel_rfl, ?_⟩) hHeld ?_
              rotate_left
              · intro w hSw; obtain ⟨s0, s1, s2, s3, s4, s5, s6, s7⟩ := hSw; go_simp; try with_reducible rfl
              simp only [Act.put, List.setIfInBounds_toArray, List.set_cons_zero, List.set_cons_succ]
              refine wpAnyH_takeD (i := 6) 72 (v := ?_) rfl rfl (by kernel_rfl) (by kernel_rfl) (by kernel_rfl) hPF (Or.inl ⟨by kernel_rfl, ?_⟩) hHeld ?_
              rotate_left
              · intro w hSw; obtain ⟨s0, s1, s2, s3, s4, s5, s6, s7⟩ := hSw; go_simp; try with_reducible rfl
              simp only [Act.put, List.setIfInBounds_toArray, List.set_cons_zero, List.set_cons_succ]
              refine wpAnyH_takeD (i := 8) 74 (v := ?_) rfl rfl (by kernel_rfl) (by kernel_rfl) (by kernel_rfl) hPF (Or.inl ⟨by kernel_rfl, ?_⟩) hHeld ?_
              rotate_left
              · intro w hSw; obtain ⟨s0, s1, s2, s3, s4, s5, s6, s7⟩ := hSw; go_simp; try with_reducible rfl
              simp only [Act.put, List.setIfInBounds_toArray, List.set_cons_zero, List.set_cons_succ]
              refine wpAnyH_takeD (i := 9) 75 (v := ?_) rfl rfl (by kernel_rfl) (by kernel_rfl) (by kernel_rfl) hPF (Or.inl ⟨by kernel_rfl, ?_⟩) hHeld ?_
              rotate_left
              · intro w hSw; obtain ⟨s0, s1, s2, s3, s4, s5, s6, s7⟩ := hSw; go_simp; try with_reducible rfl
              simp only [Act.put, List.setIfInBounds_toArray, List.set_cons_zero, List.set_cons_succ]
              refine wpAnyH_takeD (i := 10) 76 (v := ?_) rfl rfl (by kernel_rfl) (by kernel_rfl) (by kernel_rfl) hPF (Or.inl ⟨by kernel_rfl, ?_⟩) hHeld ?_
              rotate_left
              · intro w hSw; obtain ⟨s0, s1, s2, s3, s4, s5, s6, s7⟩ := hSw; go_simp; try with_reducible rfl
              simp only [Act.put, List.setIfInBounds_toArray, List.set_cons_zero, List.set_cons_succ]
              refine wpAnyH_takeD (i := 11) 77 (v := ?_) rfl rfl (by kernel_rfl) (by kernel_rfl) (by kernel_rfl) hPF (Or.inl ⟨by kernel_rfl, ?_⟩) hHeld ?_
              rotate_left
              · intro w hSw; obtain ⟨s0, s1, s2, s3, s4, s5, s6, s7⟩ := hSw; go_simp; try with_reducible rfl
              simp only [Act.put, List.setIfInBounds_toArray, List.set_cons_zero, List.set_cons_succ]
              refine wpAnyH_takeD (i := 12) 78 (v := ?_) rfl rfl (by kernel_rfl) (by kernel_rfl) (by kernel_rfl) hPF (Or.inl ⟨by kernel_rfl, ?_⟩) hHeld ?_
              rotate_left
              · intro w hSw; obtain ⟨s0, s1, s2, s3, s4, s5, s6, s7⟩ := hSw; go_simp; try with_reducible rfl
              simp only [Act.put, List.setIfInBounds_toArray, List.set_cons_zero, List.set_cons_succ]
              refine wpAnyH_takeD (i := 13) 79 (v := ?_) rfl rfl (by kernel_rfl) (by kernel_rfl) (by kernel_rfl) hPF (Or.inl ⟨by kernel_rfl, ?_⟩) hHeld ?_
              rotate_left
              · intro w hSw; obtain ⟨s0, s1, s2, s3, s4, s5, s6, s7⟩ := hSw; go_simp; try with_reducible rfl
              simp only [Act.put, List.setIfInBounds_toArray, List.set_cons_zero, List.set_cons_succ]
              refine wpAnyH_takeD (i := 14) 80 (v := ?_) rfl rfl (by kernel_rfl) (by kernel_rfl) (by kernel_rfl) hPF (Or.inl ⟨by kernel_rfl, ?_⟩) hHeld ?_
              rotate_left
              · intro w hSw; obtain ⟨s0, s1, s2, s3, s4, s5, s6, s7⟩ := hSw; go_simp; try with_reducible rfl
              simp only [Act.put, List.setIfInBounds_toArray, List.set_cons_zero, List.set_cons_succ]
              refine wpAnyH_takeD (i := 15) 81 (v := ?_) rfl rfl (by kernel_rfl) (by kernel_rfl) (by kernel_rfl) hPF (Or.inl ⟨by kernel_rfl, ?_⟩) hHeld ?_
              rotate_left
              · intro w hSw; obtain ⟨s0, s1, s2, s3, s4, s5, s6, s7⟩ := hSw; go_simp; try with_reducible rfl
              simp only [Act.put, List.setIfInBounds_toArray, List.set_cons_zero, List.set_cons_succ]
              refine wpAnyH_takeD (i := 16) 82 (v := ?_) rfl rfl (by kernel_rfl) (by kernel_rfl) (by kernel_rfl) hPF (Or.inl ⟨by kernel_rfl, ?_⟩) hHeld ?_
              rotate_left
              · intro w hSw; obtain ⟨s0, s1, s2, s3, s4, s5, s6, s7⟩ := hSw; go_simp; try with_reducible rfl
              simp only [Act.put, List.setIfInBounds_toArray, List.set_cons_zero, List.set_cons_succ]
              refine wpAnyH_takeD (i := 18) 84 (v := ?_) rfl rfl (by kernel_rfl) (by kernel_rfl) (by kernel_rfl) hPF (Or.inl ⟨by kernel_rfl, ?_⟩) hHeld ?_
              rotate_left
              · intro w hSw; obtain ⟨s0, s1, s2, s3, s4, s5, s6, s7⟩ := hSw; go_simp; try with_reducible rfl
              simp only [Act.put, List.setIfInBounds_toArray, List.set_cons_zero, List.set_cons_succ]
              refine wpAnyH_takeD (i := 19) 85 (v := ?_) rfl rfl (by kernel_rfl) (by kernel_rfl) (by kernel_rfl) hPF (Or.inl ⟨by kernel_rfl, ?_⟩) hHeld ?_
              rotate_left
              · intro w hSw; obtain ⟨s0, s1, s2, s3, s4, s5, s6, s7⟩ := hSw; go_simp; try with_reducible rfl
              simp only [Act.put, List.setIfInBounds_toArray, List.set_cons_zero, List.set_cons_succ]
              refine wpAnyH_takeD (i := 20) 86 (v := ?_) rfl rfl (by kernel_rfl) (by kernel_rfl) (by kernel_rfl) hPF (Or.inl ⟨by kernel_rfl, ?_⟩) hHeld ?_
              rotate_left
              · intro w hSw; obtain ⟨s0, s1, s2, s3, s4, s5, s6, s7⟩ := hSw; go_simp; try with_reducible rfl
              simp only [Act.put, List.setIfInBounds_toArray, List.set_cons_zero, List.set_cons_succ]
              refine wpAnyH_takeD (i := 21) 87 (v := ?_) rfl rfl (by kernel_rfl) (by kernel_rfl) (by kernel_rfl) hPF (Or.inl ⟨by kernel_rfl, ?_⟩) hHeld ?_
              rotate_left
              · intro w hSw; obtain ⟨s0, s1, s2, s3, s4, s5, s6, s7⟩ := hSw; go_simp; try with_reducible rfl
              simp only [Act.put, List.setIfInBounds_toArray, List.set_cons_zero, List.set_cons_succ]
              refine wpAnyH_takeD (i := 22) 88 (v := ?_) rfl rfl (by kernel_rfl) (by kernel_rfl) (by kernel_rfl) hPF (Or.inl ⟨by kernel_rfl, ?_⟩) hHeld ?_
              rotate_left
              · intro w hSw; obtain ⟨s0, s1, s2, s3, s4, s5, s6, s7⟩ := hSw; go_simp; try with_reducible rfl
              simp only [Act.put, List.setIfInBounds_toArray, List.set_cons_zero, List.set_cons_succ]
              refine wpAnyH_takeD (i := 23) 89 (v := ?_) rfl rfl (by kernel_rfl) (by kernel_rfl) (by kernel_rfl) hPF (Or.inl ⟨by kernel_rfl, ?_⟩) hHeld ?_
              rotate_left
              · intro w hSw; obtain ⟨s0, s1, s2, s3, s4, s5, s6, s7⟩ := hSw; go_simp; try with_reducible rfl
              simp only [Act.put, List.setIfInBounds_toArray, List.set_cons_zero, List.set_cons_succ]
              refine wpAnyH_takeD (i := 24) 90 (v := ?_) rfl rfl (by kernel_rfl) (by kernel_rfl) (by kernel_rfl) hPF (Or.inl ⟨by kernel_rfl, ?_⟩) hHeld ?_
              rotate_left
              · intro w hSw; obtain ⟨s0, s1, s2, s3, s4, s5, s6, s7⟩ := hSw; go_simp; try with_reducible rfl
              simp only [Act.put, List.setIfInBounds_toArray, List.set_cons_zero, List.set_cons_succ]
              refine wpAnyH_takeD (i := 25) 91 (v := ?_) rfl rfl (by kernel_rfl) (by kernel_rfl) (by kernel_rfl) hPF (Or.inl ⟨by kernel_rfl, ?_⟩) hHeld ?_
              rotate_left
              · intro w hSw; obtain ⟨s0, s1, s2, s3, s4, s5, s6, s7⟩ := hSw; go_simp; try with_reducible rfl
              simp only [Act.put, List.setIfInBounds_toArray, List.set_cons_zero, List.set_cons_succ]
              refine wpAnyH_takeD (i := 26) 92 (v := ?_) rfl rfl (by kernel_rfl) (by kernel_rfl) (by kernel_rfl) hPF (Or.inl ⟨by kernel_rfl, ?_⟩) hHeld ?_
              rotate_left
              · intro w hSw; obtain ⟨s0, s1, s2, s3, s4, s5, s6, s7⟩ := hSw; go_simp; try with_reducible rfl
              simp only [Act.put, List.setIfInBounds_toArray, List.set_cons_zero, List.set_cons_succ]
              refine wpAnyH_ready (rs := [7, 17]) (by kernel_rfl) (by simp) ?_
              refine AllReadyH.cons rfl (fun K hK => ?_) (AllReadyH.cons rfl (fun K hK => ?_) AllReadyH.nil)
              · go_simp
                refine hK.out _ _ cDB (fun hHeld2 => ?_)
                clear hK K hHeld
                have hHeld := hHeld2
                clear hHeld2
                try simp only [Act.put, List.setIfInBounds_toArray, List.set_cons_zero, List.set_cons_succ]
                refine wpAnyH_ready (rs := [17]) (by kernel_rfl) (by simp) ?_
                refine AllReadyH.cons rfl (fun K hK => ?_) AllReadyH.nil
                go_simp
                refine hK.out _ _ cDB (fun hHeld2 => ?_)
                clear hK K hHeld
                have hHeld := hHeld2
                clear hHeld2
                try simp only [Act.put, List.setIfInBounds_toArray, List.set_cons_zero, List.set_cons_succ]
                refine wpAnyH_ready (rs := [27]) (by kernel_rfl) (by simp) ?_
                refine AllReadyH.cons rfl (fun K hK => ?_) AllReadyH.nil
                go_simp
                go_at_call 68
                (with_reducible (refine (HBT2.out _).mono ?_))
                rintro e w5 ⟨rfl, b5⟩
                have cA : w5.cell? ⟨G, 0, none⟩ = some (.int .i64 a) ∧ w5.cell? ⟨G, 1, none⟩ = some (.int .i64 xpa) ∧ w5.cell? ⟨G, 2, none⟩ = some (.int .i64 b) ∧ w5.cell? ⟨G, 3, none⟩ = some (.int .i64 xpb) ∧ w5.cell? ⟨G, 4, none⟩ = some (.int .i64 xca) ∧ w5.cell? ⟨G, 5, none⟩ = some (.int .i64 xcb) ∧ w5.cell? ⟨ba, oa + a, none⟩ = some (.int .i64 fa) ∧ w5.cell? ⟨ba, oa + b, none⟩ = some (.int .i64 fb) := keepBB w5 b5
                refine hK.out _ _ cA (fun hHeld2 => ?_)
                clear hK K hHeld
                have hHeld := hHeld2
                clear hHeld2
                try simp only [Act.put, List.setIfInBounds_toArray, List.set_cons_zero, List.set_cons_succ]
                have hx := HP2.out w5 b5
                obtain ⟨x0, x1, x2, x3⟩ := hx.2.2.cells HL.out.2.2.1.1
                have f0 := hx.2.2.frozen (a * 4)
                have f1 := hx.2.2.frozen (a * 4 + 1)
                have f2 := hx.2.2.frozen (a * 4 + 2)
                have f3 := hx.2.2.frozen (a * 4 + 3)
                have cB := keepOB w5 ⟨v0, v1, v2, v3⟩ cA
                refine wpAnyH_takeD (i := 28) 94 (v := ?_) rfl rfl (by kernel_rfl) (by kernel_rfl) (by kernel_rfl) hPF (Or.inl ⟨by kernel_rfl, ?_⟩) hHeld ?_
                rotate_left
                · intro w hSw; obtain ⟨s0, s1, s2, s3, s4, s5, s6, s7⟩ := hSw; go_simp; try with_reducible rfl
                simp only [Act.put, List.setIfInBounds_toArray, List.set_cons_zero, List.set_cons_succ]
                refine wpAnyH_ready (rs := [29]) (by kernel_rfl) (by simp) ?_
                refine AllReadyH.cons rfl (fun K hK => ?_) AllReadyH.nil
                go_simp
                refine hK.out _ _ cB (fun hHeld2 => ?_)
                clear hK K hHeld
                have hHeld := hHeld2
                clear hHeld2
                try simp only [Act.put, List.setIfInBounds_toArray, List.set_cons_zero, List.set_cons_succ]
                refine wpAnyH_done (by kernel_rfl) ?_ _
                have HEND := Lib.hid (show VsAt (put4at w5 g (a * 4) ⟨v0, v1, v2, v3⟩) g n (foldK f (l.map Li.lk) (q + 1) (sweeps f (linkE (l.map Li.lk)) (t * k + s))) ∧ Below w.heap.size w (put4at w5 g (a * 4) ⟨v0, v1, v2, v3⟩) from ⟨by rw [HST2.out]; exact hx.1, hx.2.1⟩)
                clear hHeld hPF x0 x1 x2 x3 f0 f1 f2 f3 cA cB cDB keepBB keepOB u0 u1 u2 u3 y0 y1 y2 y3 b5 hx HBT2 HP2
                go_wp2_with fail
                go_roundw
                case rel =>
                  rw [HJQ.out]
                  exact ⟨q + 1, hlq, by rw [Int.natCast_add]; rfl, HEND⟩
                case measure =>
                  rw [HJQ.out]
                  show k - ((q : Int) + 1).toNat < k - ((q : Int)).toNat
                  omega
              · go_simp
                refine hK.out _ _ cDB (fun hHeld2 => ?_)
                clear hK K hHeld
                have hHeld := hHeld2
                clear hHeld2
                try simp only [Act.put, List.setIfInBounds_toArray, List.set_cons_zero, List.set_cons_succ]
                refine wpAnyH_ready (rs := [7]) (by kernel_rfl) (by simp) ?_
                refine AllReadyH.cons rfl (fun K hK => ?_) AllReadyH.nil
                go_simp
                refine hK.out _ _ cDB (fun hHeld2 => ?_)
                clear hK K hHeld
                have hHeld := hHeld2
                clear hHeld2
                try simp only [Act.put, List.setIfInBounds_toArray, List.set_cons_zero, List.set_cons_succ]
                refine wpAnyH_ready (rs := [27]) (by kernel_rfl) (by simp) ?_
                refine AllReadyH.cons rfl (fun K hK => ?_) AllReadyH.nil
                go_simp
                go_at_call 68
                (with_reducible (refine (HBT2.out _).mono ?_))
                rintro e w5 ⟨rfl, b5⟩
                have cA : w5.cell? ⟨G, 0, none⟩ = some (.int .i64 a) ∧ w5.cell? ⟨G, 1, none⟩ = some (.int .i64 xpa) ∧ w5.cell? ⟨G, 2, none⟩ = some (.int .i64 b) ∧ w5.cell? ⟨G, 3, none⟩ = some (.int .i64 xpb) ∧ w5.cell? ⟨G, 4, none⟩ = some (.int .i64 xca) ∧ w5.cell? ⟨G, 5, none⟩ = some (.int .i64 xcb) ∧ w5.cell? ⟨ba, oa + a, none⟩ = some (.int .i64 fa) ∧ w5.cell? ⟨ba, oa + b, none⟩ = some (.int .i64 fb) := keepBB w5 b5
                refine hK.out _ _ cA (fun hHeld2 => ?_)
                clear hK K hHeld
                have hHeld := hHeld2
                clear hHeld2
                try simp only [Act.put, List.setIfInBounds_toArray, List.set_cons_zero, List.set_cons_succ]
                have hx := HP2.out w5 b5
                obtain ⟨x0, x1, x2, x3⟩ := hx.2.2.cells HL.out.2.2.1.1
                have f0 := hx.2.2.frozen (a * 4)
                have f1 := hx.2.2.frozen (a * 4 + 1)
                have f2 := hx.2.2.frozen (a * 4 + 2)
                have f3 := hx.2.2.frozen (a * 4 + 3)
                have cB := keepOB w5 ⟨v0, v1, v2, v3⟩ cA
                refine wpAnyH_takeD (i := 28) 94 (v := ?_) rfl rfl (by kernel_rfl) (by kernel_rfl) (by kernel_rfl) hPF (Or.inl ⟨by kernel_rfl, ?_⟩) hHeld ?_
                rotate_left
                · intro w hSw; obtain ⟨s0, s1, s2, s3, s4, s5, s6, s7⟩ := hSw; go_simp; try with_reducible rfl
                simp only [Act.put, List.setIfInBounds_toArray, List.set_cons_zero, List.set_cons_succ]
                refine wpAnyH_ready (rs := [29]) (by kernel_rfl) (by simp) ?_
                refine AllReadyH.cons rfl (fun K hK => ?_) AllReadyH.nil
                go_simp
                refine hK.out _ _ cB (fun hHeld2 => ?_)
                clear hK K hHeld
                have hHeld := hHeld2
                clear hHeld2
                try simp only [Act.put, List.setIfInBounds_toArray, List.set_cons_zero, List.set_cons_succ]
                refine wpAnyH_done (by kernel_rfl) ?_ _
                have HEND := Lib.hid (show VsAt (put4at w5 g (a * 4) ⟨v0, v1, v2, v3⟩) g n (foldK f (l.map Li.lk) (q + 1) (sweeps f (linkE (l.map Li.lk)) (t * k + s))) ∧ Below w.heap.size w (put4at w5 g (a * 4) ⟨v0, v1, v2, v3⟩) from ⟨by rw [HST2.out]; exact hx.1, hx.2.1⟩)
                clear hHeld hPF x0 x1 x2 x3 f0 f1 f2 f3 cA cB cDB keepBB keepOB u0 u1 u2 u3 y0 y1 y2 y3 b5 hx HBT2 HP2
                go_wp2_with fail
                go_roundw
                case rel =>
                  rw [HJQ.out]
                  exact ⟨q + 1, hlq, by rw [Int.natCast_add]; rfl, HEND⟩
                case measure =>
                  rw [HJQ.out]
                  show k - ((q : Int) + 1).toNat < k - ((q : Int)).toNat
                  omega
            · go_simp
              refine hK.out _ _ cD (fun hHeld2 => ?_)
              clear hK K hHeld
              have hHeld := hHeld2
              clear hHeld2
              try simp only [Act.put, List.setIfInBounds_toArray, List.set_cons_zero, List.set_cons_succ]
              refine wpAnyH_ready (rs := [7]) (by kernel_rfl) (by simp) ?_
              refine AllReadyH.cons rfl (fun K hK => ?_) AllReadyH.nil
              go_simp
              refine hK.out _ _ cD (fun hHeld2 => ?_)
              clear hK K hHeld
              have hHeld := hHeld2
              clear hHeld2
              try simp only [Act.put, List.setIfInBounds_toArray, List.set_cons_zero, List.set_cons_succ]
              refine wpAnyH_ready (rs := [27]) (by kernel_rfl) (by simp) ?_
              refine AllReadyH.cons rfl (fun K hK => ?_) AllReadyH.nil
              go_simp
              go_at_call 68
              (with_reducible (refine (HBT.out _).mono ?_))
              rintro e w5 ⟨rfl, b5⟩
              have cA : w5.cell? ⟨G, 0, none⟩ = some (.int .i64 a) ∧ w5.cell? ⟨G, 1, none⟩ = some (.int .i64 xpa) ∧ w5.cell? ⟨G, 2, none⟩ = some (.int .i64 b) ∧ w5.cell? ⟨G, 3, none⟩ = some (.int .i64 xpb) ∧ w5.cell? ⟨G, 4, none⟩ = some (.int .i64 xca) ∧ w5.cell? ⟨G, 5, none⟩ = some (.int .i64 xcb) ∧ w5.cell? ⟨ba, oa + a, none⟩ = some (.int .i64 fa) ∧ w5.cell? ⟨ba, oa + b, none⟩ = some (.int .i64 fb) := keepB w5 b5
              refine hK.out _ _ cA (fun hHeld2 => ?_)
              clear hK K hHeld
              have hHeld := hHeld2
              clear hHeld2
              try simp only [Act.put, List.setIfInBounds_toArray, List.set_cons_zero, List.set_cons_succ]
              have hx := HP1.out w5 b5
              obtain ⟨x0, x1, x2, x3⟩ := hx.2.2.cells HL.out.2.2.1.2.1
              have f0 := hx.2.2.frozen (b * 4)
              have f1 := hx.2.2.frozen (b * 4 + 1)
              have f2 := hx.2.2.frozen (b * 4 + 2)
              have f3 := hx.2.2.frozen (b * 4 + 3)
              have cB := keepO w5 ⟨r0, r1, r2, r3⟩ cA
              refine wpAnyH_takeD (i := 28) 65 (v := ?_) rfl rfl (by kernel_rfl) (by kernel_rfl) (by kernel_rfl) hPF (Or.inl ⟨by kernel_rfl, ?_⟩) hHeld ?_
              rotate_left
              · intro w hSw; obtain ⟨s0, s1, s2, s3, s4, s5, s6, s7⟩ := hSw; go_simp; try with_reducible rfl
              simp only [Act.put, List.setIfInBounds_toArray, List.set_cons_zero, List.set_cons_succ]
              refine wpAnyH_ready (rs := [29]) (by kernel_rfl) (by simp) ?_
              refine AllReadyH.cons rfl (fun K hK => ?_) AllReadyH.nil
              go_simp
              refine hK.out _ _ cB (fun hHeld2 => ?_)
              clear hK K hHeld
              have hHeld := hHeld2
              clear hHeld2
              try simp only [Act.put, List.setIfInBounds_toArray, List.set_cons_zero, List.set_cons_succ]
              refine wpAnyH_done (by kernel_rfl) ?_ _
              generalize hW1 : ((((w5.setCell ⟨g, b * 4, none⟩ (.int .i64 r0)).setCell ⟨g, b * 4 + 1, none⟩ (.int .i64 r1)).setCell ⟨g, b * 4 + 2, none⟩ (.int .i64 r2)).setCell ⟨g, b * 4 + 3, none⟩ (.int .i64 r3)) = W1
              have hW1 : put4at w5 g (b * 4) ⟨r0, r1, r2, r3⟩ = W1 := hW1
              have hx1 := hx.1
              have hx2 := hx.2.1
              have cC := cB
              have hsz : (put4at w5 g (b * 4) ⟨r0, r1, r2, r3⟩).heap.size = w5.heap.size := by simp [put4at, World.setCell]
              rw [hW1] at hx1 hx2 cC hsz
              have HSZB := Lib.hid (show G < W1.drew.heap.size ∧ ba < W1.drew.heap.size by
                have h1 := HSZ.out
                have h2 := b5.size
                show G < W1.heap.size ∧ ba < W1.heap.size
                omega)
              clear hHeld hPF x0 x1 x2 x3 f0 f1 f2 f3 cA cB cD keepB keepO u0 u1 u2 u3 y0 y1 y2 y3 hW1 hsz b5 hx HBT HP1
              have hcost1 := costIn_relax (ids := f) HL.out.2.1 (e := ⟨a, b, xpa, xcb⟩) HL.out.2.2.1.1 (by have := HL.out.2.2.2.1; show (0 : Int) ≤ xcb; omega) HL.out.2.2.2.2.1.2
              have hstep1 := HL.out.1
              obtain ⟨F1, hF1⟩ : ∃ F1, relax f F ⟨a, b, xpa, xcb⟩ = F1 := ⟨_, rfl⟩
              rw [hF1] at hx1 hcost1 hstep1
              have hvb := hx1.cells HL.out.2.2.1.2.1
              have hva := hx1.cells HL.out.2.2.1.1
              have hFb := hcost1 b HL.out.2.2.1.2.1
              have hwa : wrap64 ((F1 b).cost + xca) = (F1 b).cost + xca := IntWalk.wrap64_in _ (by have h1 := HL.out.2.2.2.1; have h2 := HL.out.2.2.2.2.1; have h3 := HL.out.2.2.2.2.2.1; have h4 := H.out.2.2.2.1; omega)
              have hG2 : relax f F1 ⟨b, a, xpb, xca⟩ a = betV (F1 a) (f a) (F1 b) (f b) xpb xca ∧ ∀ j, j < n → j ≠ a → relax f F1 ⟨b, a, xpb, xca⟩ j = F1 j := relax_bet (n := n) (e := ⟨b, a, xpb, xca⟩) (fun e => HF1.out.2.2.1 e.symm)
              have hbt := fun w => lbetter_any (F1 a) (F1 b) (f a) (f b) xpb xca hwa w
              obtain ⟨bv, hbv⟩ : ∃ bv, betV (F1 a) (f a) (F1 b) (f b) xpb xca = bv := ⟨_, rfl⟩
              rw [hbv] at hbt hG2
              have HP2 := Lib.hid (fun (w5 : World) (b5 : Below W1.drew.heap.size W1.drew w5) => And.intro ((VsAt.below (w := W1.drew) hx1 b5 hx1.lt).put HL.out.2.2.1.1 bv hG2.1 hG2.2) (And.intro (put4at_below (o := a * 4) (hx2.drew.trans (b5.mono hx2.size)) HV.out.2.1 bv) (VsAt.below (w := W1.drew) hx1 b5 hx1.lt)))
              rw [HF1.out.1, HF1.out.2.1] at hbt
              obtain ⟨md, hmd⟩ : ∃ md, F1 a = md := ⟨_, rfl⟩
              obtain ⟨ms, hms⟩ : ∃ ms, F1 b = ms := ⟨_, rfl⟩
              rw [hmd] at hbt hva
              rw [hms] at hbt hvb
              obtain ⟨y0, y1, y2, y3⟩ := hvb
              obtain ⟨u0, u1, u2, u3⟩ := hva
              obtain ⟨m0, m1, m2, m3⟩ := md
              obtain ⟨o0, o1, o2, o3⟩ := ms
              obtain ⟨v0, v1, v2, v3⟩ := bv
              simp only [Vec.v, Vec.arr] at hbt
              have HBT2 := Lib.hid hbt
              have HST2 := Lib.hid hstep1
              have cDB : W1.drew.cell? ⟨G, 0, none⟩ = some (.int .i64 a) ∧ W1.drew.cell? ⟨G, 1, none⟩ = some (.int .i64 xpa) ∧ W1.drew.cell? ⟨G, 2, none⟩ = some (.int .i64 b) ∧ W1.drew.cell? ⟨G, 3, none⟩ = some (.int .i64 xpb) ∧ W1.drew.cell? ⟨G, 4, none⟩ = some (.int .i64 xca) ∧ W1.drew.cell? ⟨G, 5, none⟩ = some (.int .i64 xcb) ∧ W1.drew.cell? ⟨ba, oa + a, none⟩ = some (.int .i64 fa) ∧ W1.drew.cell? ⟨ba, oa + b, none⟩ = some (.int .i64 fb) := cC
              have y0 : W1.drew.cell? ⟨g, b * 4, none⟩ = some (.int .i64 o0) := y0
              have y1 : W1.drew.cell? ⟨g, b * 4 + 1, none⟩ = some (.int .i64 o1) := y1
              have y2 : W1.drew.cell? ⟨g, b * 4 + 2, none⟩ = some (.int .i64 o2) := y2
              have y3 : W1.drew.cell? ⟨g, b * 4 + 3, none⟩ = some (.int .i64 o3) := y3
              have u0 : W1.drew.cell? ⟨g, a * 4, none⟩ = some (.int .i64 m0) := u0
              have u1 : W1.drew.cell? ⟨g, a * 4 + 1, none⟩ = some (.int .i64 m1) := u1
              have u2 : W1.drew.cell? ⟨g, a * 4 + 2, none⟩ = some (.int .i64 m2) := u2
              have u3 : W1.drew.cell? ⟨g, a * 4 + 3, none⟩ = some (.int .i64 m3) := u3
              clear hbt hbv hmd hms hwa hG2 hFb hcost1 hstep1 hx1 hx2 cC hF1
              go_wp2_with fail
              have keepBB : ∀ w5, Below W1.drew.heap.size W1.drew w5 → w5.cell? ⟨G, 0, none⟩ = some (.int .i64 a) ∧ w5.cell? ⟨G, 1, none⟩ = some (.int .i64 xpa) ∧ w5.cell? ⟨G, 2, none⟩ = some (.int .i64 b) ∧ w5.cell? ⟨G, 3, none⟩ = some (.int .i64 xpb) ∧ w5.cell? ⟨G, 4, none⟩ = some (.int .i64 xca) ∧ w5.cell? ⟨G, 5, none⟩ = some (.int .i64 xcb) ∧ w5.cell? ⟨ba, oa + a, none⟩ = some (.int .i64 fa) ∧ w5.cell? ⟨ba, oa + b, none⟩ = some (.int .i64 fb) := fun w5 b5 => by
                obtain ⟨h0, h1, h2, h3, h4, h5, h6, h7⟩ := cDB
                have e : ∀ q : Addr, q.block < W1.drew.heap.size → w5.cell? q = W1.drew.cell? q := fun q hq => b5.cell hq
                exact ⟨(e _ HSZB.out.1).trans h0, (e _ HSZB.out.1).trans h1, (e _ HSZB.out.1).trans h2, (e _ HSZB.out.1).trans h3, (e _ HSZB.out.1).trans h4, (e _ HSZB.out.1).trans h5, (e _ HSZB.out.2).trans h6, (e _ HSZB.out.2).trans h7⟩
              have keepOB : ∀ (w5 : World) (v : Vec), (w5.cell? ⟨G, 0, none⟩ = some (.int .i64 a) ∧ w5.cell? ⟨G, 1, none⟩ = some (.int .i64 xpa) ∧ w5.cell? ⟨G, 2, none⟩ = some (.int .i64 b) ∧ w5.cell? ⟨G, 3, none⟩ = some (.int .i64 xpb) ∧ w5.cell? ⟨G, 4, none⟩ = some (.int .i64 xca) ∧ w5.cell? ⟨G, 5, none⟩ = some (.int .i64 xcb) ∧ w5.cell? ⟨ba, oa + a, none⟩ = some (.int .i64 fa) ∧ w5.cell? ⟨ba, oa + b, none⟩ = some (.int .i64 fb)) → (put4at w5 g (a * 4) v).cell? ⟨G, 0, none⟩ = some (.int .i64 a) ∧ (put4at w5 g (a * 4) v).cell? ⟨G, 1, none⟩ = some (.int .i64 xpa) ∧ (put4at w5 g (a * 4) v).cell? ⟨G, 2, none⟩ = some (.int .i64 b) ∧ (put4at w5 g (a * 4) v).cell? ⟨G, 3, none⟩ = some (.int .i64 xpb) ∧ (put4at w5 g (a * 4) v).cell? ⟨G, 4, none⟩ = some (.int .i64 xca) ∧ (put4at w5 g (a * 4) v).cell? ⟨G, 5, none⟩ = some (.int .i64 xcb) ∧ (put4at w5 g (a * 4) v).cell? ⟨ba, oa + a, none⟩ = some (.int .i64 fa) ∧ (put4at w5 g (a * 4) v).cell? ⟨ba, oa + b, none⟩ = some (.int .i64 fb) := fun w5 v ⟨h0, h1, h2, h3, h4, h5, h6, h7⟩ => by
                have n1 : G ≠ g := Nat.ne_of_gt HGG.out.1
                have n2 : ba ≠ g := HGG2b.out
                exact ⟨(put4at_other n1).trans h0, (put4at_other n1).trans h1, (put4at_other n1).trans h2, (put4at_other n1).trans h3, (put4at_other n1).trans h4, (put4at_other n1).trans h5, (put4at_other n2).trans h6, (put4at_other n2).trans h7⟩
              refine wp_region_heldD (S := fun w' => w'.cell? ⟨G, 0, none⟩ = some (.int .i64 a) ∧ w'.cell? ⟨G, 1, none⟩ = some (.int .i64 xpa) ∧ w'.cell? ⟨G, 2, none⟩ = some (.int .i64 b) ∧ w'.cell? ⟨G, 3, none⟩ = some (.int .i64 xpb) ∧ w'.cell? ⟨G, 4, none⟩ = some (.int .i64 xca) ∧ w'.cell? ⟨G, 5, none⟩ = some (.int .i64 xcb) ∧ w'.cell? ⟨ba, oa + a, none⟩ = some (.int .i64 fa) ∧ w'.cell? ⟨ba, oa + b, none⟩ = some (.int .i64 fb)) (by kernel_rfl) (fun _ _ _ _ _ h => h) cDB (fun hPF hHeld => ?_)
              refine wpAnyH_takeD (i := 0) 66 (v := ?_) rfl rfl (by kernel_rfl) (by kernel_rfl) (by kernel_rfl) hPF (Or.inl ⟨by kernel_rfl, ?_⟩) hHeld ?_
              rotate_left
              · intro w hSw; obtain ⟨s0, s1, s2, s3, s4, s5, s6, s7⟩ := hSw; go_simp; try with_reducible rfl
              simp only [Act.put, List.setIfInBounds_toArray, List.set_cons_zero, List.set_cons_succ]
              refine wpAnyH_takeD (i := 1) 67 (v := ?_) rfl rfl (by kernel_rfl) (by kernel_rfl) (by kernel_rfl) hPF (Or.inl ⟨by kernel_rfl, ?_⟩) hHeld ?_
              rotate_left
              · intro w hSw; obtain ⟨s0, s1, s2, s3, s4, s5, s6, s7⟩ := hSw; go_simp; try with_reducible rfl
              simp only [Act.put, List.setIfInBounds_toArray, List.set_cons_zero, List.set_cons_succ]
              refine wpAnyH_takeD (i := 2) 68 (v := ?_) rfl rfl (by kernel_rfl) (by kernel_rfl) (by kernel_rfl) hPF (Or.inl ⟨by kernel_rfl, ?_⟩) hHeld ?_
              rotate_left
              · intro w hSw; obtain ⟨s0, s1, s2, s3, s4, s5, s6, s7⟩ := hSw; go_simp; try with_reducible rfl
              simp only [Act.put, List.setIfInBounds_toArray, List.set_cons_zero, List.set_cons_succ]
              refine wpAnyH_takeD (i := 3) 69 (v := ?_) rfl rfl (by kernel_rfl) (by kernel_rfl) (by kernel_rfl) hPF (Or.inl ⟨by kernel_rfl, ?_⟩) hHeld ?_
              rotate_left
              · intro w hSw; obtain ⟨s0, s1, s2, s3, s4, s5, s6, s7⟩ := hSw; go_simp; try with_reducible rfl
              simp only [Act.put, List.setIfInBounds_toArray, List.set_cons_zero, List.set_cons_succ]
              refine wpAnyH_takeD (i := 4) 70 (v := ?_) rfl rfl (by kernel_rfl) (by kernel_rfl) (by kernel_rfl) hPF (Or.inl ⟨by kernel_rfl, ?_⟩) hHeld ?_
              rotate_left
              · intro w hSw; obtain ⟨s0, s1, s2, s3, s4, s5, s6, s7⟩ := hSw; go_simp; try with_reducible rfl
              simp only [Act.put, List.setIfInBounds_toArray, List.set_cons_zero, List.set_cons_succ]
              refine wpAnyH_takeD (i := 5) 71 (v := ?_) rfl rfl (by kernel_rfl) (by kernel_rfl) (by kernel_rfl) hPF (Or.inl ⟨by kernel_rfl, ?_⟩) hHeld ?_
              rotate_left
              · intro w hSw; obtain ⟨s0, s1, s2, s3, s4, s5, s6, s7⟩ := hSw; go_simp; try with_reducible rfl
              simp only [Act.put, List.setIfInBounds_toArray, List.set_cons_zero, List.set_cons_succ]
              refine wpAnyH_takeD (i := 6) 72 (v := ?_) rfl rfl (by kernel_rfl) (by kernel_rfl) (by kernel_rfl) hPF (Or.inl ⟨by kernel_rfl, ?_⟩) hHeld ?_
              rotate_left
              · intro w hSw; obtain ⟨s0, s1, s2, s3, s4, s5, s6, s7⟩ := hSw; go_simp; try with_reducible rfl
              simp only [Act.put, List.setIfInBounds_toArray, List.set_cons_zero, List.set_cons_succ]
              refine wpAnyH_takeD (i := 8) 74 (v := ?_) rfl rfl (by kernel_rfl) (by kernel_rfl) (by kernel_rfl) hPF (Or.inl ⟨by kernel_rfl, ?_⟩) hHeld ?_
              rotate_left
              · intro w hSw; obtain ⟨s0, s1, s2, s3, s4, s5, s6, s7⟩ := hSw; go_simp; try with_reducible rfl
              simp only [Act.put, List.setIfInBounds_toArray, List.set_cons_zero, List.set_cons_succ]
              refine wpAnyH_takeD (i := 9) 75 (v := ?_) rfl rfl (by kernel_rfl) (by kernel_rfl) (by kernel_rfl) hPF (Or.inl ⟨by kernel_rfl, ?_⟩) hHeld ?_
              rotate_left
              · intro w hSw; obtain ⟨s0, s1, s2, s3, s4, s5, s6, s7⟩ := hSw; go_simp; try with_reducible rfl
              simp only [Act.put, List.setIfInBounds_toArray, List.set_cons_zero, List.set_cons_succ]
              refine wpAnyH_takeD (i := 10) 76 (v := ?_) rfl rfl (by kernel_rfl) (by kernel_rfl) (by kernel_rfl) hPF (Or.inl ⟨by kernel_rfl, ?_⟩) hHeld ?_
              rotate_left
              · intro w hSw; obtain ⟨s0, s1, s2, s3, s4, s5, s6, s7⟩ := hSw; go_simp; try with_reducible rfl
              simp only [Act.put, List.setIfInBounds_toArray, List.set_cons_zero, List.set_cons_succ]
              refine wpAnyH_takeD (i := 11) 77 (v := ?_) rfl rfl (by kernel_rfl) (by kernel_rfl) (by kernel_rfl) hPF (Or.inl ⟨by kernel_rfl, ?_⟩) hHeld ?_
              rotate_left
              · intro w hSw; obtain ⟨s0, s1, s2, s3, s4, s5, s6, s7⟩ := hSw; go_simp; try with_reducible rfl
              simp only [Act.put, List.setIfInBounds_toArray, List.set_cons_zero, List.set_cons_succ]
              refine wpAnyH_takeD (i := 12) 78 (v := ?_) rfl rfl (by kernel_rfl) (by kernel_rfl) (by kernel_rfl) hPF (Or.inl ⟨by kernel_rfl, ?_⟩) hHeld ?_
              rotate_left
              · intro w hSw; obtain ⟨s0, s1, s2, s3, s4, s5, s6, s7⟩ := hSw; go_simp; try with_reducible rfl
              simp only [Act.put, List.setIfInBounds_toArray, List.set_cons_zero, List.set_cons_succ]
              refine wpAnyH_takeD (i := 13) 79 (v := ?_) rfl rfl (by kernel_rfl) (by kernel_rfl) (by kernel_rfl) hPF (Or.inl ⟨by kernel_rfl, ?_⟩) hHeld ?_
              rotate_left
              · intro w hSw; obtain ⟨s0, s1, s2, s3, s4, s5, s6, s7⟩ := hSw; go_simp; try with_reducible rfl
              simp only [Act.put, List.setIfInBounds_toArray, List.set_cons_zero, List.set_cons_succ]
              refine wpAnyH_takeD (i := 14) 80 (v := ?_) rfl rfl (by kernel_rfl) (by kernel_rfl) (by kernel_rfl) hPF (Or.inl ⟨by kernel_rfl, ?_⟩) hHeld ?_
              rotate_left
              · intro w hSw; obtain ⟨s0, s1, s2, s3, s4, s5, s6, s7⟩ := hSw; go_simp; try with_reducible rfl
              simp only [Act.put, List.setIfInBounds_toArray, List.set_cons_zero, List.set_cons_succ]
              refine wpAnyH_takeD (i := 15) 81 (v := ?_) rfl rfl (by kernel_rfl) (by kernel_rfl) (by kernel_rfl) hPF (Or.inl ⟨by kernel_rfl, ?_⟩) hHeld ?_
              rotate_left
              · intro w hSw; obtain ⟨s0, s1, s2, s3, s4, s5, s6, s7⟩ := hSw; go_simp; try with_reducible rfl
              simp only [Act.put, List.setIfInBounds_toArray, List.set_cons_zero, List.set_cons_succ]
              refine wpAnyH_takeD (i := 16) 82 (v := ?_) rfl rfl (by kernel_rfl) (by kernel_rfl) (by kernel_rfl) hPF (Or.inl ⟨by kernel_rfl, ?_⟩) hHeld ?_
              rotate_left
              · intro w hSw; obtain ⟨s0, s1, s2, s3, s4, s5, s6, s7⟩ := hSw; go_simp; try with_reducible rfl
              simp only [Act.put, List.setIfInBounds_toArray, List.set_cons_zero, List.set_cons_succ]
              refine wpAnyH_takeD (i := 18) 84 (v := ?_) rfl rfl (by kernel_rfl) (by kernel_rfl) (by kernel_rfl) hPF (Or.inl ⟨by kernel_rfl, ?_⟩) hHeld ?_
              rotate_left
              · intro w hSw; obtain ⟨s0, s1, s2, s3, s4, s5, s6, s7⟩ := hSw; go_simp; try with_reducible rfl
              simp only [Act.put, List.setIfInBounds_toArray, List.set_cons_zero, List.set_cons_succ]
              refine wpAnyH_takeD (i := 19) 85 (v := ?_) rfl rfl (by kernel_rfl) (by kernel_rfl) (by kernel_rfl) hPF (Or.inl ⟨by kernel_rfl, ?_⟩) hHeld ?_
              rotate_left
              · intro w hSw; obtain ⟨s0, s1, s2, s3, s4, s5, s6, s7⟩ := hSw; go_simp; try with_reducible rfl
              simp only [Act.put, List.setIfInBounds_toArray, List.set_cons_zero, List.set_cons_succ]
              refine wpAnyH_takeD (i := 20) 86 (v := ?_) rfl rfl (by kernel_rfl) (by kernel_rfl) (by kernel_rfl) hPF (Or.inl ⟨by kernel_rfl, ?_⟩) hHeld ?_
              rotate_left
              · intro w hSw; obtain ⟨s0, s1, s2, s3, s4, s5, s6, s7⟩ := hSw; go_simp; try with_reducible rfl
              simp only [Act.put, List.setIfInBounds_toArray, List.set_cons_zero, List.set_cons_succ]
              refine wpAnyH_takeD (i := 21) 87 (v := ?_) rfl rfl (by kernel_rfl) (by kernel_rfl) (by kernel_rfl) hPF (Or.inl ⟨by kernel_rfl, ?_⟩) hHeld ?_
              rotate_left
              · intro w hSw; obtain ⟨s0, s1, s2, s3, s4, s5, s6, s7⟩ := hSw; go_simp; try with_reducible rfl
              simp only [Act.put, List.setIfInBounds_toArray, List.set_cons_zero, List.set_cons_succ]
              refine wpAnyH_takeD (i := 22) 88 (v := ?_) rfl rfl (by kernel_rfl) (by kernel_rfl) (by kernel_rfl) hPF (Or.inl ⟨by kernel_rfl, ?_⟩) hHeld ?_
              rotate_left
              · intro w hSw; obtain ⟨s0, s1, s2, s3, s4, s5, s6, s7⟩ := hSw; go_simp; try with_reducible rfl
              simp only [Act.put, List.setIfInBounds_toArray, List.set_cons_zero, List.set_cons_succ]
              refine wpAnyH_takeD (i := 23) 89 (v := ?_) rfl rfl (by kernel_rfl) (by kernel_rfl) (by kernel_rfl) hPF (Or.inl ⟨by kernel_rfl, ?_⟩) hHeld ?_
              rotate_left
              · intro w hSw; obtain ⟨s0, s1, s2, s3, s4, s5, s6, s7⟩ := hSw; go_simp; try with_reducible rfl
              simp only [Act.put, List.setIfInBounds_toArray, List.set_cons_zero, List.set_cons_succ]
              refine wpAnyH_takeD (i := 24) 90 (v := ?_) rfl rfl (by kernel_rfl) (by kernel_rfl) (by kernel_rfl) hPF (Or.inl ⟨by kernel_rfl, ?_⟩) hHeld ?_
              rotate_left
              · intro w hSw; obtain ⟨s0, s1, s2, s3, s4, s5, s6, s7⟩ := hSw; go_simp; try with_reducible rfl
              simp only [Act.put, List.setIfInBounds_toArray, List.set_cons_zero, List.set_cons_succ]
              refine wpAnyH_takeD (i := 25) 91 (v := ?_) rfl rfl (by kernel_rfl) (by kernel_rfl) (by kernel_rfl) hPF (Or.inl ⟨by kernel_rfl, ?_⟩) hHeld ?_
              rotate_left
              · intro w hSw; obtain ⟨s0, s1, s2, s3, s4, s5, s6, s7⟩ := hSw; go_simp; try with_reducible rfl
              simp only [Act.put, List.setIfInBounds_toArray, List.set_cons_zero, List.set_cons_succ]
              refine wpAnyH_takeD (i := 26) 92 (v := ?_) rfl rfl (by kernel_rfl) (by kernel_rfl) (by kernel_rfl) hPF (Or.inl ⟨by kernel_rfl, ?_⟩) hHeld ?_
              rotate_left
              · intro w hSw; obtain ⟨s0, s1, s2, s3, s4, s5, s6, s7⟩ := hSw; go_simp; try with_reducible rfl
              simp only [Act.put, List.setIfInBounds_toArray, List.set_cons_zero, List.set_cons_succ]
              refine wpAnyH_ready (rs := [7, 17]) (by kernel_rfl) (by simp) ?_
              refine AllReadyH.cons rfl (fun K hK => ?_) (AllReadyH.cons rfl (fun K hK => ?_) AllReadyH.nil)
              · go_simp
                refine hK.out _ _ cDB (fun hHeld2 => ?_)
                clear hK K hHeld
                have hHeld := hHeld2
                clear hHeld2
                try simp only [Act.put, List.setIfInBounds_toArray, List.set_cons_zero, List.set_cons_succ]
                refine wpAnyH_ready (rs := [17]) (by kernel_rfl) (by simp) ?_
                refine AllReadyH.cons rfl (fun K hK => ?_) AllReadyH.nil
                go_simp
                refine hK.out _ _ cDB (fun hHeld2 => ?_)
                clear hK K hHeld
                have hHeld := hHeld2
                clear hHeld2
                try simp only [Act.put, List.setIfInBounds_toArray, List.set_cons_zero, List.set_cons_succ]
                refine wpAnyH_ready (rs := [27]) (by kernel_rfl) (by simp) ?_
                refine AllReadyH.cons rfl (fun K hK => ?_) AllReadyH.nil
                go_simp
                go_at_call 68
                (with_reducible (refine (HBT2.out _).mono ?_))
                rintro e w5 ⟨rfl, b5⟩
                have cA : w5.cell? ⟨G, 0, none⟩ = some (.int .i64 a) ∧ w5.cell? ⟨G, 1, none⟩ = some (.int .i64 xpa) ∧ w5.cell? ⟨G, 2, none⟩ = some (.int .i64 b) ∧ w5.cell? ⟨G, 3, none⟩ = some (.int .i64 xpb) ∧ w5.cell? ⟨G, 4, none⟩ = some (.int .i64 xca) ∧ w5.cell? ⟨G, 5, none⟩ = some (.int .i64 xcb) ∧ w5.cell? ⟨ba, oa + a, none⟩ = some (.int .i64 fa) ∧ w5.cell? ⟨ba, oa + b, none⟩ = some (.int .i64 fb) := keepBB w5 b5
                refine hK.out _ _ cA (fun hHeld2 => ?_)
                clear hK K hHeld
                have hHeld := hHeld2
                clear hHeld2
                try simp only [Act.put, List.setIfInBounds_toArray, List.set_cons_zero, List.set_cons_succ]
                have hx := HP2.out w5 b5
                obtain ⟨x0, x1, x2, x3⟩ := hx.2.2.cells HL.out.2.2.1.1
                have f0 := hx.2.2.frozen (a * 4)
                have f1 := hx.2.2.frozen (a * 4 + 1)
                have f2 := hx.2.2.frozen (a * 4 + 2)
                have f3 := hx.2.2.frozen (a * 4 + 3)
                have cB := keepOB w5 ⟨v0, v1, v2, v3⟩ cA
                refine wpAnyH_takeD (i := 28) 94 (v := ?_) rfl rfl (by kernel_rfl) (by kernel_rfl) (by kernel_rfl) hPF (Or.inl ⟨by kernel_rfl, ?_⟩) hHeld ?_
                rotate_left
                · intro w hSw; obtain ⟨s0, s1, s2, s3, s4, s5, s6, s7⟩ := hSw; go_simp; try with_reducible rfl
                simp only [Act.put, List.setIfInBounds_toArray, List.set_cons_zero, List.set_cons_succ]
                refine wpAnyH_ready (rs := [29]) (by kernel_rfl) (by simp) ?_
                refine AllReadyH.cons rfl (fun K hK => ?_) AllReadyH.nil
                go_simp
                refine hK.out _ _ cB (fun hHeld2 => ?_)
                clear hK K hHeld
                have hHeld := hHeld2
                clear hHeld2
                try simp only [Act.put, List.setIfInBounds_toArray, List.set_cons_zero, List.set_cons_succ]
                refine wpAnyH_done (by kernel_rfl) ?_ _
                have HEND := Lib.hid (show VsAt (put4at w5 g (a * 4) ⟨v0, v1, v2, v3⟩) g n (foldK f (l.map Li.lk) (q + 1) (sweeps f (linkE (l.map Li.lk)) (t * k + s))) ∧ Below w.heap.size w (put4at w5 g (a * 4) ⟨v0, v1, v2, v3⟩) from ⟨by rw [HST2.out]; exact hx.1, hx.2.1⟩)
                clear hHeld hPF x0 x1 x2 x3 f0 f1 f2 f3 cA cB cDB keepBB keepOB u0 u1 u2 u3 y0 y1 y2 y3 b5 hx HBT2 HP2
                go_wp2_with fail
                go_roundw
                case rel =>
                  rw [HJQ.out]
                  exact ⟨q + 1, hlq, by rw [Int.natCast_add]; rfl, HEND⟩
                case measure =>
                  rw [HJQ.out]
                  show k - ((q : Int) + 1).toNat < k - ((q : Int)).toNat
                  omega
              · go_simp
                refine hK.out _ _ cDB (fun hHeld2 => ?_)
                clear hK K hHeld
                have hHeld := hHeld2
                clear hHeld2
                try simp only [Act.put, List.setIfInBounds_toArray, List.set_cons_zero, List.set_cons_succ]
                refine wpAnyH_ready (rs := [7]) (by kernel_rfl) (by simp) ?_
                refine AllReadyH.cons rfl (fun K hK => ?_) AllReadyH.nil
                go_simp
                refine hK.out _ _ cDB (fun hHeld2 => ?_)
                clear hK K hHeld
                have hHeld := hHeld2
                clear hHeld2
                try simp only [Act.put, List.setIfInBounds_toArray, List.set_cons_zero, List.set_cons_succ]
                refine wpAnyH_ready (rs := [27]) (by kernel_rfl) (by simp) ?_
                refine AllReadyH.cons rfl (fun K hK => ?_) AllReadyH.nil
                go_simp
                go_at_call 68
                (with_reducible (refine (HBT2.out _).mono ?_))
                rintro e w5 ⟨rfl, b5⟩
                have cA : w5.cell? ⟨G, 0, none⟩ = some (.int .i64 a) ∧ w5.cell? ⟨G, 1, none⟩ = some (.int .i64 xpa) ∧ w5.cell? ⟨G, 2, none⟩ = some (.int .i64 b) ∧ w5.cell? ⟨G, 3, none⟩ = some (.int .i64 xpb) ∧ w5.cell? ⟨G, 4, none⟩ = some (.int .i64 xca) ∧ w5.cell? ⟨G, 5, none⟩ = some (.int .i64 xcb) ∧ w5.cell? ⟨ba, oa + a, none⟩ = some (.int .i64 fa) ∧ w5.cell? ⟨ba, oa + b, none⟩ = some (.int .i64 fb) := keepBB w5 b5
                refine hK.out _ _ cA (fun hHeld2 => ?_)
                clear hK K hHeld
                have hHeld := hHeld2
                clear hHeld2
                try simp only [Act.put, List.setIfInBounds_toArray, List.set_cons_zero, List.set_cons_succ]
                have hx := HP2.out w5 b5
                obtain ⟨x0, x1, x2, x3⟩ := hx.2.2.cells HL.out.2.2.1.1
                have f0 := hx.2.2.frozen (a * 4)
                have f1 := hx.2.2.frozen (a * 4 + 1)
                have f2 := hx.2.2.frozen (a * 4 + 2)
                have f3 := hx.2.2.frozen (a * 4 + 3)
                have cB := keepOB w5 ⟨v0, v1, v2, v3⟩ cA
                refine wpAnyH_takeD (i := 28) 94 (v := ?_) rfl rfl (by kernel_rfl) (by kernel_rfl) (by kernel_rfl) hPF (Or.inl ⟨by kernel_rfl, ?_⟩) hHeld ?_
                rotate_left
                · intro w hSw; obtain ⟨s0, s1, s2, s3, s4, s5, s6, s7⟩ := hSw; go_simp; try with_reducible rfl
                simp only [Act.put, List.setIfInBounds_toArray, List.set_cons_zero, List.set_cons_succ]
                refine wpAnyH_ready (rs := [29]) (by kernel_rfl) (by simp) ?_
                refine AllReadyH.cons rfl (fun K hK => ?_) AllReadyH.nil
                go_simp
                refine hK.out _ _ cB (fun hHeld2 => ?_)
                clear hK K hHeld
                have hHeld := hHeld2
                clear hHeld2
                try simp only [Act.put, List.setIfInBounds_toArray, List.set_cons_zero, List.set_cons_succ]
                refine wpAnyH_done (by kernel_rfl) ?_ _
                have HEND := Lib.hid (show VsAt (put4at w5 g (a * 4) ⟨v0, v1, v2, v3⟩) g n (foldK f (l.map Li.lk) (q + 1) (sweeps f (linkE (l.map Li.lk)) (t * k + s))) ∧ Below w.heap.size w (put4at w5 g (a * 4) ⟨v0, v1, v2, v3⟩) from ⟨by rw [HST2.out]; exact hx.1, hx.2.1⟩)
                clear hHeld hPF x0 x1 x2 x3 f0 f1 f2 f3 cA cB cDB keepBB keepOB u0 u1 u2 u3 y0 y1 y2 y3 b5 hx HBT2 HP2
                go_wp2_with fail
                go_roundw
                case rel =>
                  rw [HJQ.out]
                  exact ⟨q + 1, hlq, by rw [Int.natCast_add]; rfl, HEND⟩
                case measure =>
                  rw [HJQ.out]
                  show k - ((q : Int) + 1).toNat < k - ((q : Int)).toNat
                  omega
end Go.Proofs.Ytadejdhdkkfliaa
