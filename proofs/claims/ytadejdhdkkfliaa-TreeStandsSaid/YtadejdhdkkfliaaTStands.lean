/- Up to eight bridges, whatever they heard ahead, that hear all that is said a few ticks later: within Bound ticks the links that are open at both ends are the tree's, and stay so (P12.2). No condition. -/
import Derived.Test.YtadejdhdkkfliaaTin
import Derived.Test.YtadejdhdkkfliaaLopen
import Derived.Test.YtadejdhdkkfliaaLfits
import Derived.Test.YtadejdhdkkfliaaTalive
namespace Go.Proofs.Ytadejdhdkkfliaa
open Go.ChangeShapes Go.WideShapes Go.ChangeAt Go.RowKit
set_option maxRecDepth 100000

theorem delay_in (z : Int) : 1 ≤ wrap64 (1 + wrap64 ((IntKind.u64.wrap z).tmod 8)) ∧ wrap64 (1 + wrap64 ((IntKind.u64.wrap z).tmod 8)) ≤ 8 := by
  rw [IntKind.wrap_u64]
  have h0 : 0 ≤ z % 18446744073709551616 := Int.emod_nonneg _ (by decide)
  rw [Int.tmod_eq_emod_of_nonneg h0]
  unfold wrap64
  omega
set_option maxHeartbeats 16000000 in
theorem walkTreeStands (A : Option Addr) (n c : Nat) (zs : List Int) (A2 : Option Addr) (c2 : Nat) (l : List Li) (A3 : Option Addr) (c3 : Nat) (js : List Jk) (A4 : Option Addr) (kd c4 : Nat) (zd : List Int) (w : World) (hz : IsRow .i64 w A n c zs) (hl : LiAt w w.heap.size A2 l ∧ (∀ x ∈ l, x.ok) ∧ l.length ≤ maxLen) (hj : JkAt w w.heap.size A3 js ∧ (∀ x ∈ js, x.ok) ∧ js.length ≤ maxLen) (hd : IsRow .i64 w A4 kd c4 zd) :
    Calls Try.prog 5 #[.slice A n c, .slice A2 l.length c2, .slice A3 js.length c3, .slice A4 kd c4] w fun e w' => e = .returned (.bool true) ∧ Below w.heap.size w w' := by
  have hid : IdAt w w.heap.size A n (fun k => zs.getD k 0) := hz.id
  have hf : ∀ i, i < n → zs.getD i 0 ≤ 9223372036854775807 := fun i hi => by
    rcases hz with ⟨_, h, _, _⟩ | ⟨_, _, h1, _, h2, _, _, h3⟩
    · omega
    · have hl : i < zs.length := by omega
      rw [List.getD_eq_getElem?_getD, List.getElem?_eq_getElem hl]
      exact (wf_in (h3 _ (List.getElem_mem hl))).2
  have hnc : n ≤ c ∧ n ≤ maxLen := by
    rcases hz with ⟨_, h, h2, _⟩ | ⟨_, _, h1, h2, _⟩
    · exact ⟨by omega, by omega⟩
    · exact ⟨h1, by omega⟩
  obtain ⟨f, hff⟩ : ∃ f : Nat → Int, (fun k => zs.getD k 0) = f := ⟨_, rfl⟩
  rw [hff] at hid
  have hf : ∀ i, i < n → f i ≤ 9223372036854775807 := fun i hi => by rw [← hff]; exact hf i hi
  obtain ⟨k, hk⟩ : ∃ k, l.length = k := ⟨_, rfl⟩
  obtain ⟨kj, hkj⟩ : ∃ k, js.length = k := ⟨_, rfl⟩
  have H := Lib.hid (And.intro hid (And.intro hf (And.intro hnc (And.intro hl (And.intro hj (And.intro hd (And.intro hk hkj)))))))
  rw [hk, hkj]
  clear hz hid hf hnc hff hl hk hj hd hkj
  go_enter Try.func5, Try.ntmps5
  go_wp2_with fail
  refine (talive_any w).mono ?_
  rintro e w1 ⟨rfl, b1⟩
  have HF := Lib.hid (fits_any A n c f A2 c2 l w1 ((H.out.1.below b1).more b1.size) H.out.2.1 H.out.2.2.1.1 ((H.out.2.2.2.1.1.below b1).more b1.size) H.out.2.2.2.1.2.1 H.out.2.2.1.2 H.out.2.2.2.1.2.2)
  rw [H.out.2.2.2.2.2.2.1] at HF
  have B1 := Lib.hid b1
  clear b1
  go_wp2_with fail
  refine HF.out.mono ?_
  rintro e w2 ⟨hor, b2⟩
  have B2 := Lib.hid (B1.out.trans (b2.mono B1.out.size))
  clear b2 HF
  rcases hor with rfl | ⟨rfl, hbig, hn1, hk16, hpos⟩
  · go_wp2_with fail
    go_ret
    exact ⟨rfl, B2.out⟩
  by_cases g1 : kj > 40
  · go_wp2_with fail
    go_ret
    exact ⟨rfl, B2.out⟩
  by_cases g2 : kd > 100
  · go_wp2_with fail
    go_ret
    exact ⟨rfl, B2.out⟩
  have hn8 := hbig.few
  have HK := Lib.hid (And.intro hbig (And.intro hn1 (And.intro hk16 (And.intro hpos hn8))))
  have hw := world_any A n c f A2 c2 l A3 c3 js w2 ((H.out.1.below B2.out).more B2.out.size) ((H.out.2.2.2.1.1.below B2.out).more B2.out.size) ((H.out.2.2.2.2.1.1.below B2.out).more B2.out.size) H.out.2.2.2.2.1.2.1 hbig (fun x hx => ⟨hbig.named x hx, H.out.2.1 x hx⟩) hn8 (by rw [H.out.2.2.2.2.2.2.1]; exact hk16) (by rw [H.out.2.2.2.2.2.2.2]; omega) hpos
  rw [H.out.2.2.2.2.2.2.1, H.out.2.2.2.2.2.2.2] at hw
  have HW := Lib.hid hw
  clear hw hbig hk16 hpos
  go_wp2_with fail
  refine HW.out.mono ?_
  rintro e w3 ⟨A0, c0, g, gp, B, rfl, ho, hA, hP, hg, b3⟩
  obtain ⟨bo, rfl, _, _, _⟩ := ho.at_ (k := 0) (by rw [List.length_map, List.length_range]; omega)
  have HS := Lib.hid (show InO w2 (some ⟨bo, 0, none⟩) c0 n f g gp l 1 w3 0 none 0 B [] from ⟨RunP.start hP, ⟨_, _, ⟨b3, hA, ho, hg, fun _ _ => .inl rfl⟩⟩, World.ownsRow_nil _ _ _ _, by simp, by simp⟩)
  clear ho hA hP hg b3 HW
  go_wp2_with fail
  have HBD := Lib.hid (bound_any n hn1 hn8 w3)
  obtain ⟨E, hE⟩ : ∃ E, (10 + n + 1) * 27 + 8 = E := ⟨_, rfl⟩
  rw [hE] at HBD
  have E521 : E ≤ 521 := by omega
  have HE := Lib.hid hE
  clear hE hn1 hn8
  refine HBD.out.mono ?_
  rintro e w4 ⟨rfl, b4⟩
  have HS4 := Lib.hid (show InO w2 (some ⟨bo, 0, none⟩) c0 n f g gp l 1 w4 0 none 0 B [] from ⟨HS.out.run, HS.out.mem.imp fun _ h => h.imp fun _ h => h.below b4, World.ownsRow_nil _ _ _ _, by simp, by simp⟩)
  clear b4 HS HBD
  go_wp2_with fail
  go_loopw [10, 11, 13] (fun yv nv tv wr => ∃ (t N m1 : Nat) (A1 : Option Addr) (c1 : Nat), 1 ≤ t ∧ t ≤ E + 31 ∧ tv = .int .i64 t ∧ nv = .int .i64 N ∧ yv = .slice A1 m1 c1 ∧ Hid (∃ B W, W.length = m1 ∧ InO w2 (some ⟨bo, 0, none⟩) c0 n f g gp l t wr N A1 c1 B W)) (fun _ _ tv _ => E + 31 - (intOf tv).toNat)
  case atStart => exact ⟨1, 0, 0, none, 0, by omega, by omega, rfl, rfl, rfl, Lib.hid ⟨B, [], rfl, HS4.out⟩⟩
  case round =>
    clear HS4
    obtain ⟨t, N, m1, A1, c1, ht1, ht2, rfl, rfl, rfl, hS⟩ := hrel
    obtain ⟨B', W, hlen, hI⟩ := hS.out
    have HI := Lib.hid (And.intro hlen hI)
    clear hlen hI hS
    by_cases hlt : t ≤ E + 30
    rotate_left
    · have t1 : ¬ (t : Int) ≤ (E : Int) + 30 := by omega
      have hbel : Below w.heap.size w wr := by
        obtain ⟨_, _, hm⟩ := HI.out.2.mem
        exact B2.out.trans (hm.bel.mono B2.out.size)
      have HBEL := Lib.hid hbel
      clear hbel hlt
      go_wp2_with fail
      go_ret
      exact ⟨rfl, HBEL.out⟩
    have t1 : (t : Int) ≤ (E : Int) + 30 := by omega
    have hm1 : m1 ≤ 48 * 551 := by rw [← HI.out.1]; have := HI.out.2.len; omega
    have hnn : N ≤ 48 * 551 := by have := HI.out.2.cnt; omega
    obtain ⟨hS, hhS⟩ : ∃ hS, wr.heap.size = hS := ⟨_, rfl⟩
    have hin : InL w2 (some ⟨bo, 0, none⟩) c0 n f g gp l t wr hS A1 c1 W 0 none 0 B' [] := ⟨by rw [List.nil_append, List.drop_zero]; exact HI.out.2.run, fun x hx => (by cases hx), HI.out.2.mem, HI.out.2.way, World.ownsRow_nil _ _ _ _, by omega, Nat.le_refl _⟩
    have HL := Lib.hid hin
    have HFAR := Lib.hid (show (∀ b, A1 = some b → b.block < hS) ∧ w2.heap.size ≤ hS from ⟨fun b hb => by rw [← hhS]; exact (World.ownsRow.lt HI.out.2.way b.block (by rw [hb]; rfl)).2, by obtain ⟨_, _, hm⟩ := HI.out.2.mem; rw [← hhS]; exact hm.bel.size⟩)
    clear hin hhS
    go_wp2_with fail
    go_loopw [14, 55] (fun lv iv wq => ∃ (i ml : Nat) (A5 : Option Addr) (c5 : Nat), i ≤ m1 ∧ iv = .int .i64 i ∧ lv = .slice A5 ml c5 ∧ Hid (∃ B La, La.length = ml ∧ InL w2 (some ⟨bo, 0, none⟩) c0 n f g gp l t wq hS A1 c1 W i A5 c5 B La)) (fun _ iv _ => m1 - (intOf iv).toNat)
    case atStart => exact ⟨0, 0, none, 0, Nat.zero_le _, rfl, rfl, Lib.hid ⟨B', [], rfl, HL.out⟩⟩
    case round =>
      clear HL
      obtain ⟨i, ml, A5, c5, hi, rfl, rfl, hS2⟩ := hrel
      obtain ⟨B2', La, hlen, hI⟩ := hS2.out
      have HI2 := Lib.hid (And.intro hlen hI)
      clear hlen hI hS2
      by_cases hlq : i < m1
      · have hiW : i < W.length := by rw [HI.out.1]; exact hlq
        have i1 : (i : Int) < m1 := by omega
        have i0 : (0 : Int) ≤ i := by omega
        have HJI := Lib.hid (show wrap64 ((i : Int) + 1) = (i : Int) + 1 from IntWalk.wrap64_in _ (by omega))
        obtain ⟨bw, hbw, _, hbl, hc⟩ := HI2.out.2.way.at_ hiW
        subst hbw
        have hok := HI2.out.2.run.let_ _ (HI2.out.2.mem_ hiW)
        obtain ⟨x, hx⟩ : ∃ x, W.getD i lm0 = x := ⟨_, rfl⟩
        rw [hx] at hc hok
        obtain ⟨xd, xt, xp, m0, m1', m2, m3, m4, m5, m6⟩ := x
        have hto : 0 ≤ xt ∧ xt < n := hok.to
        obtain ⟨y, rfl⟩ : ∃ y : Nat, xt = y := ⟨xt.toNat, by omega⟩
        have hy : y < n := by omega
        obtain ⟨p0, p1, p2, p3, p4, p5, p6, p7, p8, p9⟩ := hc
        have hbx := Blk.new wr 63 #[.int .i64 xd, .int .i64 y, .int .i64 xp, .int .i64 m0, .int .i64 m1', .int .i64 m2, .int .i64 m3, .int .i64 m4, .int .i64 m5, .bool m6]
        have hba := bel_alloc wr (.cells #[.int .i64 xd, .int .i64 y, .int .i64 xp, .int .i64 m0, .int .i64 m1', .int .i64 m2, .int .i64 m3, .int .i64 m4, .int .i64 m5, .bool m6] 63)
        obtain ⟨fw, ch, hm⟩ := HI2.out.2.mem
        have hmV := hm.below hba
        have hlt2 := hm.all.lt hy
        obtain ⟨V, hV⟩ : ∃ V, wr.alloc (.cells #[.int .i64 xd, .int .i64 y, .int .i64 xp, .int .i64 m0, .int .i64 m1', .int .i64 m2, .int .i64 m3, .int .i64 m4, .int .i64 m5, .bool m6] 63) = V := ⟨_, rfl⟩
        obtain ⟨G, hG⟩ : ∃ G, wr.heap.size = G := ⟨_, rfl⟩
        rw [hV] at hbx hba hmV
        rw [hG] at hbx hlt2
        have r0 : V.cell? ⟨G, 0, none⟩ = some (.int .i64 xd) := hbx.cell 0
        have r1 : V.cell? ⟨G, 1, none⟩ = some (.int .i64 y) := hbx.cell 1
        have r2 : V.cell? ⟨G, 2, none⟩ = some (.int .i64 xp) := hbx.cell 2
        have r3 : V.cell? ⟨G, 3, none⟩ = some (.int .i64 m0) := hbx.cell 3
        have r4 : V.cell? ⟨G, 4, none⟩ = some (.int .i64 m1') := hbx.cell 4
        have r5 : V.cell? ⟨G, 5, none⟩ = some (.int .i64 m2) := hbx.cell 5
        have r6 : V.cell? ⟨G, 6, none⟩ = some (.int .i64 m3) := hbx.cell 6
        have r7 : V.cell? ⟨G, 7, none⟩ = some (.int .i64 m4) := hbx.cell 7
        have r8 : V.cell? ⟨G, 8, none⟩ = some (.int .i64 m5) := hbx.cell 8
        have r9 : V.cell? ⟨G, 9, none⟩ = some (.bool m6) := hbx.cell 9
        have HX := Lib.hid (And.intro hx (And.intro hiW (And.intro hok (And.intro hy (And.intro hlt2 (And.intro hbx (And.intro hba (And.intro hm hmV))))))))
        have y1 : (y : Int) < n := by omega
        have y0 : (0 : Int) ≤ y := by omega
        clear hx hiW hok hlt2 hbx hba hm hmV hbl hto
        by_cases hd : xd ≤ (t : Int)
        · have d1 : decide (xd ≤ (t : Int)) = true := decide_eq_true hd
          have sa : V.cell? ⟨bo, y, none⟩ = some (.pointer (some ⟨g y, 0, none⟩)) := HX.out.2.2.2.2.2.2.2.2.ptr.cell_ hy
          have HB := Lib.hid (show Below wr.heap.size wr V.drew from HX.out.2.2.2.2.2.2.1.drew)
          have HTA := Lib.hid (fun (V' : World) (h : TreeW V' (g y) (gp y) (f y) 6 (B2' y) (fw y) (ch y)) => thear_f h (by decide) (HI2.out.2.run.ok y HX.out.2.2.2.1) (Int.natCast_nonneg t) xp ⟨m0, m1', m2, m3, m4, m5, m6⟩ HX.out.2.2.1.int HX.out.2.2.1.ok)
          simp only [Bp.v, Bp.cells] at HTA
          have HTT := Lib.hid (show TreeW V.drew (g y) (gp y) (f y) 6 (B2' y) (fw y) (ch y) from (HX.out.2.2.2.2.2.2.2.1.below HB.out).all.at_ y hy)
          have HOD := Lib.hid (show OwnP V.drew w2.heap.size (some ⟨bo, 0, none⟩) c0 ((List.range n).map g) from (HX.out.2.2.2.2.2.2.2.1.below HB.out).ptr)
          have HD := Lib.hid hd
          clear hd hy
          go_wp2_with fail
          have cD : V.drew.cell? ⟨G, 1, none⟩ = some (.int .i64 y) ∧ V.drew.cell? ⟨bo, y, none⟩ = some (.pointer (some ⟨g y, 0, none⟩)) ∧ V.drew.cell? ⟨G, 2, none⟩ = some (.int .i64 xp) ∧ V.drew.cell? ⟨G, 3, none⟩ = some (.int .i64 m0) ∧ V.drew.cell? ⟨G, 4, none⟩ = some (.int .i64 m1') ∧ V.drew.cell? ⟨G, 5, none⟩ = some (.int .i64 m2) ∧ V.drew.cell? ⟨G, 6, none⟩ = some (.int .i64 m3) ∧ V.drew.cell? ⟨G, 7, none⟩ = some (.int .i64 m4) ∧ V.drew.cell? ⟨G, 8, none⟩ = some (.int .i64 m5) ∧ V.drew.cell? ⟨G, 9, none⟩ = some (.bool m6) := ⟨r1, sa, r2, r3, r4, r5, r6, r7, r8, r9⟩
          go_region_held3 (fun w' => w'.cell? ⟨G, 1, none⟩ = some (.int .i64 y) ∧ w'.cell? ⟨bo, y, none⟩ = some (.pointer (some ⟨g y, 0, none⟩)) ∧ w'.cell? ⟨G, 2, none⟩ = some (.int .i64 xp) ∧ w'.cell? ⟨G, 3, none⟩ = some (.int .i64 m0) ∧ w'.cell? ⟨G, 4, none⟩ = some (.int .i64 m1') ∧ w'.cell? ⟨G, 5, none⟩ = some (.int .i64 m2) ∧ w'.cell? ⟨G, 6, none⟩ = some (.int .i64 m3) ∧ w'.cell? ⟨G, 7, none⟩ = some (.int .i64 m4) ∧ w'.cell? ⟨G, 8, none⟩ = some (.int .i64 m5) ∧ w'.cell? ⟨G, 9, none⟩ = some (.bool m6))
            (first
              | (with_reducible exact cD)
              | (with_reducible exact cA))
            (first
              | (go_at_call 13; (with_reducible (refine (HTA.out _ HTT.out).mono ?_)); rintro e w5 ⟨f', r, rfl, h5, t5, hcase⟩; have hO5 := HOD.out.keep HTT.out t5; have hG5 := HX.out.2.2.2.2.2.1.drew.touch t5 (fun e => by have := HX.out.2.2.2.2.1; omega); have cA : w5.cell? ⟨G, 1, none⟩ = some (.int .i64 y) ∧ w5.cell? ⟨bo, y, none⟩ = some (.pointer (some ⟨g y, 0, none⟩)) ∧ w5.cell? ⟨G, 2, none⟩ = some (.int .i64 xp) ∧ w5.cell? ⟨G, 3, none⟩ = some (.int .i64 m0) ∧ w5.cell? ⟨G, 4, none⟩ = some (.int .i64 m1') ∧ w5.cell? ⟨G, 5, none⟩ = some (.int .i64 m2) ∧ w5.cell? ⟨G, 6, none⟩ = some (.int .i64 m3) ∧ w5.cell? ⟨G, 7, none⟩ = some (.int .i64 m4) ∧ w5.cell? ⟨G, 8, none⟩ = some (.int .i64 m5) ∧ w5.cell? ⟨G, 9, none⟩ = some (.bool m6) := ⟨hG5.cell 1, hO5.cell_ HX.out.2.2.2.1, hG5.cell 2, hG5.cell 3, hG5.cell 4, hG5.cell 5, hG5.cell 6, hG5.cell 7, hG5.cell 8, hG5.cell 9⟩))
          have HE := Lib.hid (InL.heard HK.out.1 HI2.out.2 HX.out.2.1 HB.out HX.out.2.2.2.1 HX.out.1 rfl HD.out HX.out.2.2.2.2.2.2.2.1 t5 h5 hcase)
          clear HOD cD cA hG5 hO5 h5 t5 HTA HTT r0 r1 r2 r3 r4 r5 r6 r7 r8 r9 sa hcase
          go_wp2_with fail
          go_roundw
          case rel =>
            try rw [HJI.out]
            exact ⟨i + 1, ml, A5, c5, hlq, by rw [Int.natCast_add]; rfl, rfl, Lib.hid ⟨_, La, HI2.out.1, HE.out⟩⟩
          case measure =>
            try rw [HJI.out]
            show m1 - ((i : Int) + 1).toNat < m1 - ((i : Int)).toNat
            omega
        · have d1 : decide (xd ≤ (t : Int)) = false := decide_eq_false hd
          have HB := Lib.hid (show Below wr.heap.size wr (V.alloc (.cells #[.int .i64 xd, .int .i64 y, .int .i64 xp, .int .i64 m0, .int .i64 m1', .int .i64 m2, .int .i64 m3, .int .i64 m4, .int .i64 m5, .bool m6] 63)) from HX.out.2.2.2.2.2.2.1.trans ((bel_alloc V (.cells #[.int .i64 xd, .int .i64 y, .int .i64 xp, .int .i64 m0, .int .i64 m1', .int .i64 m2, .int .i64 m3, .int .i64 m4, .int .i64 m5, .bool m6] 63)).mono HX.out.2.2.2.2.2.2.1.size))
          obtain ⟨a', c', w6, hr, ho, hg⟩ := append_lm (V.alloc (.cells #[.int .i64 xd, .int .i64 y, .int .i64 xp, .int .i64 m0, .int .i64 m1', .int .i64 m2, .int .i64 m3, .int .i64 m4, .int .i64 m5, .bool m6] 63)) hS A5 c5 ml La HI2.out.1 (row_below HI2.out.2.lat HB.out) V.heap.size ⟨xd, y, xp, ⟨m0, m1', m2, m3, m4, m5, m6⟩⟩ (Blk.new V 63 _) (by have := HI2.out.2.len; omega) (Nat.le_trans HI2.out.2.size HB.out.size)
          have HE := Lib.hid (InL.waits HI2.out.2 HX.out.2.1 HB.out HX.out.1 (show (t : Int) < xd by omega) HFAR.out.1 HFAR.out.2 ho (by rw [HI2.out.1]; exact hg))
          have HRUN := Lib.hid hr
          clear hr ho hg hd hy
          go_wp2_with (at_builtin; refine Lib.wpList_append_run _ rfl _ _ _ _ rfl _ _ rfl rfl _ _ HRUN.out ?_)
          go_roundw
          case rel =>
            try rw [HJI.out]
            exact ⟨i + 1, ml + 1, a', c', hlq, by rw [Int.natCast_add]; rfl, rfl, Lib.hid ⟨B2', _, by rw [List.length_append, HI2.out.1]; rfl, HE.out⟩⟩
          case measure =>
            try rw [HJI.out]
            show m1 - ((i : Int) + 1).toNat < m1 - ((i : Int)).toNat
            omega
      · obtain rfl : m1 = i := by omega
        clear hlq hi
        have hb0 : InB w2 (some ⟨bo, 0, none⟩) c0 n f g gp l t wr 0 N A5 c5 B2' La := by
          have h := HI2.out.2
          refine ⟨?_, h.due, h.mem, lown_base h.lat HFAR.out.2, by have h1 := HI2.out.2.len; have h2 := HI.out.1; have h3 := HI.out.2.len; omega, by have := HI.out.2.cnt; omega⟩
          have hr := h.run
          rw [List.drop_of_length_le (by rw [HI.out.1]; exact Nat.le_refl _), List.append_nil] at hr
          exact hr.clock fun x => ⟨fun h => absurd h (Nat.not_lt_zero _), fun h => h.elim⟩
        have HB0 := Lib.hid (And.intro HI2.out.1 hb0)
        clear hb0 HI2 HI HFAR
        go_wp2_with fail
        go_loopw [10, 11, 82] (fun yv nv bv wq => ∃ (b N m2 : Nat) (A1 : Option Addr) (c1 : Nat), b ≤ n ∧ bv = .int .i64 b ∧ nv = .int .i64 N ∧ yv = .slice A1 m2 c1 ∧ Hid (∃ B W, W.length = m2 ∧ InB w2 (some ⟨bo, 0, none⟩) c0 n f g gp l t wq b N A1 c1 B W)) (fun _ _ bv _ => n - (intOf bv).toNat)
        case atStart => exact ⟨0, N, ml, A5, c5, Nat.zero_le _, rfl, rfl, rfl, Lib.hid ⟨B2', La, HB0.out⟩⟩
        case round =>
          clear HB0
          obtain ⟨b, N2, m2, A7, c7, hb, rfl, rfl, rfl, hS3⟩ := hrel
          obtain ⟨B3, W3, hlen, hI⟩ := hS3.out
          have HI3 := Lib.hid (And.intro hlen hI)
          clear hlen hI hS3
          by_cases hbn : b < n
          · have b1 : (b : Int) < n := by omega
            have b0 : (0 : Int) ≤ b := by omega
            have hn8 := HK.out.2.2.2.2
            have HJB := Lib.hid (show wrap64 ((b : Int) + 1) = (b : Int) + 1 from IntWalk.wrap64_in _ (by omega))
            obtain ⟨fw, ch, hm⟩ := HI3.out.2.mem
            have ta : wr.cell? ⟨bo, b, none⟩ = some (.pointer (some ⟨g b, 0, none⟩)) := hm.ptr.cell_ hbn
            have hti := tick_any (hm.all.at_ b hbn) (by decide) (HI3.out.2.run.ok b hbn) (Int.natCast_nonneg t) (Int.le_refl _) (by omega) (hm.chs b hbn)
            have hin := fun (w5 : World) (S : List Sd) (A6 : Option Addr) (c6 : Nat) t5 h5 ho => InB.tick HK.out.1 HI3.out.2 hbn hm (w5 := w5) (S := S) (A6 := A6) (c6 := c6) t5 h5 ho
            obtain ⟨F, hF⟩ : ∃ F, tickP (f b) 6 t (B3 b) = F := ⟨_, rfl⟩
            rw [hF] at hti
            simp only [hF] at hin
            obtain ⟨cb, hcb⟩ : ∃ cb, chN F (fw b) t 6 (ch b) = cb := ⟨_, rfl⟩
            rw [hcb] at hti
            simp only [hcb] at hin
            obtain ⟨S, hSd⟩ : ∃ S, saysN (f b) 6 F cb t = S := ⟨_, rfl⟩
            have h6 := says_len (f b) 6 F cb t
            rw [hSd] at hti h6
            obtain ⟨ms, hms⟩ : ∃ ms, S.length = ms := ⟨_, rfl⟩
            rw [hms] at hti h6
            have HTI := Lib.hid hti
            have HIN := Lib.hid hin
            have HSD := Lib.hid (And.intro hSd (And.intro hms (And.intro hbn hm)))
            have hN2 : N2 ≤ 48 * 551 + 48 := by have := HI3.out.2.cnt; omega
            have hm2 : m2 ≤ 48 * 551 + 48 := by rw [← HI3.out.1]; have := HI3.out.2.len; omega
            clear hti hin hSd hms hbn hm hF hcb hb
            go_wp2_with fail
            refine HTI.out.mono ?_
            rintro e w5 ⟨A6, c6, rfl, ho, _, h5, t5⟩
            obtain ⟨hIS, hRF⟩ := HIN.out w5 S A6 c6 t5 h5 ho
            obtain ⟨B4, hB4⟩ : ∃ B4, updB B3 b F = B4 := ⟨_, rfl⟩
            have hB5 : B4 b = F := by rw [← hB4]; exact updB_at _ _ _
            rw [hB4] at hIS hRF
            obtain ⟨hw, hhw⟩ : ∃ hw, wr.heap.size = hw := ⟨_, rfl⟩
            rw [hhw] at hIS
            have HIS := Lib.hid hIS
            have HRF := Lib.hid (And.intro hRF hB5)
            clear hIS hRF hB5 ho h5 t5 HTI HIN hhw ta hB4
            go_wp2_with fail
            go_loopw [10, 11, 91] (fun yv nv jv wq => ∃ (j N m3 : Nat) (A1 : Option Addr) (c1 : Nat), j ≤ ms ∧ jv = .int .i64 j ∧ nv = .int .i64 N ∧ yv = .slice A1 m3 c1 ∧ Hid (∃ Nn, (W3 ++ Nn).length = m3 ∧ InS w2 (some ⟨bo, 0, none⟩) c0 n f g gp l t wq b N A1 c1 B4 S hw A6 c6 j W3 Nn)) (fun _ _ jv _ => ms - (intOf jv).toNat)
            case atStart => exact ⟨0, N2, m2, A7, c7, Nat.zero_le _, rfl, rfl, rfl, Lib.hid ⟨[], by rw [List.append_nil]; exact HI3.out.1, HIS.out⟩⟩
            case round =>
              clear HIS
              obtain ⟨j, N3, m3, A8, c8, hj, rfl, rfl, rfl, hS4⟩ := hrel
              obtain ⟨Nn, hlen, hI⟩ := hS4.out
              have HI4 := Lib.hid (And.intro hlen hI)
              clear hlen hI hS4
              by_cases hjm : j < ms
              · have j1 : (j : Int) < ms := by omega
                have j0 : (0 : Int) ≤ j := by omega
                have HJJ := Lib.hid (show wrap64 ((j : Int) + 1) = (j : Int) + 1 from IntWalk.wrap64_in _ (by omega))
                have hjS : j < S.length := by rw [HSD.out.2.1]; exact hjm
                obtain ⟨b6, hb6, _, hbl, hc⟩ := HI4.out.2.row.at_ hjS
                subst hb6
                obtain ⟨s, hs⟩ : ∃ s, S.getD j sd0 = s := ⟨_, rfl⟩
                rw [hs] at hc
                obtain ⟨sp, q0, q1, q2, q3, q4, q5, q6⟩ := s
                obtain ⟨p0, p1, p2, p3, p4, p5, p6, p7⟩ := hc
                have hbx := Blk.new wr 52 #[.int .i64 sp, .int .i64 q0, .int .i64 q1, .int .i64 q2, .int .i64 q3, .int .i64 q4, .int .i64 q5, .bool q6]
                have hba := bel_alloc wr (.cells #[.int .i64 sp, .int .i64 q0, .int .i64 q1, .int .i64 q2, .int .i64 q3, .int .i64 q4, .int .i64 q5, .bool q6] 52)
                obtain ⟨V, hV⟩ : ∃ V, wr.alloc (.cells #[.int .i64 sp, .int .i64 q0, .int .i64 q1, .int .i64 q2, .int .i64 q3, .int .i64 q4, .int .i64 q5, .bool q6] 52) = V := ⟨_, rfl⟩
                obtain ⟨G, hG⟩ : ∃ G, wr.heap.size = G := ⟨_, rfl⟩
                rw [hV] at hbx hba
                rw [hG] at hbx
                have r0 : V.cell? ⟨G, 0, none⟩ = some (.int .i64 sp) := hbx.cell 0
                have r1 : V.cell? ⟨G, 1, none⟩ = some (.int .i64 q0) := hbx.cell 1
                have r2 : V.cell? ⟨G, 2, none⟩ = some (.int .i64 q1) := hbx.cell 2
                have r3 : V.cell? ⟨G, 3, none⟩ = some (.int .i64 q2) := hbx.cell 3
                have r4 : V.cell? ⟨G, 4, none⟩ = some (.int .i64 q3) := hbx.cell 4
                have r5 : V.cell? ⟨G, 5, none⟩ = some (.int .i64 q4) := hbx.cell 5
                have r6 : V.cell? ⟨G, 6, none⟩ = some (.int .i64 q5) := hbx.cell 6
                have r7 : V.cell? ⟨G, 7, none⟩ = some (.bool q6) := hbx.cell 7
                have hN3 : N3 ≤ 48 * 551 + 48 + 6 := by have := HI4.out.2.cnt; omega
                obtain ⟨xt, hxt⟩ : ∃ x, (wayL l b sp).1 = x := ⟨_, rfl⟩
                obtain ⟨xp, hxp⟩ : ∃ x, (wayL l b sp).2 = x := ⟨_, rfl⟩
                have hfa := far_any A2 c2 l b sp V (by
                  obtain ⟨_, _, hm⟩ := HI4.out.2.mem
                  have h1 := B2.out.trans (hm.bel.mono B2.out.size)
                  have h2 := h1.trans (hba.mono h1.size)
                  exact (H.out.2.2.2.1.1.below h2).more h2.size) (by rw [H.out.2.2.2.2.2.2.1]; exact HK.out.2.2.1)
                rw [H.out.2.2.2.2.2.2.1, hxt, hxp] at hfa
                have HFA := Lib.hid hfa
                have HXT := Lib.hid (And.intro hxt hxp)
                clear hfa hxt hxp
                have HBX := Lib.hid (And.intro hbx (And.intro hba hs))
                clear hbx hba hs hbl hjS
                by_cases hkd : kd = 0
                · have kd1 : decide (0 < kd) = false := decide_eq_false (by omega)
                  have kd2 : ¬ 0 < kd := by omega
                  clear hkd
                  go_wp2_with fail
                  refine HFA.out.mono ?_
                  rintro e w5 ⟨rfl, b5⟩
                  have HW5 := Lib.hid (And.intro b5 trivial)
                  clear b5 r0 r1 r2 r3 r4 r5 r6 r7
                  have hxt := HW5.out.2
                  by_cases hto : 0 ≤ xt
                  rotate_left
                  · have d2 : decide (0 ≤ xt) = false := decide_eq_false hto
                    have HE := Lib.hid (InS.skip HI4.out.2 (HBX.out.2.1.trans (HW5.out.1.mono HBX.out.2.1.size)) HBX.out.2.2 (by show ¬ 0 ≤ (wayL l b sp).1; rw [HXT.out.1]; exact hto))
                    clear hto hxt
                    go_wp2_with fail
                    go_roundw
                    case rel =>
                      try rw [HJJ.out]
                      exact ⟨j + 1, N3 + 1, m3, A8, c8, hjm, by rw [Int.natCast_add]; rfl, by rw [Int.natCast_add]; rfl, rfl, Lib.hid ⟨Nn, HI4.out.1, HE.out⟩⟩
                    case measure =>
                      try rw [HJJ.out]
                      show ms - ((j : Int) + 1).toNat < ms - ((j : Int)).toNat
                      omega
                  · have d2 : decide (0 ≤ xt) = true := decide_eq_true hto
                    have hmk : Mk l b t ⟨sp, ⟨q0, q1, q2, q3, q4, q5, q6⟩⟩ 1 = ⟨(t : Int) + 1, xt, xp, ⟨q0, q1, q2, q3, q4, q5, q6⟩⟩ := by
                      show (⟨(t : Int) + 1, (wayL l b sp).1, (wayL l b sp).2, ⟨q0, q1, q2, q3, q4, q5, q6⟩⟩ : Lm) = _
                      rw [HXT.out.1, HXT.out.2]
                    have hb5 := HBX.out.2.1.trans (HW5.out.1.mono HBX.out.2.1.size)
                    have HB := Lib.hid (show Below wr.heap.size wr (w5.alloc (.cells #[.int .i64 ((t : Int) + 1), .int .i64 xt, .int .i64 xp, .int .i64 q0, .int .i64 q1, .int .i64 q2, .int .i64 q3, .int .i64 q4, .int .i64 q5, .bool q6] 63)) from hb5.trans ((bel_alloc w5 (.cells #[.int .i64 ((t : Int) + 1), .int .i64 xt, .int .i64 xp, .int .i64 q0, .int .i64 q1, .int .i64 q2, .int .i64 q3, .int .i64 q4, .int .i64 q5, .bool q6] 63)).mono hb5.size))
                    obtain ⟨a', c', w6, hr, ho, hg⟩ := append_lm (w5.alloc (.cells #[.int .i64 ((t : Int) + 1), .int .i64 xt, .int .i64 xp, .int .i64 q0, .int .i64 q1, .int .i64 q2, .int .i64 q3, .int .i64 q4, .int .i64 q5, .bool q6] 63)) w2.heap.size A8 c8 m3 (W3 ++ Nn) HI4.out.1 (row_below HI4.out.2.way HB.out) w5.heap.size ⟨(t : Int) + 1, xt, xp, ⟨q0, q1, q2, q3, q4, q5, q6⟩⟩ (Blk.new w5 63 _) (by have := HI4.out.2.len; omega) (by obtain ⟨_, _, hm⟩ := HI4.out.2.mem; exact Nat.le_trans hm.bel.size HB.out.size)
                    have HE := Lib.hid (InS.more HI4.out.2 HB.out HBX.out.2.2 (by show 0 ≤ (wayL l b sp).1; rw [HXT.out.1]; exact hto) (d := 1) ⟨by omega, by omega⟩ (by rw [hmk]; exact ho) (by rw [HI4.out.1]; exact hg))
                    have HRUN := Lib.hid hr
                    have k5 := HBX.out.1.below HW5.out.1 HBX.out.1.lt
                    have s1 : w5.cell? ⟨G, 1, none⟩ = some (.int .i64 q0) := k5.cell 1
                    have s2 : w5.cell? ⟨G, 2, none⟩ = some (.int .i64 q1) := k5.cell 2
                    have s3 : w5.cell? ⟨G, 3, none⟩ = some (.int .i64 q2) := k5.cell 3
                    have s4 : w5.cell? ⟨G, 4, none⟩ = some (.int .i64 q3) := k5.cell 4
                    have s5 : w5.cell? ⟨G, 5, none⟩ = some (.int .i64 q4) := k5.cell 5
                    have s6 : w5.cell? ⟨G, 6, none⟩ = some (.int .i64 q5) := k5.cell 6
                    have s7 : w5.cell? ⟨G, 7, none⟩ = some (.bool q6) := k5.cell 7
                    clear hr ho hg hb5 hmk k5 hto hxt
                    go_wp2_with (at_builtin; refine Lib.wpList_append_run _ rfl _ _ _ _ rfl _ _ rfl rfl _ _ HRUN.out ?_)
                    go_roundw
                    case rel =>
                      try rw [HJJ.out]
                      exact ⟨j + 1, N3 + 1, m3 + 1, a', c', hjm, by rw [Int.natCast_add]; rfl, by rw [Int.natCast_add]; rfl, rfl, Lib.hid ⟨_, by rw [← List.append_assoc, List.length_append, HI4.out.1]; rfl, HE.out⟩⟩
                    case measure =>
                      try rw [HJJ.out]
                      show ms - ((j : Int) + 1).toNat < ms - ((j : Int)).toNat
                      omega
                · have kd1 : 0 < kd := by omega
                  obtain ⟨kk, hkk⟩ : ∃ kk, N3 % kd = kk := ⟨_, rfl⟩
                  have hkl : kk < kd := by rw [← hkk]; exact Nat.mod_lt _ kd1
                  obtain ⟨bd, offd, rfl, hbd, pd⟩ := H.out.2.2.2.2.2.1.at_ hkl
                  obtain ⟨z, hz⟩ : ∃ z, zd.getD kk 0 = z := ⟨_, rfl⟩
                  rw [hz] at pd
                  have hbV : Below w.heap.size w V := by
                    obtain ⟨_, _, hm⟩ := HI4.out.2.mem
                    have h1 := B2.out.trans (hm.bel.mono B2.out.size)
                    exact h1.trans (HBX.out.2.1.mono h1.size)
                  have sd : V.cell? ⟨bd, offd + kk, none⟩ = some (.int .i64 z) := (hbV.cell (p := ⟨bd, offd + kk, none⟩) hbd).trans pd
                  have hmc : ((N3 : Int) % (kd : Int)) = (kk : Int) := by rw [← hkk]; exact (Int.natCast_emod N3 kd).symm
                  have kk1 : (kk : Int) < kd := by omega
                  have kk0 : (0 : Int) ≤ kk := by omega
                  obtain ⟨hd1, hd8⟩ := delay_in z
                  obtain ⟨d, hd⟩ : ∃ d, wrap64 (1 + wrap64 ((IntKind.u64.wrap z).tmod 8)) = d := ⟨_, rfl⟩
                  rw [hd] at hd1 hd8
                  clear hkk hkl hbd pd hz hbV
                  go_wp2_with fail
                  clear hd hmc sd kk1 kk0
                  refine HFA.out.mono ?_
                  rintro e w5 ⟨rfl, b5⟩
                  have HW5 := Lib.hid (And.intro b5 trivial)
                  clear b5 r0 r1 r2 r3 r4 r5 r6 r7
                  have hxt := HW5.out.2
                  by_cases hto : 0 ≤ xt
                  rotate_left
                  · have d2 : decide (0 ≤ xt) = false := decide_eq_false hto
                    have HE := Lib.hid (InS.skip HI4.out.2 (HBX.out.2.1.trans (HW5.out.1.mono HBX.out.2.1.size)) HBX.out.2.2 (by show ¬ 0 ≤ (wayL l b sp).1; rw [HXT.out.1]; exact hto))
                    clear hto hxt
                    go_wp2_with fail
                    go_roundw
                    case rel =>
                      try rw [HJJ.out]
                      exact ⟨j + 1, N3 + 1, m3, A8, c8, hjm, by rw [Int.natCast_add]; rfl, by rw [Int.natCast_add]; rfl, rfl, Lib.hid ⟨Nn, HI4.out.1, HE.out⟩⟩
                    case measure =>
                      try rw [HJJ.out]
                      show ms - ((j : Int) + 1).toNat < ms - ((j : Int)).toNat
                      omega
                  · have d2 : decide (0 ≤ xt) = true := decide_eq_true hto
                    have hmk : Mk l b t ⟨sp, ⟨q0, q1, q2, q3, q4, q5, q6⟩⟩ d = ⟨(t : Int) + d, xt, xp, ⟨q0, q1, q2, q3, q4, q5, q6⟩⟩ := by
                      show (⟨(t : Int) + d, (wayL l b sp).1, (wayL l b sp).2, ⟨q0, q1, q2, q3, q4, q5, q6⟩⟩ : Lm) = _
                      rw [HXT.out.1, HXT.out.2]
                    have hb5 := HBX.out.2.1.trans (HW5.out.1.mono HBX.out.2.1.size)
                    have HB := Lib.hid (show Below wr.heap.size wr (w5.alloc (.cells #[.int .i64 ((t : Int) + d), .int .i64 xt, .int .i64 xp, .int .i64 q0, .int .i64 q1, .int .i64 q2, .int .i64 q3, .int .i64 q4, .int .i64 q5, .bool q6] 63)) from hb5.trans ((bel_alloc w5 (.cells #[.int .i64 ((t : Int) + d), .int .i64 xt, .int .i64 xp, .int .i64 q0, .int .i64 q1, .int .i64 q2, .int .i64 q3, .int .i64 q4, .int .i64 q5, .bool q6] 63)).mono hb5.size))
                    obtain ⟨a', c', w6, hr, ho, hg⟩ := append_lm (w5.alloc (.cells #[.int .i64 ((t : Int) + d), .int .i64 xt, .int .i64 xp, .int .i64 q0, .int .i64 q1, .int .i64 q2, .int .i64 q3, .int .i64 q4, .int .i64 q5, .bool q6] 63)) w2.heap.size A8 c8 m3 (W3 ++ Nn) HI4.out.1 (row_below HI4.out.2.way HB.out) w5.heap.size ⟨(t : Int) + d, xt, xp, ⟨q0, q1, q2, q3, q4, q5, q6⟩⟩ (Blk.new w5 63 _) (by have := HI4.out.2.len; omega) (by obtain ⟨_, _, hm⟩ := HI4.out.2.mem; exact Nat.le_trans hm.bel.size HB.out.size)
                    have HE := Lib.hid (InS.more HI4.out.2 HB.out HBX.out.2.2 (by show 0 ≤ (wayL l b sp).1; rw [HXT.out.1]; exact hto) (d := d) ⟨by omega, by omega⟩ (by rw [hmk]; exact ho) (by rw [HI4.out.1]; exact hg))
                    have HRUN := Lib.hid hr
                    have k5 := HBX.out.1.below HW5.out.1 HBX.out.1.lt
                    have s1 : w5.cell? ⟨G, 1, none⟩ = some (.int .i64 q0) := k5.cell 1
                    have s2 : w5.cell? ⟨G, 2, none⟩ = some (.int .i64 q1) := k5.cell 2
                    have s3 : w5.cell? ⟨G, 3, none⟩ = some (.int .i64 q2) := k5.cell 3
                    have s4 : w5.cell? ⟨G, 4, none⟩ = some (.int .i64 q3) := k5.cell 4
                    have s5 : w5.cell? ⟨G, 5, none⟩ = some (.int .i64 q4) := k5.cell 5
                    have s6 : w5.cell? ⟨G, 6, none⟩ = some (.int .i64 q5) := k5.cell 6
                    have s7 : w5.cell? ⟨G, 7, none⟩ = some (.bool q6) := k5.cell 7
                    clear hr ho hg hb5 hmk k5 hto hxt
                    go_wp2_with (at_builtin; refine Lib.wpList_append_run _ rfl _ _ _ _ rfl _ _ rfl rfl _ _ HRUN.out ?_)
                    go_roundw
                    case rel =>
                      try rw [HJJ.out]
                      exact ⟨j + 1, N3 + 1, m3 + 1, a', c', hjm, by rw [Int.natCast_add]; rfl, by rw [Int.natCast_add]; rfl, rfl, Lib.hid ⟨_, by rw [← List.append_assoc, List.length_append, HI4.out.1]; rfl, HE.out⟩⟩
                    case measure =>
                      try rw [HJJ.out]
                      show ms - ((j : Int) + 1).toNat < ms - ((j : Int)).toNat
                      omega
              · obtain rfl : ms = j := by omega
                have hdn := InS.done (ch := cb) HK.out.1 HK.out.2.2.2.1 HSD.out.2.2.1 HI3.out.2.due HRF.out.1.1 HRF.out.1.2 (by rw [HRF.out.2, HSD.out.1, HSD.out.2.1]; exact HI4.out.2)
                have HE := Lib.hid hdn
                clear hdn hj hjm
                go_wp2_with fail
                go_roundw
                case rel =>
                  try rw [HJB.out]
                  exact ⟨b + 1, N3, m3, A8, c8, HSD.out.2.2.1, by rw [Int.natCast_add]; rfl, rfl, rfl, Lib.hid ⟨B4, _, HI4.out.1, HE.out⟩⟩
                case measure =>
                  try rw [HJB.out]
                  have := HSD.out.2.2.1
                  show n - ((b : Int) + 1).toNat < n - ((b : Int)).toNat
                  omega
          · obtain rfl : n = b := by omega
            clear hb hbn
            obtain ⟨fw, ch, hm⟩ := HI3.out.2.mem
            have hbel := B2.out.trans (hm.bel.mono B2.out.size)
            have HN := Lib.hid (InB.next HK.out.1 HI3.out.2)
            have HJT := Lib.hid (show wrap64 ((t : Int) + 1) = (t : Int) + 1 from IntWalk.wrap64_in _ (by omega))
            by_cases hE : E ≤ t
            · have e1 : decide (E ≤ t) = true := decide_eq_true hE
              have hts := tstands_any (some ⟨bo, 0, none⟩) c0 A n c f A2 c2 l t w2.heap.size wr g gp B3 fw ch hm.ptr hm.all HI3.out.2.run.ok ⟨Int.natCast_nonneg t, by omega⟩ ((H.out.1.below hbel).more hbel.size) ((H.out.2.2.2.1.1.below hbel).more hbel.size) HK.out.1 (by rw [H.out.2.2.2.2.2.2.1]; exact HK.out.2.2.1) HK.out.2.1 HK.out.2.2.2.1 (HI3.out.2.run.ends HK.out.1 (by have := HE.out; omega))
              rw [H.out.2.2.2.2.2.2.1] at hts
              have HTS := Lib.hid hts
              clear hts hm hbel
              go_wp2_with fail
              refine HTS.out.mono ?_
              rintro e w5 ⟨rfl, b5⟩
              have HN5 := Lib.hid (HN.out.below b5)
              clear b5
              go_wp2_with fail
              go_roundw
              case rel =>
                try rw [HJT.out]
                exact ⟨t + 1, N2, m2, A7, c7, by omega, by omega, by rw [Int.natCast_add]; rfl, rfl, rfl, Lib.hid ⟨B3, W3, HI3.out.1, HN5.out⟩⟩
              case measure =>
                try rw [HJT.out]
                show E + 31 - ((t : Int) + 1).toNat < E + 31 - ((t : Int)).toNat
                omega
            · have e1 : decide (E ≤ t) = false := decide_eq_false hE
              clear hm hbel
              go_wp2_with fail
              go_roundw
              case rel =>
                try rw [HJT.out]
                exact ⟨t + 1, N2, m2, A7, c7, by omega, by omega, by rw [Int.natCast_add]; rfl, rfl, rfl, Lib.hid ⟨B3, W3, HI3.out.1, HN.out⟩⟩
              case measure =>
                try rw [HJT.out]
                show E + 31 - ((t : Int) + 1).toNat < E + 31 - ((t : Int)).toNat
                omega
set_option maxRecDepth 100000 in
theorem liftedTreeStands (os : Os) (started : os.Started) (H : Type) (enc : TypeId × Value → H) :
    ReturnsInHanded {} Try.checked os 5 .any (Rows.treeStandsSpec.pre6 enc Try.prog Try.f5 Rows.treeStandsRow.domain false) (Rows.treeStandsSpec.post enc Try.prog Try.f5 false true false false) := by
  refine returnsInHanded_of_change (C := Try.checked) own started (by kernel_rfl) Try.func5
    (ChangeSpec.witness6 (enc := enc) (C := Try.checked) false ⟨#[], #[.slice none 0 0, .slice none 0 0, .slice none 0 0, .slice none 0 0], []⟩ 8 (by kernel_rfl) (by kernel_rfl) (by kernel_rfl) (by kernel_rfl)) ?_
  intro W base args ds gs before hval0 hW hcnd _
  have hval : ∀ (j : Nat) t v, Try.f5.params[j]? = some t → args[j]? = some v → Value.okWide Try.prog W .any base t v := hval0
  have hW' := hW
  obtain ⟨p, q, hA0, hV, rfl, hfz, hnd⟩ := hW
  have hA : DataW.TrodAll enc Try.prog W 0 (fun _ => true) true Try.f5.params.toList args.toList ds p := hA0
  rw [Try.params5] at hA hval
  obtain ⟨v0, vs0, d0, ds0, p0, q0, hargs, rfl, rfl, h0, r0⟩ := trodAll_cons hA
  obtain ⟨v1, vs1, d1, ds1, p1, q1, rfl, rfl, rfl, h1, r1⟩ := trodAll_cons r0
  obtain ⟨v2, vs2, d2, ds2, p2, q2, rfl, rfl, rfl, h2, r2⟩ := trodAll_cons r1
  obtain ⟨v3, vs3, d3, ds3, p3, q3, rfl, rfl, rfl, h3, r3⟩ := trodAll_cons r2
  obtain ⟨rfl, rfl, rfl⟩ := trodAll_nil r3
  obtain rfl : args = #[v0, v1, v2, v3] := by cases args; simp_all
  obtain ⟨rfl, rfl⟩ := trodVars_none hV
  obtain ⟨a0, len0, cap0, rfl⟩ := okWide_slice Try.underlying47 (hval 0 47 v0 rfl rfl)
  have k0 := h0
  have lt0 : ∀ x ∈ p0, x.block < W.heap.size := by obtain ⟨m, hm⟩ := k0; exact DataW.trod_lt m _ _ _ hm
  obtain ⟨z0, w0⟩ : ∃ zs, IsRow .i64 W a0 len0 cap0 zs := by
    obtain ⟨fuel, hf⟩ := h0
    rcases open_ints Try.underlying47 Try.underlying3 (by kernel_rfl) hf with ⟨hcs, _⟩ | ⟨x, l, c, zs, hcs, _, hl, hm, hz, _, hcell, hwz⟩
    · simp [Value.cells] at hcs
      obtain ⟨rfl, rfl, rfl⟩ := hcs
      exact ⟨[], .inl ⟨rfl, rfl, rfl, rfl⟩⟩
    · simp [Value.cells] at hcs
      obtain ⟨rfl, rfl, rfl⟩ := hcs
      exact ⟨zs, .inr ⟨_, rfl, hl, hm, by simpa using hz, cell_lt hcell (by simpa using hz), hcell, hwz⟩⟩
  obtain ⟨a1', len1', cap1', rfl⟩ := okWide_slice Try.underlying56 (hval 1 56 v1 rfl rfl)
  have k1 := h1
  have lt1 : ∀ x ∈ p1, x.block < W.heap.size := by obtain ⟨m, hm⟩ := k1; exact DataW.trod_lt m _ _ _ hm
  obtain ⟨a1, cap1, l1, w1, e1, e2, e3⟩ : ∃ a cap, ∃ l : List Li, (LiAt W W.heap.size a l ∧ (∀ x ∈ l, x.ok) ∧ l.length ≤ maxLen) ∧ a1' = a ∧ len1' = l.length ∧ cap1' = cap := by
    obtain ⟨fuel, hf⟩ := h1
    obtain ⟨a, cap, l, hcs, q⟩ := open_links hf
    simp [Value.cells] at hcs
    obtain ⟨rfl, rfl, rfl⟩ := hcs
    exact ⟨_, _, l, q, rfl, rfl, rfl⟩
  subst e1 e2 e3
  obtain ⟨a2', len2', cap2', rfl⟩ := okWide_slice Try.underlying57 (hval 2 57 v2 rfl rfl)
  have k2 := h2
  have lt2 : ∀ x ∈ p2, x.block < W.heap.size := by obtain ⟨m, hm⟩ := k2; exact DataW.trod_lt m _ _ _ hm
  obtain ⟨a2, cap2, l2, w2, e1, e2, e3⟩ : ∃ a cap, ∃ l : List Jk, (JkAt W W.heap.size a l ∧ (∀ x ∈ l, x.ok) ∧ l.length ≤ maxLen) ∧ a2' = a ∧ len2' = l.length ∧ cap2' = cap := by
    obtain ⟨fuel, hf⟩ := h2
    obtain ⟨a, cap, l, hcs, q⟩ := open_junk hf
    simp [Value.cells] at hcs
    obtain ⟨rfl, rfl, rfl⟩ := hcs
    exact ⟨_, _, l, q, rfl, rfl, rfl⟩
  subst e1 e2 e3
  obtain ⟨a3, len3, cap3, rfl⟩ := okWide_slice Try.underlying47 (hval 3 47 v3 rfl rfl)
  have k3 := h3
  have lt3 : ∀ x ∈ p3, x.block < W.heap.size := by obtain ⟨m, hm⟩ := k3; exact DataW.trod_lt m _ _ _ hm
  obtain ⟨z3, w3⟩ : ∃ zs, IsRow .i64 W a3 len3 cap3 zs := by
    obtain ⟨fuel, hf⟩ := h3
    rcases open_ints Try.underlying47 Try.underlying3 (by kernel_rfl) hf with ⟨hcs, _⟩ | ⟨x, l, c, zs, hcs, _, hl, hm, hz, _, hcell, hwz⟩
    · simp [Value.cells] at hcs
      obtain ⟨rfl, rfl, rfl⟩ := hcs
      exact ⟨[], .inl ⟨rfl, rfl, rfl, rfl⟩⟩
    · simp [Value.cells] at hcs
      obtain ⟨rfl, rfl, rfl⟩ := hcs
      exact ⟨zs, .inr ⟨_, rfl, hl, hm, by simpa using hz, cell_lt hcell (by simpa using hz), hcell, hwz⟩⟩
  clear hA0 hval0
  refine (walkTreeStands a0 len0 cap0 z0 a1' cap1' l1 a2' cap2' l2 a3 len3 cap3 z3 W w0 w1 w2 w3).mono fun e W' ⟨he, bel⟩ => ?_
  subst he
  exact ⟨_, rfl, _, _, _, [], _, [], hW', trodAll_mk1 (shut_bool Try.underlying4 _), (trodAll_cons_mk (Below.trod laidOut (by kernel_rfl) (of_decide_eq_true (by kernel_rfl)) k0 bel lt0) (trodAll_cons_mk (Below.trod laidOut (by kernel_rfl) (of_decide_eq_true (by kernel_rfl)) k1 bel lt1) (trodAll_cons_mk (Below.trod laidOut (by kernel_rfl) (of_decide_eq_true (by kernel_rfl)) k2 bel lt2) (trodAll_cons_mk (Below.trod laidOut (by kernel_rfl) (of_decide_eq_true (by kernel_rfl)) k3 bel lt3) trodAll_mk0)))), rfl, bel.frame _, fun h => by cases h⟩

theorem overTreeStands : Rows.treeStandsRow.holds Try.pinned (OpenSpec.ofChange Rows.treeStandsSpec) :=
  OpenClaim.holds_of_wide 5 Try.f5 rfl rfl rfl rfl rfl rfl rfl ⟨rfl, rfl, rfl, rfl, rfl⟩ rfl rfl rfl rfl rfl (by kernel_rfl) Try.func5 (by kernel_rfl)
    (of_decide_eq_true (by kernel_rfl)) (by unfold Func.isWrapper; first | (rw [if_pos (by decide +kernel)]; kernel_rfl) | (rw [if_neg (by decide +kernel)]; exact ⟨rfl, rfl⟩))
    (fun os started H enc _ => liftedTreeStands os started H enc)

/-- The statement. -/
theorem treeStands_holds : Rows.TreeStandsSaid := overTreeStands

#print axioms treeStands_holds
end Go.Proofs.Ytadejdhdkkfliaa
