/- TreeDoes: in every script each answer, the roles, the states, and what is said are the document's; what can't be; a nil one. No condition. -/
import Derived.Test.YtonkmbnnbpbhiaaRtsame
import Derived.Test.YtonkmbnnbpbhiaaTForgets
namespace Go.Proofs.Ytonkmbnnbpbhiaa
open Go.ChangeShapes Go.WideShapes Go.ChangeAt Go.RowKit Go.Deep
set_option maxRecDepth 100000

theorem tick_nil (now : Int) (w : World) : Calls Try.prog 14 #[.pointer none, .int .i64 now] w fun e w' => e = .returned (.slice none 0 0) ∧ w = w' := by
  go_enter Try.func14, Try.ntmps14
  go_wp2_with fail
  go_ret
  exact ⟨rfl, rfl⟩
/-- A part, and the document's, as they lie. -/
structure Two (w wr : World) (g gp : Nat) (id : Int) (m : Nat) (f : Nat → Pt) (fw : Nat → Bool) (ch T : Int) (base d gd go cap : Nat) (j : Nat) : Prop where
  t : TreeW wr g gp id m f fw ch
  ok : POk T m f
  chr : ch = -1 ∨ 0 ≤ ch ∧ ch ≤ T
  doc : ∃ TU AA CC, DocAt wr base d gd go cap id m f TU AA CC fw (dch ch) ∧ ∀ i, (TU i).length ≤ j
  bs : base ≤ wr.heap.size
  bw : w.heap.size ≤ base
  gg : w.heap.size ≤ g ∧ w.heap.size ≤ gp
  bel : Below w.heap.size w wr
  t0 : 0 ≤ T
section
variable {w wr w' : World} {g gp m base d gd go cap j : Nat} {id ch T : Int} {f f' : Nat → Pt} {fw fw' : Nat → Bool}
theorem Two.below (h : Two w wr g gp id m f fw ch T base d gd go cap j) (hb : Below wr.heap.size wr w') : Two w w' g gp id m f fw ch T base d gd go cap j where
  t := TreeAt.below h.t hb
  ok := h.ok
  chr := h.chr
  doc := by
    obtain ⟨TU, AA, CC, hd, hl⟩ := h.doc
    exact ⟨TU, AA, CC, hd.below hb, hl⟩
  bs := Nat.le_trans h.bs hb.size
  bw := h.bw
  gg := h.gg
  bel := h.bel.trans (hb.mono h.bel.size)
  t0 := h.t0
theorem Two.more (h : Two w wr g gp id m f fw ch T base d gd go cap j) {j' : Nat} (hj : j ≤ j') : Two w wr g gp id m f fw ch T base d gd go cap j' where
  t := h.t
  ok := h.ok
  chr := h.chr
  doc := by
    obtain ⟨TU, AA, CC, hd, hl⟩ := h.doc
    exact ⟨TU, AA, CC, hd, fun i => Nat.le_trans (hl i) hj⟩
  bs := h.bs
  bw := h.bw
  gg := h.gg
  bel := h.bel
  t0 := h.t0
/-- Both have turned. -/
theorem Two.both {w5 w6 : World} {ch' T' : Int} {TU' : Nat → List (Int × Int)} {AA' : Nat → Option Addr} {CC' : Nat → Nat} (h : Two w wr g gp id m f fw ch T base d gd go cap j) (h5 : TreeW w5 g gp id m f' fw' ch') (t5 : Touch (fun k => k = g ∨ k = gp) wr w5)
    (h6 : DocAt w6 base d gd go cap id m f' TU' AA' CC' fw' (dch ch')) (hl : ∀ i, (TU' i).length ≤ j + 1) (t6 : Touch (DocQ base w5) w5 w6) (hok : POk T' m f') (hc : ch' = -1 ∨ 0 ≤ ch' ∧ ch' ≤ T') (hT : T ≤ T') :
    Two w w6 g gp id m f' fw' ch' T' base d gd go cap (j + 1) := by
  have hn := tree_doc (base := base) h5
  have hb5 : Below w.heap.size w w5 := below_touch h.bel t5 h.gg
  have hb6 : Below base w5 w6 := docq_bel t6 (Nat.le_trans h.bs t5.size)
  have hg : w.heap.size ≤ base := h.bw
  exact ⟨h5.touch t6 (hn g (.inl rfl)) (hn gp (.inr rfl)), hok, hc, ⟨TU', AA', CC', h6, hl⟩, Nat.le_trans h.bs (Nat.le_trans t5.size t6.size), h.bw, h.gg,
    ⟨hb6.os.trans hb5.os, hb6.tape.trans hb5.tape, hb6.output.trans hb5.output, Nat.le_trans hb5.size hb6.size, fun k hk => (hb6.block k (by omega)).trans (hb5.block k hk)⟩, Int.le_trans h.t0 hT⟩
theorem own_keep {w5 w6 : World} {base' size n : Nat} {e : TypeId} {v : Value} {xs : List Value} (h : w5.ownsRow base' e size v n xs) (ht : Touch (DocQ base w5) w5 w6) (hne : ¬ (e = 74 ∨ e = 79 ∨ e = 4 ∨ e = 117)) : w6.ownsRow base' e size v n xs :=
  own_heap h fun k hk => by
    rcases h.2 with ⟨e1, _⟩ | ⟨g, c, cur, e1, _, hg', _⟩
    · rw [e1] at hk
      simp [Value.ownBlock] at hk
    · rw [e1] at hk
      have hgk : g = k := by simpa [Value.ownBlock] using hk
      subst hgk
      exact (docq_keep ht (show Blk w5 g e cur from hg') hne).trans hg'.symm
set_option maxHeartbeats 1000000 in
theorem neq_same (u : Bp) (w : World) : (binOp .neq 34 u.v u.v).run Try.prog w = .ok (.bool false) w := by
  obtain ⟨u0, u1, u2, u3, u4, u5, u6⟩ := u
  simp only [Bp.v, Bp.cells]
  go_simp
theorem map_getD {α β : Type} (S : List α) (p : α → β) (q : Nat) (a0 : α) (b0 : β) (h : q < S.length) : (S.map p).getD q b0 = p (S.getD q a0) := by
  rw [List.getD_eq_getElem?_getD, List.getElem?_map, List.getElem?_eq_getElem h, List.getD_eq_getElem?_getD, List.getElem?_eq_getElem h]
  rfl
theorem set_same {i cost r r2 : Int} {up : Bool} {f2 : Nat → Pt} (h : if (0 ≤ i ∧ i < m) ∧ 1 ≤ cost ∧ cost ≤ 16777216 then r = 0 ∧ f' = setP id m T f i.toNat up cost else r = 1 ∧ f' = f) (h2 : if (0 ≤ i ∧ i < m) ∧ 1 ≤ cost ∧ cost ≤ 16777216 then r2 = 0 ∧ f2 = setP id m T f i.toNat up cost else r2 = 1 ∧ f2 = f) (h0 : 0 ≤ T) (hok : POk T m f) : (r2 = r ∧ f2 = f') ∧ POk T m f' := by
  by_cases hc : (0 ≤ i ∧ i < m) ∧ 1 ≤ cost ∧ cost ≤ 16777216
  · rw [if_pos hc] at h h2
    obtain ⟨rfl, rfl⟩ := h
    obtain ⟨rfl, rfl⟩ := h2
    exact ⟨⟨rfl, rfl⟩, hok.setP id h0 (by omega) up (by omega) hc.2.2⟩
  · rw [if_neg hc] at h h2
    obtain ⟨rfl, rfl⟩ := h
    obtain ⟨rfl, rfl⟩ := h2
    exact ⟨⟨rfl, rfl⟩, hok⟩
theorem hear_same {i r r2 : Int} {b : Bp} {f2 : Nat → Pt} (h : if (0 ≤ i ∧ i < m) ∧ b.takes then (if (f i.toNat).up = true then r = 0 ∧ f' = hearP id m T f i.toNat b.vec b.age else r = 7 ∧ f' = f) else r = 1 ∧ f' = f) (h2 : if (0 ≤ i ∧ i < m) ∧ b.takes then (if (f i.toNat).up = true then r2 = 0 ∧ f2 = hearP id m T f i.toNat b.vec b.age else r2 = 7 ∧ f2 = f) else r2 = 1 ∧ f2 = f) (h0 : 0 ≤ T) (hok : POk T m f) (hbo : b.ok) : (r2 = r ∧ f2 = f') ∧ POk T m f' := by
  by_cases hc : (0 ≤ i ∧ i < m) ∧ b.takes
  · rw [if_pos hc] at h h2
    by_cases hu : (f i.toNat).up = true
    · rw [if_pos hu] at h h2
      obtain ⟨rfl, rfl⟩ := h
      obtain ⟨rfl, rfl⟩ := h2
      exact ⟨⟨rfl, rfl⟩, hok.hearP id h0 (by omega) ⟨hbo.root, hbo.cost, hbo.bridge, hbo.port⟩ hbo.age hu⟩
    · rw [if_neg hu] at h h2
      obtain ⟨rfl, rfl⟩ := h
      obtain ⟨rfl, rfl⟩ := h2
      exact ⟨⟨rfl, rfl⟩, hok⟩
  · rw [if_neg hc] at h h2
    obtain ⟨rfl, rfl⟩ := h
    obtain ⟨rfl, rfl⟩ := h2
    exact ⟨⟨rfl, rfl⟩, hok⟩
end
set_option maxHeartbeats 8000000 in
theorem walkTreeDoes (id p : Int) (A : Option Addr) (c : Nat) (l : List St) (w : World) (hid : (Lit.int .i64 id).wf = true) (_hp : (Lit.int .i64 p).wf = true) (hl : StAt w w.heap.size A l ∧ (∀ x ∈ l, x.ok) ∧ l.length ≤ maxLen) :
    Calls Try.prog 3 #[.int .i64 id, .int .i64 p, .slice A l.length c] w fun e w' => e = .returned (.bool true) ∧ Below w.heap.size w w' := by
  have hi := (wf_in hid).2
  have HAL := Lib.hid (talive_any w)
  have HG := Lib.hid (fun w (h : StAt w w.heap.size A l) => tgreat_any A c l w h hl.2.2)
  have HL := Lib.hid hl
  obtain ⟨n, hn⟩ : ∃ n, l.length = n := ⟨_, rfl⟩
  rw [hn] at HG ⊢
  have HN := Lib.hid hn
  have HBR := Lib.hid (fun w => rbridge_any id hi w)
  have HI := Lib.hid hi
  have n0 : (0 : Int) ≤ n := by omega
  clear hl hn hid _hp hi
  go_enter Try.func3, Try.ntmps3
  go_wp2_with fail
  refine HAL.out.mono ?_
  rintro e w1 ⟨rfl, b1⟩
  have hs1 : StAt w1 w1.heap.size A l := fun k hk => by
    obtain ⟨b, off, e, hb, hc⟩ := HL.out.1 k hk
    exact ⟨b, off, e, Nat.lt_of_lt_of_le hb b1.size, hc.below b1 hb⟩
  have HGG := Lib.hid (HG.out w1 hs1)
  have HB1 := Lib.hid b1
  clear hs1 b1
  go_wp2_with fail
  refine HGG.out.mono ?_
  rintro e w2 (⟨rfl, b2⟩ | ⟨rfl, ⟨hn100, hpl⟩, b2⟩)
  · have hf := HB1.out.trans (b2.mono HB1.out.size)
    clear b2
    go_wp2_with fail
    go_ret
    exact ⟨rfl, hf⟩
  have HP := Lib.hid (And.intro hn100 (And.intro hpl (HB1.out.trans (b2.mono HB1.out.size))))
  clear b2 hn100 hpl
  by_cases hgood : nameB id = true ∧ 1 ≤ p ∧ p ≤ 6
  rotate_left
  · have HNB := Lib.hid (fun w => tnew_bad id p HI.out hgood w)
    have hcase : nameB id = false ∨ nameB id = true ∧ p < 1 ∨ nameB id = true ∧ ¬ p < 1 ∧ 6 < p := by
      by_cases h1 : nameB id = true
      · by_cases h2 : p < 1
        · exact .inr (.inl ⟨h1, h2⟩)
        · exact .inr (.inr ⟨h1, h2, by have := hgood; simp only [not_and] at this; have := this h1 (by omega); omega⟩)
      · exact .inl (by cases h : nameB id <;> simp_all)
    have HS := Lib.hid (fun w => tset_nil 0 true 1 0 w)
    have HH := Lib.hid (fun w => thear_nil 0 ⟨0, 0, 0, 0, 0, 0, false⟩ 0 w)
    have HBN := Lib.hid (fun w => tbest_nil w)
    simp only [Bp.v, Bp.cells, Vec.v, Vec.arr] at HH HBN
    have hq0 := fun w => eql_vec ⟨0, 0, 0, 0⟩ ⟨0, 0, 0, 0⟩ w
    simp only [Vec.v, Vec.arr, decide_true] at hq0
    clear hgood
    rcases hcase with hb | ⟨hb, h1⟩ | ⟨hb, h1, h6⟩
    · rw [hb] at HBR
      clear hb
      go_wp2_with (first | (go_at_call 10; refine (HNB.out _).mono ?_; rintro e w' ⟨rfl, rfl⟩) | (go_at_call 11; refine (HBR.out _).mono ?_; rintro e w' ⟨rfl, rfl⟩) | (go_at_call 12; refine (HS.out _).mono ?_; rintro e w' ⟨rfl, rfl⟩))
      refine (HH.out _).mono ?_
      rintro e w3 ⟨rfl, b3⟩
      have HB3 := Lib.hid (HP.out.2.2.trans (b3.mono HP.out.2.2.size))
      clear b3
      go_wp2_with (first | (go_at_call 14; refine (tick_nil 0 _).mono ?_; rintro e w' ⟨rfl, rfl⟩) | (go_at_call 19; refine (root_nil _).mono ?_; rintro e w' ⟨rfl, rfl⟩) | (go_at_call 15; refine (role_nil _ _).mono ?_; rintro e w' ⟨rfl, rfl⟩) | (go_at_call 16; refine (tstate_nil _ _ _).mono ?_; rintro e w' ⟨rfl, rfl⟩) | (go_at_call 17; refine (tid_nil _).mono ?_; rintro e w' ⟨rfl, rfl⟩) | (go_at_call 18; refine (ports_nil _).mono ?_; rintro e w' ⟨rfl, rfl⟩))
      refine (HBN.out _).mono ?_
      rintro e w4 ⟨rfl, b4⟩
      have HB4 := Lib.hid (HB3.out.trans (b4.mono HB3.out.size))
      clear b4
      go_wp2_with fail
      go_ret
      exact ⟨rfl, HB4.out⟩
    · rw [hb] at HBR
      clear hb
      go_wp2_with (first | (go_at_call 10; refine (HNB.out _).mono ?_; rintro e w' ⟨rfl, rfl⟩) | (go_at_call 11; refine (HBR.out _).mono ?_; rintro e w' ⟨rfl, rfl⟩) | (go_at_call 12; refine (HS.out _).mono ?_; rintro e w' ⟨rfl, rfl⟩))
      refine (HH.out _).mono ?_
      rintro e w3 ⟨rfl, b3⟩
      have HB3 := Lib.hid (HP.out.2.2.trans (b3.mono HP.out.2.2.size))
      clear b3
      go_wp2_with (first | (go_at_call 14; refine (tick_nil 0 _).mono ?_; rintro e w' ⟨rfl, rfl⟩) | (go_at_call 19; refine (root_nil _).mono ?_; rintro e w' ⟨rfl, rfl⟩) | (go_at_call 15; refine (role_nil _ _).mono ?_; rintro e w' ⟨rfl, rfl⟩) | (go_at_call 16; refine (tstate_nil _ _ _).mono ?_; rintro e w' ⟨rfl, rfl⟩) | (go_at_call 17; refine (tid_nil _).mono ?_; rintro e w' ⟨rfl, rfl⟩) | (go_at_call 18; refine (ports_nil _).mono ?_; rintro e w' ⟨rfl, rfl⟩))
      refine (HBN.out _).mono ?_
      rintro e w4 ⟨rfl, b4⟩
      have HB4 := Lib.hid (HB3.out.trans (b4.mono HB3.out.size))
      clear b4
      go_wp2_with fail
      go_ret
      exact ⟨rfl, HB4.out⟩
    · rw [hb] at HBR
      have d1 : decide (p < 1) = false := decide_eq_false h1
      clear hb h1
      go_wp2_with (first | (go_at_call 10; refine (HNB.out _).mono ?_; rintro e w' ⟨rfl, rfl⟩) | (go_at_call 11; refine (HBR.out _).mono ?_; rintro e w' ⟨rfl, rfl⟩) | (go_at_call 12; refine (HS.out _).mono ?_; rintro e w' ⟨rfl, rfl⟩))
      refine (HH.out _).mono ?_
      rintro e w3 ⟨rfl, b3⟩
      have HB3 := Lib.hid (HP.out.2.2.trans (b3.mono HP.out.2.2.size))
      clear b3
      go_wp2_with (first | (go_at_call 14; refine (tick_nil 0 _).mono ?_; rintro e w' ⟨rfl, rfl⟩) | (go_at_call 19; refine (root_nil _).mono ?_; rintro e w' ⟨rfl, rfl⟩) | (go_at_call 15; refine (role_nil _ _).mono ?_; rintro e w' ⟨rfl, rfl⟩) | (go_at_call 16; refine (tstate_nil _ _ _).mono ?_; rintro e w' ⟨rfl, rfl⟩) | (go_at_call 17; refine (tid_nil _).mono ?_; rintro e w' ⟨rfl, rfl⟩) | (go_at_call 18; refine (ports_nil _).mono ?_; rintro e w' ⟨rfl, rfl⟩))
      refine (HBN.out _).mono ?_
      rintro e w4 ⟨rfl, b4⟩
      have HB4 := Lib.hid (HB3.out.trans (b4.mono HB3.out.size))
      clear b4
      go_wp2_with fail
      go_ret
      exact ⟨rfl, HB4.out⟩
  obtain ⟨hb, hp1, hp6⟩ := hgood
  rw [hb] at HBR
  have HID := Lib.hid hb
  obtain ⟨m, rfl⟩ : ∃ m : Nat, p = m := ⟨p.toNat, by omega⟩
  have d1 : decide ((m : Int) < 1) = false := decide_eq_false (by omega)
  have d6 : decide (6 < (m : Int)) = false := decide_eq_false (by omega)
  have HM := Lib.hid (show 1 ≤ m ∧ m ≤ 6 by omega)
  have HNW := Lib.hid (tnew_ok id m HI.out HID.out HM.out.1 HM.out.2)
  have HN2 := Lib.hid (fun w => rtnew_ok id m HM.out.1 HM.out.2 w)
  have m0 : (0 : Int) ≤ m := by omega
  clear hp1 hp6 hb
  go_wp2_with (first | (go_at_call 11; refine (HBR.out _).mono ?_; rintro e w' ⟨rfl, rfl⟩) | (go_at_call 10; refine (HNW.out _).mono ?_; rintro e w3 ⟨g, gp, rfl, h3, b3, hg, hgp⟩))
  refine (HN2.out _).mono ?_
  rintro e w4 ⟨d, gd, go, cap, rfl, h4, b4⟩
  have hb3 := HP.out.2.2.trans (b3.mono HP.out.2.2.size)
  have hst : Two w w4 g gp id m (fun _ => ptN) (fun _ => false) (-1) 0 w3.heap.size d gd go cap 0 :=
    ⟨TreeAt.below h3 b4, ptN_okm m, .inl rfl, ⟨_, _, _, h4, fun _ => Nat.le_refl _⟩, b4.size, hb3.size, ⟨Nat.le_trans HP.out.2.2.size hg, Nat.le_trans HP.out.2.2.size hgp⟩, hb3.trans (b4.mono hb3.size), Int.le_refl _⟩
  have HST := Lib.hid hst
  obtain ⟨base, hbase⟩ : ∃ base, w3.heap.size = base := ⟨_, rfl⟩
  rw [hbase] at HST
  clear h3 b3 hg hgp h4 b4 hb3 hst hbase
  go_wp2_with fail
  go_loopw [9, 83] (fun nv iv wr => ∃ (j : Nat) (f : Nat → Pt) (fw : Nat → Bool) (ch T : Int), j ≤ n ∧ iv = .int .i64 j ∧ nv = .int .i64 T ∧ Hid (Two w wr g gp id m f fw ch T base d gd go cap j ∧ T ≤ 1000 * (j : Int))) (fun _ iv _ => n - (intOf iv).toNat)
  case atStart => exact ⟨0, fun _ => ptN, fun _ => false, -1, 0, Nat.zero_le _, rfl, rfl, Lib.hid ⟨HST.out, Int.le_refl _⟩⟩
  case round =>
    obtain ⟨j, f, fw, ch, T, hj, rfl, rfl, hS⟩ := hrel
    by_cases hlt : j < n
    rotate_left
    · obtain rfl : n = j := by omega
      have HR1 := Lib.hid (role_out hS.out.1.t (-1) (by omega))
      have HR2 := Lib.hid (tstate_out hS.out.1.t m T (by omega))
      go_wp2_with (first | (go_at_call 15; refine HR1.out.mono ?_; rintro e w' ⟨rfl, rfl⟩) | (go_at_call 16; refine HR2.out.mono ?_; rintro e w' ⟨rfl, rfl⟩))
      go_ret
      exact ⟨rfl, hS.out.1.bel⟩
    have j1 : (j : Int) < n := by omega
    have j0 : (0 : Int) ≤ j := by omega
    have HJ := Lib.hid (show wrap64 ((j : Int) + 1) = (j : Int) + 1 from IntWalk.wrap64_in _ (by have := HP.out.1; omega))
    have hj' : j < l.length := by rw [HN.out]; exact hlt
    obtain ⟨b, off, rfl, hbl, hc⟩ := HL.out.1 j hj'
    have hc := hc.below hS.out.1.bel hbl
    have hxo := HL.out.2.1 (l.getD j st0) (by rw [List.getD_eq_getElem?_getD, List.getElem?_eq_getElem hj']; exact List.getElem_mem hj')
    have hwt := HP.out.2.1 j hlt
    obtain ⟨x, hx⟩ : ∃ x, l.getD j st0 = x := ⟨_, rfl⟩
    rw [hx] at hc hxo hwt
    obtain ⟨k0, k1, k2, k3, ⟨m0', m1, m2, m3, m4, m5, m6⟩, k5⟩ := x
    obtain ⟨q0, q1, q2, q3, q4, q5, q6, q7, q8, q9, q10, q11⟩ := hc
    obtain ⟨G, hG⟩ : ∃ G, wr.heap.size = G := ⟨_, rfl⟩
    obtain ⟨W, hW⟩ : ∃ W, wr.alloc (.cells #[.int .i64 k0, .int .i64 k1, .bool k2, .int .i64 k3, .int .i64 m0', .int .i64 m1, .int .i64 m2, .int .i64 m3, .int .i64 m4, .int .i64 m5, .bool m6, .int .i64 k5] 44) = W := ⟨_, rfl⟩
    have hbk : Blk W G 44 #[.int .i64 k0, .int .i64 k1, .bool k2, .int .i64 k3, .int .i64 m0', .int .i64 m1, .int .i64 m2, .int .i64 m3, .int .i64 m4, .int .i64 m5, .bool m6, .int .i64 k5] := by rw [← hW, ← hG]; exact Blk.new _ _ _
    have hbe : Below wr.heap.size wr W := by rw [← hW]; exact bel_alloc _ _
    have HX := Lib.hid hxo
    have HW := Lib.hid (And.intro (hS.out.1.below hbe) (And.intro hbk (And.intro hwt (And.intro hS.out.2 (And.intro (hG ▸ hS.out.1.t.top.lt : g < G) (hG ▸ hS.out.1.t.ports.lt : gp < G))))))
    have s0 : W.cell? ⟨G, 0, none⟩ = some (.int .i64 k0) := hbk.cell 0
    have s1 : W.cell? ⟨G, 1, none⟩ = some (.int .i64 k1) := hbk.cell 1
    have s2 : W.cell? ⟨G, 2, none⟩ = some (.bool k2) := hbk.cell 2
    have s3 : W.cell? ⟨G, 3, none⟩ = some (.int .i64 k3) := hbk.cell 3
    have s4 : W.cell? ⟨G, 4, none⟩ = some (.int .i64 m0') := hbk.cell 4
    have s5 : W.cell? ⟨G, 5, none⟩ = some (.int .i64 m1) := hbk.cell 5
    have s6 : W.cell? ⟨G, 6, none⟩ = some (.int .i64 m2) := hbk.cell 6
    have s7 : W.cell? ⟨G, 7, none⟩ = some (.int .i64 m3) := hbk.cell 7
    have s8 : W.cell? ⟨G, 8, none⟩ = some (.int .i64 m4) := hbk.cell 8
    have s9 : W.cell? ⟨G, 9, none⟩ = some (.int .i64 m5) := hbk.cell 9
    have s10 : W.cell? ⟨G, 10, none⟩ = some (.bool m6) := hbk.cell 10
    have s11 : W.cell? ⟨G, 11, none⟩ = some (.int .i64 k5) := hbk.cell 11
    clear hbl hx hxo hwt hj' hj hbk hbe
    have hbd : Blk W.drew G 44 #[.int .i64 k0, .int .i64 k1, .bool k2, .int .i64 k3, .int .i64 m0', .int .i64 m1, .int .i64 m2, .int .i64 m3, .int .i64 m4, .int .i64 m5, .bool m6, .int .i64 k5] := HW.out.2.1
    have hTd : Two w W.drew g gp id m f fw ch T base d gd go cap j := HW.out.1.below ⟨rfl, rfl, rfl, Nat.le_refl _, fun _ _ => rfl⟩
    have HD := Lib.hid (And.intro hbd hTd)
    clear hbd hTd
    by_cases e0 : k0 = 0
    · subst e0
      go_wp2_with fail
      clear s0 s1 s2 s3 s4 s5 s6 s7 s8 s9 s10 s11 q0 q1 q2 q3 q4 q5 q6 q7 q8 q9 q10 q11 hW
      have cD : W.drew.cell? ⟨G, 1, none⟩ = some (.int .i64 k1) ∧ W.drew.cell? ⟨G, 2, none⟩ = some (.bool k2) ∧ W.drew.cell? ⟨G, 3, none⟩ = some (.int .i64 k3) := ⟨HD.out.1.cell 1, HD.out.1.cell 2, HD.out.1.cell 3⟩
      have HTS := Lib.hid (tset_f HD.out.2.t HM.out.2 HD.out.2.ok k1 k2 k3)
      go_region_held3 (fun w' => w'.cell? ⟨G, 1, none⟩ = some (.int .i64 k1) ∧ w'.cell? ⟨G, 2, none⟩ = some (.bool k2) ∧ w'.cell? ⟨G, 3, none⟩ = some (.int .i64 k3))
        (first
          | (with_reducible exact cD)
          | (with_reducible exact cA)
          | (with_reducible exact cB))
        (first
          | (go_at_call 12; (with_reducible (refine HTS.out.mono ?_)); rintro e w5 ⟨f', r, rfl, h5, t5, hcase⟩; have kA := HD.out.1.touch t5 (fun h => by have := HW.out.2.2.2.2; omega); have cA : w5.cell? ⟨G, 1, none⟩ = some (.int .i64 k1) ∧ w5.cell? ⟨G, 2, none⟩ = some (.bool k2) ∧ w5.cell? ⟨G, 3, none⟩ = some (.int .i64 k3) := ⟨kA.cell 1, kA.cell 2, kA.cell 3⟩; obtain ⟨TU, AA, CC, hd, hl⟩ := HD.out.2.doc; have HRS := Lib.hid (rset_f (hd.touch t5 (tree_doc HD.out.2.t)) HM.out.2 HD.out.2.ok (fun i => by have := hl i; have := HP.out.1; omega) (Nat.le_trans HD.out.2.bs t5.size) k1 k2 k3))
          | (go_at_call 22; (with_reducible (refine HRS.out.mono ?_)); rintro e w6 ⟨f2', r2, rfl, ⟨⟨TU', AA', CC', h6, hl6⟩, t6⟩, hcase2⟩; obtain ⟨⟨hr2, hf2⟩, hok6⟩ := set_same hcase hcase2 HD.out.2.t0 HD.out.2.ok; subst hr2 hf2; have kB := docq_keep t6 kA (by decide); have cB : w6.cell? ⟨G, 1, none⟩ = some (.int .i64 k1) ∧ w6.cell? ⟨G, 2, none⟩ = some (.bool k2) ∧ w6.cell? ⟨G, 3, none⟩ = some (.int .i64 k3) := ⟨kB.cell 1, kB.cell 2, kB.cell 3⟩))
      all_goals
        have HE := Lib.hid (And.intro (Two.both HD.out.2 h5 t5 h6 (fun i => by have := hl6 i; have := hl i; omega) t6 hok6 HD.out.2.chr (Int.le_refl _)) (show T ≤ 1000 * ((j + 1 : Nat) : Int) from by have := HW.out.2.2.2.1; omega))
        clear cD cA cB kA kB h5 t5 h6 hl6 t6 hok6 hcase hcase2 hd hl
        go_wp2_with fail
        obtain ⟨TU8, AA8, CC8, hd8, hl8⟩ := HE.out.1.doc
        have HSM := Lib.hid (same_any HE.out.1.t hd8 HM.out.2 HE.out.1.ok HE.out.1.t0 (by have := HE.out.2; have := HP.out.1; omega) (fun i => by have := hl8 i; have := HP.out.1; omega))
        clear hd8 hl8
        go_wp2_with fail
        refine HSM.out.mono ?_
        rintro e w8 ⟨rfl, b8⟩
        have HE8 := Lib.hid (And.intro (HE.out.1.below b8) HE.out.2)
        clear b8
        go_wp2_with fail
        go_roundw
        case rel =>
          rw [HJ.out]
          exact ⟨j + 1, _, fw, ch, T, hlt, by rw [Int.natCast_add]; rfl, rfl, HE8⟩
        case measure =>
          rw [HJ.out]
          show n - ((j : Int) + 1).toNat < n - ((j : Int)).toNat
          omega
    by_cases e1 : k0 = 1
    · subst e1
      go_wp2_with fail
      clear s0 s1 s2 s3 s4 s5 s6 s7 s8 s9 s10 s11 q0 q1 q2 q3 q4 q5 q6 q7 q8 q9 q10 q11 hW
      have hb1 := HX.out
      have hbo : Bp.ok ⟨m0', m1, m2, m3, m4, m5, m6⟩ := ⟨hb1.root, hb1.bcost, hb1.bridge, hb1.bport, hb1.age, hb1.role⟩
      have hbi : Bp.int ⟨m0', m1, m2, m3, m4, m5, m6⟩ := ⟨hbo.root, hbo.cost, hbo.bridge, hbo.port, hbo.age, hbo.role⟩
      have HBO := Lib.hid (And.intro hbo hbi)
      clear hb1 hbo hbi
      have cD : W.drew.cell? ⟨G, 1, none⟩ = some (.int .i64 k1) ∧ W.drew.cell? ⟨G, 4, none⟩ = some (.int .i64 m0') ∧ W.drew.cell? ⟨G, 5, none⟩ = some (.int .i64 m1) ∧ W.drew.cell? ⟨G, 6, none⟩ = some (.int .i64 m2) ∧ W.drew.cell? ⟨G, 7, none⟩ = some (.int .i64 m3) ∧ W.drew.cell? ⟨G, 8, none⟩ = some (.int .i64 m4) ∧ W.drew.cell? ⟨G, 9, none⟩ = some (.int .i64 m5) ∧ W.drew.cell? ⟨G, 10, none⟩ = some (.bool m6) := ⟨HD.out.1.cell 1, HD.out.1.cell 4, HD.out.1.cell 5, HD.out.1.cell 6, HD.out.1.cell 7, HD.out.1.cell 8, HD.out.1.cell 9, HD.out.1.cell 10⟩
      have HTS := Lib.hid (thear_f HD.out.2.t HM.out.2 HD.out.2.ok HD.out.2.t0 k1 ⟨m0', m1, m2, m3, m4, m5, m6⟩ HBO.out.2 HBO.out.1)
      simp only [Bp.v, Bp.cells] at HTS
      go_region_held3 (fun w' => w'.cell? ⟨G, 1, none⟩ = some (.int .i64 k1) ∧ w'.cell? ⟨G, 4, none⟩ = some (.int .i64 m0') ∧ w'.cell? ⟨G, 5, none⟩ = some (.int .i64 m1) ∧ w'.cell? ⟨G, 6, none⟩ = some (.int .i64 m2) ∧ w'.cell? ⟨G, 7, none⟩ = some (.int .i64 m3) ∧ w'.cell? ⟨G, 8, none⟩ = some (.int .i64 m4) ∧ w'.cell? ⟨G, 9, none⟩ = some (.int .i64 m5) ∧ w'.cell? ⟨G, 10, none⟩ = some (.bool m6))
        (first
          | (with_reducible exact cD)
          | (with_reducible exact cA)
          | (with_reducible exact cB))
        (first
          | (go_at_call 13; (with_reducible (refine HTS.out.mono ?_)); rintro e w5 ⟨f', r, rfl, h5, t5, hcase⟩; have kA := HD.out.1.touch t5 (fun h => by have := HW.out.2.2.2.2; omega); have cA : w5.cell? ⟨G, 1, none⟩ = some (.int .i64 k1) ∧ w5.cell? ⟨G, 4, none⟩ = some (.int .i64 m0') ∧ w5.cell? ⟨G, 5, none⟩ = some (.int .i64 m1) ∧ w5.cell? ⟨G, 6, none⟩ = some (.int .i64 m2) ∧ w5.cell? ⟨G, 7, none⟩ = some (.int .i64 m3) ∧ w5.cell? ⟨G, 8, none⟩ = some (.int .i64 m4) ∧ w5.cell? ⟨G, 9, none⟩ = some (.int .i64 m5) ∧ w5.cell? ⟨G, 10, none⟩ = some (.bool m6) := ⟨kA.cell 1, kA.cell 4, kA.cell 5, kA.cell 6, kA.cell 7, kA.cell 8, kA.cell 9, kA.cell 10⟩; obtain ⟨TU, AA, CC, hd, hl⟩ := HD.out.2.doc; have hrs := rhear_f (hd.touch t5 (tree_doc HD.out.2.t)) HM.out.2 HD.out.2.ok HD.out.2.t0 (fun i => by have := hl i; have := HP.out.1; omega) (Nat.le_trans HD.out.2.bs t5.size) k1 ⟨m0', m1, m2, m3, m4, m5, m6⟩ HBO.out.2 HBO.out.1; simp only [Bp.v, Bp.cells] at hrs; have HRS := Lib.hid hrs; clear hrs)
          | (go_at_call 23; (with_reducible (refine HRS.out.mono ?_)); rintro e w6 ⟨f2', r2, rfl, ⟨⟨TU', AA', CC', h6, hl6⟩, t6⟩, hcase2⟩; obtain ⟨⟨hr2, hf2⟩, hok6⟩ := hear_same hcase hcase2 HD.out.2.t0 HD.out.2.ok HBO.out.1; subst hr2 hf2; have kB := docq_keep t6 kA (by decide); have cB : w6.cell? ⟨G, 1, none⟩ = some (.int .i64 k1) ∧ w6.cell? ⟨G, 4, none⟩ = some (.int .i64 m0') ∧ w6.cell? ⟨G, 5, none⟩ = some (.int .i64 m1) ∧ w6.cell? ⟨G, 6, none⟩ = some (.int .i64 m2) ∧ w6.cell? ⟨G, 7, none⟩ = some (.int .i64 m3) ∧ w6.cell? ⟨G, 8, none⟩ = some (.int .i64 m4) ∧ w6.cell? ⟨G, 9, none⟩ = some (.int .i64 m5) ∧ w6.cell? ⟨G, 10, none⟩ = some (.bool m6) := ⟨kB.cell 1, kB.cell 4, kB.cell 5, kB.cell 6, kB.cell 7, kB.cell 8, kB.cell 9, kB.cell 10⟩))
      all_goals
        have HE := Lib.hid (And.intro (Two.both HD.out.2 h5 t5 h6 (fun i => by have := hl6 i; have := hl i; omega) t6 hok6 HD.out.2.chr (Int.le_refl _)) (show T ≤ 1000 * ((j + 1 : Nat) : Int) from by have := HW.out.2.2.2.1; omega))
        clear cD cA cB kA kB h5 t5 h6 hl6 t6 hok6 hcase hcase2 hd hl
        go_wp2_with fail
        obtain ⟨TU8, AA8, CC8, hd8, hl8⟩ := HE.out.1.doc
        have HSM := Lib.hid (same_any HE.out.1.t hd8 HM.out.2 HE.out.1.ok HE.out.1.t0 (by have := HE.out.2; have := HP.out.1; omega) (fun i => by have := hl8 i; have := HP.out.1; omega))
        clear hd8 hl8
        go_wp2_with fail
        refine HSM.out.mono ?_
        rintro e w8 ⟨rfl, b8⟩
        have HE8 := Lib.hid (And.intro (HE.out.1.below b8) HE.out.2)
        clear b8
        go_wp2_with fail
        go_roundw
        case rel =>
          rw [HJ.out]
          exact ⟨j + 1, _, fw, ch, T, hlt, by rw [Int.natCast_add]; rfl, rfl, HE8⟩
        case measure =>
          rw [HJ.out]
          show n - ((j : Int) + 1).toNat < n - ((j : Int)).toNat
          omega
    by_cases e2 : k0 = 2
    rotate_left
    · have d0 : (k0 == 0) = false := by simpa using e0
      have d1 : (k0 == 1) = false := by simpa using e1
      have d2 : (k0 == 2) = false := by simpa using e2
      have HE := Lib.hid (And.intro (HW.out.1.more (Nat.le_succ j)) (show T ≤ 1000 * ((j + 1 : Nat) : Int) from by have := HW.out.2.2.2.1; omega))
      clear e0 e1 e2
      obtain ⟨TU8, AA8, CC8, hd8, hl8⟩ := HE.out.1.doc
      have HSM := Lib.hid (same_any HE.out.1.t hd8 HM.out.2 HE.out.1.ok HE.out.1.t0 (by have := HE.out.2; have := HP.out.1; omega) (fun i => by have := hl8 i; have := HP.out.1; omega))
      clear hd8 hl8
      go_wp2_with fail
      refine HSM.out.mono ?_
      rintro e w8 ⟨rfl, b8⟩
      have HE8 := Lib.hid (And.intro (HE.out.1.below b8) HE.out.2)
      clear b8
      go_wp2_with fail
      go_roundw
      case rel =>
        rw [HJ.out]
        exact ⟨j + 1, f, fw, ch, T, hlt, by rw [Int.natCast_add]; rfl, rfl, HE8⟩
      case measure =>
        rw [HJ.out]
        show n - ((j : Int) + 1).toNat < n - ((j : Int)).toNat
        omega
    subst e2
    have d0 : ((2 : Int) == 0) = false := rfl
    have hwt : 0 ≤ k5 ∧ k5 ≤ 1000 := HW.out.2.2.1
    have hT1 := HW.out.2.2.2.1
    have hT0 := HW.out.1.t0
    have hT2' : wrap64 (T + k5) = T + k5 := IntWalk.wrap64_in _ (by have := HP.out.1; omega)
    obtain ⟨T2, hT2⟩ : ∃ T2, wrap64 (T + k5) = T2 := ⟨_, rfl⟩
    have hTT : T ≤ T2 ∧ T2 ≤ 1000 * ((j + 1 : Nat) : Int) ∧ T2 ≤ 1099511627776 := by rw [← hT2, hT2']; have := HP.out.1; omega
    have HTT := Lib.hid (And.intro hTT hT0)
    have htk := tick_any HW.out.1.t HM.out.2 HW.out.1.ok hT0 hTT.1 hTT.2.2 HW.out.1.chr
    have hrt : ∀ w5, Touch (fun k => k = g ∨ k = gp) W w5 → ∃ TU : Nat → List (Int × Int), (∀ i, (TU i).length ≤ j) ∧ Calls Try.prog 24 #[.pointer (some ⟨d, 0, none⟩), .int .i64 T2] w5 fun e w' => ∃ (A : Option Addr) (c : Nat) (A2 : Option Addr) (c2 : Nat), e = .returned (.tuple #[.slice A (saysN id m (tickP id m T2 f) (chN (tickP id m T2 f) fw T2 m ch) T2).length c, .slice A2 (saysN id m (tickP id m T2 f) (chN (tickP id m T2 f) fw T2 m ch) T2).length c2]) ∧
      OwnI w' w5.heap.size A c ((saysN id m (tickP id m T2 f) (chN (tickP id m T2 f) fw T2 m ch) T2).map fun s => s.port) ∧ OwnB w' w5.heap.size A2 c2 ((saysN id m (tickP id m T2 f) (chN (tickP id m T2 f) fw T2 m ch) T2).map fun s => s.b) ∧
      (∃ TU' AA' CC', DocAt w' base d gd go cap id m (tickP id m T2 f) TU' AA' CC' (fwN (tickP id m T2 f) T2) (dch (chN (tickP id m T2 f) fw T2 m ch)) ∧ ∀ i, (TU' i).length ≤ (TU i).length + 1) ∧ Touch (DocQ base w5) w5 w' := fun w5 t5 => by
      obtain ⟨TU, AA, CC, hd, hl⟩ := HW.out.1.doc
      exact ⟨TU, hl, rtick_any (hd.touch t5 (tree_doc HW.out.1.t)) HM.out.2 HW.out.1.ok HTT.out.2 HTT.out.1.1 HTT.out.1.2.2 (fun i => by have := hl i; have := HP.out.1; omega) (Nat.le_trans HW.out.1.bs t5.size) HW.out.1.chr⟩
    have hF1 := HW.out.1.ok.tickP id hT0 hTT.1
    have hF3 := chN_range (f' := tickP id m T2 f) (fw := fw) (m := m) HW.out.1.chr hT0 hTT.1
    have hsl := says_len id m (tickP id m T2 f) (chN (tickP id m T2 f) fw T2 m ch) T2
    obtain ⟨F, hFe⟩ : ∃ F, tickP id m T2 f = F := ⟨_, rfl⟩
    rw [hFe] at htk hrt hF1 hF3 hsl
    obtain ⟨C, hCe⟩ : ∃ C, chN F fw T2 m ch = C := ⟨_, rfl⟩
    rw [hCe] at htk hrt hF3 hsl
    obtain ⟨S, hSe⟩ : ∃ S, saysN id m F C T2 = S := ⟨_, rfl⟩
    rw [hSe] at htk hrt hsl
    obtain ⟨ns, hns⟩ : ∃ ns, S.length = ns := ⟨_, rfl⟩
    rw [hns] at htk hrt hsl
    have HTK := Lib.hid htk
    have HRT := Lib.hid hrt
    have HF2 := Lib.hid (And.intro hF1 (And.intro hF3 (And.intro hsl hns)))
    have ns0 : (0 : Int) ≤ ns := by omega
    clear htk hrt hwt hT2' hTT hT1 hT0 hF1 hF3 hsl hFe hCe hSe hns e0 e1
    go_wp2_with fail
    refine HTK.out.mono ?_
    rintro e w5 ⟨A5, c5, rfl, ho5, hn5, h5, t5⟩
    obtain ⟨TU, hl, hrt5⟩ := HRT.out w5 t5
    have HRT5 := Lib.hid hrt5
    have H5 := Lib.hid (And.intro h5 (And.intro ho5 (And.intro t5 hl)))
    clear ho5 hn5 h5 t5 hrt5 hl
    go_wp2_with fail
    refine HRT5.out.mono ?_
    rintro e w6 ⟨A6, c6, A7, c7, rfl, hoI, hoB, ⟨TU', AA', CC', h6, hl6⟩, t6⟩
    have hoS := own_keep H5.out.2.1 t6 (by decide)
    have HE0 := Lib.hid (And.intro (Two.both HW.out.1 H5.out.1 H5.out.2.2.1 h6 (fun i => by have := hl6 i; have := H5.out.2.2.2 i; omega) t6 HF2.out.1 HF2.out.2.1 HTT.out.1.1) HTT.out.1.2.1)
    have HR := Lib.hid (And.intro hoI (And.intro hoB hoS))
    clear hoI hoB hoS h6 hl6 t6
    go_wp2_with fail
    go_loopw [149] (fun iv wq => ∃ q : Nat, q ≤ ns ∧ iv = .int .i64 q ∧ Hid (Below w6.heap.size w6 wq)) (fun iv _ => ns - (intOf iv).toNat)
    case atStart => exact ⟨0, Nat.zero_le _, rfl, Lib.hid (Below.refl _ _)⟩
    case round =>
      obtain ⟨q, hq, rfl, hQ⟩ := hrel
      by_cases hltq : q < ns
      rotate_left
      · obtain rfl : ns = q := by omega
        have HE := Lib.hid (And.intro (HE0.out.1.below hQ.out) HE0.out.2)
        clear hQ hq hltq
        obtain ⟨TU8, AA8, CC8, hd8, hl8⟩ := HE.out.1.doc
        have HSM := Lib.hid (same_any HE.out.1.t hd8 HM.out.2 HE.out.1.ok HE.out.1.t0 (by have := HE.out.2; have := HP.out.1; omega) (fun i => by have := hl8 i; have := HP.out.1; omega))
        clear hd8 hl8
        go_wp2_with fail
        refine HSM.out.mono ?_
        rintro e w8 ⟨rfl, b8⟩
        have HE8 := Lib.hid (And.intro (HE.out.1.below b8) HE.out.2)
        clear b8
        go_wp2_with fail
        go_roundw
        case rel =>
          rw [HJ.out]
          exact ⟨j + 1, _, _, _, T2, hlt, by rw [Int.natCast_add]; rfl, rfl, HE8⟩
        case measure =>
          rw [HJ.out]
          show n - ((j : Int) + 1).toNat < n - ((j : Int)).toNat
          omega
      have q1' : (q : Int) < ns := by omega
      have q0' : (0 : Int) ≤ q := by omega
      have HJQ := Lib.hid (show wrap64 ((q : Int) + 1) = (q : Int) + 1 from IntWalk.wrap64_in _ (by have := HF2.out.2.2.1; have := HM.out.2; omega))
      have hqS : q < S.length := by have := HF2.out.2.2.2; omega
      obtain ⟨b1, rfl, _, hb1, y0, y1, y2, y3, y4, y5, y6, y7⟩ := OwnS.at_ HR.out.2.2 hqS
      obtain ⟨b2, rfl, _, hb2, z0⟩ := HR.out.1.at_ (k := q) (by rw [List.length_map]; exact hqS)
      obtain ⟨b3, rfl, _, hb3, x0, x1, x2, x3, x4, x5, x6⟩ := HR.out.2.1.at_ (k := q) (by rw [List.length_map]; exact hqS)
      rw [map_getD S (fun s => s.port) q sd0 0 hqS] at z0
      rw [map_getD S (fun s => s.b) q sd0 bp0 hqS] at x0 x1 x2 x3 x4 x5 x6
      obtain ⟨s, hs⟩ : ∃ s, S.getD q sd0 = s := ⟨_, rfl⟩
      rw [hs] at y0 y1 y2 y3 y4 y5 y6 y7 z0 x0 x1 x2 x3 x4 x5 x6
      obtain ⟨sp, ⟨sr, sc, sb, so, sa, sl, sg⟩⟩ := s
      have e := fun (b k : Nat) (hb : b < w6.heap.size) => hQ.out.cell (p := ⟨b, k, none⟩) hb
      have y0 := (e _ _ hb1).trans y0
      have y1 := (e _ _ hb1).trans y1
      have y2 := (e _ _ hb1).trans y2
      have y3 := (e _ _ hb1).trans y3
      have y4 := (e _ _ hb1).trans y4
      have y5 := (e _ _ hb1).trans y5
      have y6 := (e _ _ hb1).trans y6
      have y7 := (e _ _ hb1).trans y7
      have z0 := (e _ _ hb2).trans z0
      have x0 := (e _ _ hb3).trans x0
      have x1 := (e _ _ hb3).trans x1
      have x2 := (e _ _ hb3).trans x2
      have x3 := (e _ _ hb3).trans x3
      have x4 := (e _ _ hb3).trans x4
      have x5 := (e _ _ hb3).trans x5
      have x6 := (e _ _ hb3).trans x6
      clear e hb1 hb2 hb3 hs hqS hq
      have hne := fun w => neq_same ⟨sr, sc, sb, so, sa, sl, sg⟩ w
      simp only [Bp.v, Bp.cells] at hne
      go_wp2_with fail
      go_region
      go_wp2_with fail
      rw [HJQ.out]
      refine ⟨⟨q + 1, hltq, by rw [Int.natCast_add]; rfl, Lib.hid hQ.out.drew⟩, ?_⟩
      show ns - ((q : Int) + 1).toNat < ns - ((q : Int)).toNat
      omega

set_option maxRecDepth 100000 in
theorem liftedTreeDoes (os : Os) (started : os.Started) (H : Type) (enc : TypeId × Value → H) :
    ReturnsInHanded {} Try.checked os 3 .any (Rows.treeDoesSpec.pre6 enc Try.prog Try.f3 Rows.treeDoesRow.domain false) (Rows.treeDoesSpec.post enc Try.prog Try.f3 false true false false) := by
  refine returnsInHanded_of_change (C := Try.checked) own started (by kernel_rfl) Try.func3
    (ChangeSpec.witness6 (enc := enc) (C := Try.checked) false ⟨#[], #[.int .i64 0, .int .i64 0, .slice none 0 0], []⟩ 8 (by kernel_rfl) (by kernel_rfl) (by kernel_rfl) (by kernel_rfl)) ?_
  intro W base args ds gs before hval0 hW hcnd _
  have hval : ∀ (j : Nat) t v, Try.f3.params[j]? = some t → args[j]? = some v → Value.okWide Try.prog W .any base t v := hval0
  have hW' := hW
  obtain ⟨p, q, hA0, hV, rfl, hfz, hnd⟩ := hW
  have hA : DataW.TrodAll enc Try.prog W 0 (fun _ => true) true Try.f3.params.toList args.toList ds p := hA0
  rw [Try.params3] at hA hval
  obtain ⟨v0, vs0, d0, ds0, p0, q0, hargs, rfl, rfl, h0, r0⟩ := trodAll_cons hA
  obtain ⟨v1, vs1, d1, ds1, p1, q1, rfl, rfl, rfl, h1, r1⟩ := trodAll_cons r0
  obtain ⟨v2, vs2, d2, ds2, p2, q2, rfl, rfl, rfl, h2, r2⟩ := trodAll_cons r1
  obtain ⟨rfl, rfl, rfl⟩ := trodAll_nil r2
  obtain rfl : args = #[v0, v1, v2] := by cases args; simp_all
  obtain ⟨rfl, rfl⟩ := trodVars_none hV
  obtain ⟨a0, rfl, rfl, rfl, w0⟩ := open_int Try.underlying3 (hval 0 3 v0 rfl rfl) h0
  obtain ⟨a1, rfl, rfl, rfl, w1⟩ := open_int Try.underlying3 (hval 1 3 v1 rfl rfl) h1
  obtain ⟨a2', len2', cap2', rfl⟩ := okWide_slice Try.underlying22 (hval 2 22 v2 rfl rfl)
  have k2 := h2
  have lt2 : ∀ x ∈ p2, x.block < W.heap.size := by obtain ⟨m, hm⟩ := k2; exact DataW.trod_lt m _ _ _ hm
  obtain ⟨a2, cap2, l2, w2, e1, e2, e3⟩ : ∃ a cap, ∃ l : List St, (StAt W W.heap.size a l ∧ (∀ x ∈ l, x.ok) ∧ l.length ≤ maxLen) ∧ a2' = a ∧ len2' = l.length ∧ cap2' = cap := by
    obtain ⟨fuel, hf⟩ := h2
    obtain ⟨a, cap, l, hcs, q⟩ := open_steps hf
    simp [Value.cells] at hcs
    obtain ⟨rfl, rfl, rfl⟩ := hcs
    exact ⟨_, _, l, q, rfl, rfl, rfl⟩
  subst e1 e2 e3
  clear hA0 hval0
  refine (walkTreeDoes a0 a1 a2' cap2' l2 W w0 w1 w2).mono fun e W' ⟨he, bel⟩ => ?_
  subst he
  exact ⟨_, rfl, _, _, _, [], _, [], hW', trodAll_mk1 (shut_bool Try.underlying4 _), (trodAll_cons_mk (shut_int Try.underlying3 w0) (trodAll_cons_mk (shut_int Try.underlying3 w1) (trodAll_cons_mk (Below.trod laidOut (by kernel_rfl) (of_decide_eq_true (by kernel_rfl)) k2 bel lt2) trodAll_mk0))), rfl, bel.frame _, fun h => by cases h⟩

theorem overTreeDoes : Rows.treeDoesRow.holds Try.pinned (OpenSpec.ofChange Rows.treeDoesSpec) :=
  OpenClaim.holds_of_wide 3 Try.f3 rfl rfl rfl rfl rfl rfl rfl ⟨rfl, rfl, rfl, rfl, rfl⟩ rfl rfl rfl rfl rfl (by kernel_rfl) Try.func3 (by kernel_rfl)
    (of_decide_eq_true (by kernel_rfl)) (by unfold Func.isWrapper; first | (rw [if_pos (by decide +kernel)]; kernel_rfl) | (rw [if_neg (by decide +kernel)]; exact ⟨rfl, rfl⟩))
    (fun os started H enc _ => liftedTreeDoes os started H enc)

/-- The statement. -/
theorem treeDoes_holds : Rows.TreeDoesSaid := overTreeDoes


#print axioms treeDoes_holds
end Go.Proofs.Ytonkmbnnbpbhiaa
