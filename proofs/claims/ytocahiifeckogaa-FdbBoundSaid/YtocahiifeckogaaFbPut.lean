/- The document's table (layer 18): Good, put. No condition but bounds on lengths. -/
import Derived.Test.YtocahiifeckogaaFbAt
import Derived.Deep.RegionHeld3
import Derived.Deep.DeepCutAuto
import Derived.Deep.CutBlock
import Derived.Deep.Onto
import Derived.Deep.RegionHeld
import Derived.Test.YtocahiifeckogaaUntil
namespace Go.Proofs.Ytocahiifeckogaa
open Go.RowKit
set_option maxRecDepth 100000

theorem alloc_size (w : World) (o : Obj) : (w.alloc o).heap.size = w.heap.size + 1 := by
  show (w.heap.push _).size = _
  exact Array.size_push ..
set_option maxHeartbeats 4000000 in
theorem dgood_any (v m p : Int) (w : World) : Calls Try.prog 30 #[.int .i64 v, .int .i64 m, .int .i64 p] w fun e w' => e = .returned (.bool (decide (fineP v m p))) ∧ w = w' := by
  by_cases h1 : 1 ≤ v
  · by_cases h2 : v ≤ 4094
    · by_cases h3 : 0 ≤ m ∧ m ≤ 281474976710655
      · have HG := Lib.hid (fun w => goodr_any m w)
        rw [goodB_t h3.1 h3.2] at HG
        by_cases h4 : m / 1099511627776 % 2 = 1
        · have HM := Lib.hid (fun w => manyr_any m w)
          rw [show manyB m = true from decide_eq_true ⟨h3.1, h3.2, h4⟩] at HM
          have HE := Lib.hid (show decide (fineP v m p) = false from decide_eq_false (fun c => c.2.1.2.2 h4))
          clear h3 h4
          go_enter Try.func30, Try.ntmps30
          go_wp2_with (first
            | (go_at_call 40; refine (HG.out _).mono ?_; rintro e w' ⟨rfl, rfl⟩)
            | (go_at_call 41; refine (HM.out _).mono ?_; rintro e w' ⟨rfl, rfl⟩))
          go_ret
          exact ⟨ret_bool (by (try rw [HE.out]); (first | done | rfl | (simp; omega))), rfl⟩
        · have HM := Lib.hid (fun w => manyr_any m w)
          rw [show manyB m = false from decide_eq_false (fun c => h4 c.2.2)] at HM
          by_cases h5 : 0 ≤ p
          · by_cases h6 : p ≤ 5
            · have HE := Lib.hid (show decide (fineP v m p) = true from decide_eq_true ⟨⟨h1, h2⟩, ⟨h3.1, h3.2, h4⟩, h5, h6⟩)
              clear h3 h4
              go_enter Try.func30, Try.ntmps30
              go_wp2_with (first
                | (go_at_call 40; refine (HG.out _).mono ?_; rintro e w' ⟨rfl, rfl⟩)
                | (go_at_call 41; refine (HM.out _).mono ?_; rintro e w' ⟨rfl, rfl⟩))
              go_ret
              exact ⟨ret_bool (by (try rw [HE.out]); (first | done | rfl | (simp; omega))), rfl⟩
            · have HE := Lib.hid (show decide (fineP v m p) = false from decide_eq_false (fun c => h6 c.2.2.2))
              clear h3 h4
              go_enter Try.func30, Try.ntmps30
              go_wp2_with (first
                | (go_at_call 40; refine (HG.out _).mono ?_; rintro e w' ⟨rfl, rfl⟩)
                | (go_at_call 41; refine (HM.out _).mono ?_; rintro e w' ⟨rfl, rfl⟩))
              go_ret
              exact ⟨ret_bool (by (try rw [HE.out]); (first | done | rfl | (simp; omega))), rfl⟩
          · have HE := Lib.hid (show decide (fineP v m p) = false from decide_eq_false (fun c => h5 c.2.2.1))
            clear h3 h4
            go_enter Try.func30, Try.ntmps30
            go_wp2_with (first
              | (go_at_call 40; refine (HG.out _).mono ?_; rintro e w' ⟨rfl, rfl⟩)
              | (go_at_call 41; refine (HM.out _).mono ?_; rintro e w' ⟨rfl, rfl⟩))
            go_ret
            exact ⟨ret_bool (by (try rw [HE.out]); (first | done | rfl | (simp; omega))), rfl⟩
      · have HG := Lib.hid (fun w => goodr_any m w)
        rw [goodB_f h3] at HG
        have HE := Lib.hid (show decide (fineP v m p) = false from decide_eq_false (fun c => h3 ⟨c.2.1.1, c.2.1.2.1⟩))
        clear h3
        go_enter Try.func30, Try.ntmps30
        go_wp2_with (go_at_call 40; refine (HG.out _).mono ?_; rintro e w' ⟨rfl, rfl⟩)
        go_ret
        exact ⟨ret_bool (by (try rw [HE.out]); (first | done | rfl | (simp; omega))), rfl⟩
    · have HE := Lib.hid (show decide (fineP v m p) = false from decide_eq_false (fun c => h2 c.1.2))
      go_enter Try.func30, Try.ntmps30
      go_wp2_with fail
      go_ret
      exact ⟨ret_bool (by (try rw [HE.out]); (first | done | rfl | (simp; omega))), rfl⟩
  · have HE := Lib.hid (show decide (fineP v m p) = false from decide_eq_false (fun c => h1 c.1.1))
    go_enter Try.func30, Try.ntmps30
    go_wp2_with fail
    go_ret
    exact ⟨ret_bool (by (try rw [HE.out]); (first | done | rfl | (simp; omega))), rfl⟩
/-- An operation taken first under a condition on the world, its slot said by number. -/
theorem wpAnyH_takeD {P : Program} {ops : Array Oper} {Q : Exit → Act → World → Prop} {md : Region.Mode} {S : World → Prop} {i : Nat} (d : Nat) {oi : Oper} {v : Value} {fuel : Nat} {listed : Array Bool} {a : Act} {w : World} (hi : ops[i]? = some oi) (hd : oi.dst = some d)
    (hs : Region.noSelect ops = true) (hf : Region.free md ops listed i = true) (hr : (Region.ready md ops listed).contains i = true)
    (hQ : ∀ c a (d : Nat) v w, Q (.panic c) (Act.put a (some d) v) w → Q (.panic c) a w) (hy : YieldsIf P ops S oi v a) (hS : S w)
    (h : wpAnyH P md ops Q S fuel (listed.setIfInBounds i true) (a.put (some d) v) w) : wpAnyH P md ops Q S (fuel + 1) listed a w :=
  wpAnyH_take hi hs hf hr (fun c a w h => by rw [hd] at h; exact hQ c a d v w h) hy hS (by rw [hd]; exact h)
theorem wp_region_heldD {P : Program} {ops : Array Oper} {Q : Exit → Act → World → Prop} {S : World → Prop} {id : Nat} {a : Act} {w : World} (hm : P.follows .mixedOrders = true) (hPF : ∀ c a (d : Nat) v w, Q (.panic c) (Act.put a (some d) v) w → Q (.panic c) a w) (hS : S w.drew)
    (h : (∀ c a (d : Nat) v w, Q (.panic c) (Act.put a (some d) v) w → Q (.panic c) a w) → S w.drew → wpAnyH P .any ops Q S ops.size (Array.replicate ops.size false) a w.drew) : (Code.region id ops true).wp P Q a w := wp_region_held_drew hm hS (h hPF)
theorem step_append_dd {P : Program} {ops : Array Oper} {o : Oper} {a : Act} {w : World} {K : Act → World → Prop} {Q : Exit → Act → World → Prop} {E : Prop}
    {dd : Option Tmp} (hg : o.guard = none) (hdd : o.dst = dd) (d x : Operand) (dT sT : TypeId) (hop : o.op = Op.call { callee := Callee.builtin Builtin.append, args := #[d, x], argTypes := #[dT, sT] })
    (v u : Value) (hd : a.eval d = v) (hx : a.eval x = u) {v' : Value} {w' : World} (hr : (Builtin.append_ #[dT, sT] o.type #[v, u]).run P w = .ok v' w') (hK : K (a.put dd v') w') :
    if Region.wanted o (yielded ops a.tmps) = true then Oper.wp P o a w K Q else E := by
  subst hdd
  exact step_append_run hg d x dT sT hop v u hd hx hr hK
/-- A new row is laid into the table. -/
theorem put_fin {w V : World} {B g c t : Nat} {F : Nat → Prop} {d : Dt} {A s : Option Addr} {l' : List Pl} (h : DtAt w B F g d A c) (ht0 : Touch F w V) {u : Value} {f : Int} (hblk : Blk V g 30 #[u, .int .i64 f]) (ho : OwnL 37 V w.heap.size s t l') {n : Nat} (hn : l'.length = n) :
    DtAt (V.setCell ⟨g, 0, none⟩ (.slice s n t)) B (grow F w (V.setCell ⟨g, 0, none⟩ (.slice s n t))) g ⟨l', f⟩ s t ∧ Touch F w (V.setCell ⟨g, 0, none⟩ (.slice s n t)) := by
  subst hn
  have hg := (h.lo g h.fg).2
  have hB : B ≤ w.heap.size := Nat.le_trans (h.lo g h.fg).1 (Nat.le_of_lt hg)
  have hsz : V.heap.size = (V.setCell ⟨g, 0, none⟩ (.slice s l'.length t)).heap.size := by simp [World.setCell]
  have ht : Touch F w (V.setCell ⟨g, 0, none⟩ (.slice s l'.length t)) := ht0.set_ (fun _ => h.fg) _
  refine ⟨⟨Blk.set_ hblk 0 _, own_heap (World.ownsRow.mono ho hB) fun k hk => ?_, .inl h.fg, fun k hk => ?_, fun k hk => ?_⟩, ht⟩
  · have := (World.ownsRow.lt ho k hk).1
    exact Below.heap_setCell V ⟨g, 0, none⟩ _ k (fun e => by have e : k = g := e; omega)
  · have := World.ownsRow.lt ho k hk
    exact .inr ⟨this.1, by rw [← hsz]; exact this.2⟩
  · rcases hk with hk | hk
    · have := h.lo k hk
      exact ⟨this.1, Nat.lt_of_lt_of_le this.2 (Nat.le_trans ht0.size (Nat.le_of_eq hsz))⟩
    · exact ⟨by omega, hk.2⟩
theorem below_touch {w V : World} (hb : Below w.heap.size w V) (F : Nat → Prop) : Touch F w V := (Below.touch hb).mono (fun k hk hp => absurd hp (by omega))
/-- One more behind a row. -/
theorem app_one {V : World} {base n : Nat} {s : Option Addr} {t p : Nat} {l : List Pl} {x : Pl} (hn : l.length = n) (ho : OwnL 37 V base s t l) (hp : Blk V p 37 x.cells.toArray) (h5 : l.length + 1 ≤ 1048576) (hb : base ≤ V.heap.size) :
    ∃ s' t' w', (Builtin.append_ #[28, 28] 28 #[.slice s n t, .slice (some ⟨p, 0, none⟩) 1 1]).run Try.prog V = .ok (.slice s' (n + 1) t') w' ∧ OwnL 37 w' base s' t' (l ++ [x]) ∧ Below base V w' := by
  obtain ⟨s', t', w', hr, ho', hg, _⟩ := append_l V base s t n l hn ho (some ⟨p, 0, none⟩) 1 1 V.heap.size [x] rfl (fun h => by cases h) (PlsAt.one hp) h5 hb
  have ho2 := ho
  unfold OwnL at ho2
  rw [hn] at ho2
  exact ⟨s', t', w', hr, ho', bel_own ho2 hg (Nat.le_refl _) hb⟩
theorem put_some {d : Dt} {x : Pl} {i : Nat} (h : ixP x.v x.m d.l = some i) : putD d x = (⟨rmP d.l i ++ [x], d.f⟩, 0) := by
  unfold putD
  rw [h]
theorem put_room {d : Dt} {x : Pl} (h : ixP x.v x.m d.l = none) (h2 : ¬ 24 ≤ d.l.length) : putD d x = (⟨d.l ++ [x], d.f⟩, 0) := by
  unfold putD
  rw [h]
  exact if_neg h2
theorem put_full {d : Dt} {x : Pl} (h : ixP x.v x.m d.l = none) (h2 : 24 ≤ d.l.length) (h3 : oldTo d.l d.l.length < 0) : putD d x = (⟨d.l, wrap64 (d.f + 1)⟩, 6) := by
  unfold putD
  rw [h]
  exact (if_pos h2).trans (if_pos h3)
theorem put_old {d : Dt} {x : Pl} {o : Nat} (h : ixP x.v x.m d.l = none) (h2 : 24 ≤ d.l.length) (h3 : oldTo d.l d.l.length = o) : putD d x = (⟨rmP d.l o ++ [x], d.f⟩, 0) := by
  unfold putD
  rw [h]
  refine (if_pos h2).trans ((if_neg (by omega)).trans ?_)
  rw [h3]
  rfl
set_option maxHeartbeats 16000000 in
theorem dput_any {w : World} {B g c : Nat} {F : Nat → Prop} {d : Dt} {A : Option Addr} (h : DtAt w B F g d A c) (hl : d.l.length ≤ 1000) (x : Pl) :
    Calls Try.prog 31 #[.pointer (some ⟨g, 0, none⟩), x.val] w fun e w' => e = .returned (.int .i64 (putD d x).2) ∧ Touch F w w' ∧ ∃ A' c', DtAt w' B (grow F w w') g (putD d x).1 A' c' := by
  have bx := bel_alloc w (.cells x.cells.toArray 37)
  have HX := Lib.hid (And.intro (Blk.new w 37 x.cells.toArray) bx)
  have h1 := h.below bx
  have HAT := Lib.hid (dat_any h1 (by omega) x.v x.m)
  have HH := Lib.hid (And.intro h (And.intro h1 hl))
  obtain ⟨xv, xm, xp, xs, xst⟩ := x
  clear h hl bx h1
  simp only [Pl.val, Pl.cells] at HX HAT ⊢
  go_enter Try.func31, Try.ntmps31
  go_wp2_with fail
  refine HAT.out.mono ?_
  rintro e w1 ⟨rfl, b1⟩
  have HX1 := Lib.hid (And.intro (HX.out.1.below b1 HX.out.1.lt) (HX.out.2.trans (b1.mono HX.out.2.size)))
  have HH1 := Lib.hid (And.intro (HH.out.1.below (HX.out.2.trans (b1.mono HX.out.2.size))) HH.out.2.2)
  clear b1
  cases hix : ixP xv xm d.l with
  | some i =>
    have hii := (ixP_some hix).1
    have HP := Lib.hid (put_some (x := ⟨xv, xm, xp, xs, xst⟩) hix)
    have e1 : ixI xv xm d.l = i := by unfold ixI; rw [hix]
    rw [e1]
    have i0 : (0 : Int) ≤ i := by omega
    have HII := Lib.hid hii
    clear hix e1 hii
    have HKE := Lib.hid (fun (V : World) (hV : Below w1.heap.size w1 V) => (show V.cell? ⟨w.heap.size, 0, none⟩ = some (.int .i64 xv) ∧ V.cell? ⟨w.heap.size, 1, none⟩ = some (.int .i64 xm) ∧ V.cell? ⟨w.heap.size, 2, none⟩ = some (.int .i64 xp) ∧ V.cell? ⟨w.heap.size, 3, none⟩ = some (.int .i64 xs) ∧ V.cell? ⟨w.heap.size, 4, none⟩ = some (.bool xst) from by
      have hb := HX1.out.1.below hV HX1.out.1.lt
      exact ⟨hb.cell 0, hb.cell 1, hb.cell 2, hb.cell 3, hb.cell 4⟩))
    have HG := Lib.hid (show g < w.heap.size from (HH.out.1.lo g HH.out.1.fg).2)
    have HKS := Lib.hid (fun (V : World) (hV : Below w1.heap.size w1 V) (u : Value) => (show (V.setCell ⟨g, 0, none⟩ u).cell? ⟨w.heap.size, 0, none⟩ = some (.int .i64 xv) ∧ (V.setCell ⟨g, 0, none⟩ u).cell? ⟨w.heap.size, 1, none⟩ = some (.int .i64 xm) ∧ (V.setCell ⟨g, 0, none⟩ u).cell? ⟨w.heap.size, 2, none⟩ = some (.int .i64 xp) ∧ (V.setCell ⟨g, 0, none⟩ u).cell? ⟨w.heap.size, 3, none⟩ = some (.int .i64 xs) ∧ (V.setCell ⟨g, 0, none⟩ u).cell? ⟨w.heap.size, 4, none⟩ = some (.bool xst) from by
      have hb := (HX1.out.1.below hV HX1.out.1.lt).far (a := ⟨g, 0, none⟩) (fun e => by have e : w.heap.size = g := e; have := HG.out; omega) u
      exact ⟨hb.cell 0, hb.cell 1, hb.cell 2, hb.cell 3, hb.cell 4⟩))
    have L0 : Below w1.heap.size w1 w1.drew := (Below.refl _ _).drew
    have s0 := HKE.out _ L0
    have LA : Below w1.heap.size w1 (w1.alloc (.cells #[.int .i64 xv, .int .i64 xm, .int .i64 xp, .int .i64 xs, .bool xst] 37)).drew := (bel_alloc w1 _).drew
    have sA := HKE.out _ LA
    have HW0 := Lib.hid (dwo_any (HH1.out.1.below L0) (by have := HH1.out.2; omega) i HII.out)
    have HWA := Lib.hid (dwo_any (HH1.out.1.below LA) (by have := HH1.out.2; omega) i HII.out)
    have HPA := Lib.hid (show Blk (w1.alloc (.cells #[.int .i64 xv, .int .i64 xm, .int .i64 xp, .int .i64 xs, .bool xst] 37)).drew w1.heap.size 37 #[.int .i64 xv, .int .i64 xm, .int .i64 xp, .int .i64 xs, .bool xst] from Blk.new w1 _ _)
    have HRM := Lib.hid (show (rmP d.l i).length + 1 ≤ 1048576 from by have := rm_len HII.out; have := HH1.out.2; omega)
    obtain ⟨rn, hrn⟩ : ∃ rn, (rmP d.l i).length = rn := ⟨_, rfl⟩
    rw [hrn] at HW0 HWA
    have HRN := Lib.hid hrn
    clear hrn
    have HGC := Lib.hid (fun (V : World) (hV : Below w1.heap.size w1 V) => (show (∃ u0, V.cell? ⟨g, 0, none⟩ = some u0) ∧ V.frozen? ⟨g, 0, none⟩ = false from by
      have hb := HH1.out.1.blk.below hV HH1.out.1.blk.lt
      exact ⟨⟨_, hb.cell 0⟩, hb.frozen 0⟩))
    have HFIN := Lib.hid (fun (V : World) (s : Option Addr) (t : Nat) (hb : Below w.heap.size w V) (ho : OwnL 37 V w.heap.size s t (rmP d.l i ++ [⟨xv, xm, xp, xs, xst⟩])) => (put_fin HH.out.1 (below_touch hb F) (HH.out.1.blk.below hb (HH.out.1.lo g HH.out.1.fg).2) ho (n := rn + 1) (by rw [List.length_append, HRN.out]; rfl)))
    go_upto_region 3 with fail
    go_cut [] (fun wx => Hid (Touch F w wx ∧ ∃ A' c', DtAt wx B (grow F w wx) g ⟨rmP d.l i ++ [⟨xv, xm, xp, xs, xst⟩], d.f⟩ A' c'))
    case first =>
      go_region_held3 (fun w' => w'.cell? ⟨w.heap.size, 0, none⟩ = some (.int .i64 xv) ∧ w'.cell? ⟨w.heap.size, 1, none⟩ = some (.int .i64 xm) ∧ w'.cell? ⟨w.heap.size, 2, none⟩ = some (.int .i64 xp) ∧ w'.cell? ⟨w.heap.size, 3, none⟩ = some (.int .i64 xs) ∧ w'.cell? ⟨w.heap.size, 4, none⟩ = some (.bool xst))
        (first
          | (with_reducible exact s0)
          | (with_reducible exact sA)
          | (with_reducible exact s6)
          | (with_reducible exact s6a _)
          | (with_reducible exact s7)
          | (with_reducible exact s8 _)
          | fail)
        (first
          | (go_at_call 32; (with_reducible (refine HW0.out.mono ?_)); rintro e w6 ⟨A6, c6, rfl, o6, b6⟩; have L6 : Below w1.heap.size w1 w6 := L0.trans b6; have s6 := HKE.out w6 L6; have s6a := fun o => HKE.out (w6.alloc o) (L6.alloc L6.size o); obtain ⟨s', t', w7, hr7, o7, b7⟩ := app_one (V := w6.alloc (.cells #[.int .i64 xv, .int .i64 xm, .int .i64 xp, .int .i64 xs, .bool xst] 37)) HRN.out (World.ownsRow.alloc o6 _) (x := ⟨xv, xm, xp, xs, xst⟩) (Blk.new w6 _ _) HRM.out (Nat.le_trans b6.size (bel_alloc w6 _).size); have L7 : Below w1.heap.size w1 w7 := (L6.alloc L6.size _).trans b7; have s7 := HKE.out w7 L7; have s8 := fun u => HKS.out w7 L7 u; obtain ⟨⟨u0, gc7⟩, gf7⟩ := HGC.out w7 L7)
          | (go_at_call 32; (with_reducible (refine HWA.out.mono ?_)); rintro e w6 ⟨A6, c6, rfl, o6, b6⟩; have L6 : Below w1.heap.size w1 w6 := LA.trans (b6.mono LA.size); have s6 := HKE.out w6 L6; have s6a := fun o => HKE.out (w6.alloc o) (L6.alloc L6.size o); obtain ⟨s', t', w7, hr7, o7, b7⟩ := app_one (V := w6) HRN.out o6 (x := ⟨xv, xm, xp, xs, xst⟩) (HPA.out.below b6 HPA.out.lt) HRM.out b6.size; have L7 : Below w1.heap.size w1 w7 := L6.trans (b7.mono LA.size); have s7 := HKE.out w7 L7; have s8 := fun u => HKS.out w7 L7 u; obtain ⟨⟨u0, gc7⟩, gf7⟩ := HGC.out w7 L7)
          | (refine step_append_run rfl (.tmp 20) (.tmp 22) 28 28 rfl _ _ (by simp [Act.eval]) (by simp [Act.eval]) hr7 ?_))
      all_goals
        have HE := Lib.hid (HFIN.out w7 s' t' (HX1.out.2.trans (L7.mono HX1.out.2.size)) (World.ownsRow.mono o7 (by first | exact HX1.out.2.size | exact Nat.le_trans HX1.out.2.size LA.size)))
        clear s6 s6a s7 s8 gc7 gf7 L6 L7 b6 b7 o6 o7 hr7 s0 sA L0 LA
        go_wp2_with fail
        go_meet
        exact Lib.hid ⟨HE.out.2, s', t', HE.out.1⟩
    case rest =>
      go_wp2_with fail
      go_ret
      rw [HP.out]
      exact ⟨rfl, hcut.out⟩
  | none =>
    have e1 : ixI xv xm d.l = -1 := by unfold ixI; rw [hix]
    rw [e1]
    have HIX := Lib.hid hix
    clear hix e1
    obtain ⟨n, hn⟩ : ∃ n, d.l.length = n := ⟨_, rfl⟩
    have g0 : w1.cell? ⟨g, 0, none⟩ = some (.slice A n c) := by rw [← hn]; exact HH1.out.1.blk.cell 0
    have HN := Lib.hid hn
    have HG := Lib.hid (show g < w.heap.size from (HH.out.1.lo g HH.out.1.fg).2)
    clear hn
    go_upto_if 31 with fail
    go_cut [] (fun wx => Hid (∃ (l1 : List Pl) (A1 : Option Addr) (c1 : Nat), putD d ⟨xv, xm, xp, xs, xst⟩ = (⟨l1 ++ [⟨xv, xm, xp, xs, xst⟩], d.f⟩, 0) ∧ DtAt wx B (grow F w wx) g ⟨l1, d.f⟩ A1 c1 ∧ Touch F w wx ∧ Blk wx w.heap.size 37 #[.int .i64 xv, .int .i64 xm, .int .i64 xp, .int .i64 xs, .bool xst] ∧ l1.length ≤ 1000))
    case first =>
      by_cases h24 : 24 ≤ n
      · have h24i : (24 : Int) ≤ n := by omega
        have HNN := Lib.hid (And.intro h24 (show n ≤ 1000 by rw [← HN.out]; exact HH1.out.2))
        have HA := Lib.hid HH1.out.1.row.at_
        clear h24
        go_wp2_with fail
        (try rw [show decide ((24 : Int) ≤ (n : Int)) = true from decide_eq_true h24i])
        clear g0 h24i
        go_loopw [6, 37] (fun ov iv wr => ∃ k : Nat, k ≤ n ∧ iv = .int .i64 k ∧ ov = .int .i64 (oldTo d.l k) ∧ Hid (Below w1.heap.size w1 wr)) (fun _ iv _ => n - (intOf iv).toNat)
        case atStart => exact ⟨0, Nat.zero_le _, rfl, rfl, Lib.hid (Below.refl _ _)⟩
        case round =>
          obtain ⟨k, hk, rfl, rfl, HB⟩ := hrel
          by_cases hlt : k < n
          · have k1 : (k : Int) < n := by omega
            have k0 : (0 : Int) ≤ k := by omega
            have HLT := Lib.hid hlt
            have HJ := Lib.hid (show wrap64 ((k : Int) + 1) = (k : Int) + 1 from IntWalk.wrap64_in _ (by have := HNN.out.2; omega))
            obtain ⟨b, off, eA, hbl, hc⟩ := HA.out k (by rw [HN.out]; exact hlt)
            have hc := hc.below HB.out hbl
            have HOLD := Lib.hid (show oldTo d.l (k + 1) = if (d.l.getD k pl0).st = false ∧ (oldTo d.l k < 0 ∨ ltS (d.l.getD k pl0) (d.l.getD (oldTo d.l k).toNat pl0)) then (k : Int) else oldTo d.l k from rfl)
            have hin := old_in d.l k
            obtain ⟨q, hq⟩ : ∃ q, d.l.getD k pl0 = q := ⟨_, rfl⟩
            rw [hq] at hc HOLD
            obtain ⟨q0, q1, q2, q3, q4⟩ := hc
            have HB2 := Lib.hid (HB.out.trans ((bel_alloc wr (.cells q.cells.toArray 37)).mono HB.out.size))
            obtain ⟨qv, qm, qp, qs, qst⟩ := q
            obtain ⟨o, ho⟩ : ∃ o, oldTo d.l k = o := ⟨_, rfl⟩
            rw [ho] at HOLD hin
            rw [ho]
            have gg : ∀ V, Below w1.heap.size w1 V → V.cell? ⟨g, 0, none⟩ = some (.slice A n c) := fun V hV => by rw [← HN.out]; exact (HH1.out.1.blk.below hV HH1.out.1.blk.lt).cell 0
            have g0 := fun o => gg (wr.alloc o) (HB.out.alloc HB.out.size o)
            subst eA
            have HBL := Lib.hid hbl
            have HIN := Lib.hid hin
            clear hk hlt hbl hq ho hin gg
            cases qst with
            | true =>
              have HE := Lib.hid (show oldTo d.l (k + 1) = o from HOLD.out.trans (if_neg (by rintro ⟨c, _⟩; cases c)))
              clear g0
              go_wp2_with fail
              go_roundw
              case rel =>
                rw [HJ.out]
                exact ⟨k + 1, HLT.out, by rw [Int.natCast_add]; rfl, by rw [HE.out], HB2⟩
              case measure =>
                rw [HJ.out]
                show n - ((k : Int) + 1).toNat < n - ((k : Int)).toNat
                have := HLT.out
                omega
            | false =>
              go_upto_region 11 with fail
              have hbx := Blk.new wr 37 #[.int .i64 qv, .int .i64 qm, .int .i64 qp, .int .i64 qs, .bool false]
              obtain ⟨W, hW⟩ : ∃ W, wr.alloc (.cells #[.int .i64 qv, .int .i64 qm, .int .i64 qp, .int .i64 qs, .bool false] 37) = W := ⟨_, rfl⟩
              obtain ⟨gb, hgb⟩ : ∃ gb, wr.heap.size = gb := ⟨_, rfl⟩
              have g00 := g0 (.cells #[.int .i64 qv, .int .i64 qm, .int .i64 qp, .int .i64 qs, .bool false] 37)
              have HB3 := Lib.hid (show Below w1.heap.size w1 W from by rw [← hW]; exact HB2.out)
              rw [hW] at hbx g00 ⊢
              rw [hgb] at hbx ⊢
              have HBX := Lib.hid hbx
              clear hW hgb g0 q0 q1 q2 q3 q4 hbx
              obtain ⟨y, hy⟩ : ∃ y, d.l.getD o.toNat pl0 = y := ⟨_, rfl⟩
              have HY := Lib.hid hy
              rw [hy] at HOLD
              go_cut [110] (fun bv wx => bv = .bool (decide (o < 0 ∨ ltS ⟨qv, qm, qp, qs, false⟩ y)) ∧ Hid (∃ nq, wx = W.drewN nq))
              case first =>
                have x0 := HBX.out.cell 0
                have x1 := HBX.out.cell 1
                have x3 := HBX.out.cell 3
                clear hy
                by_cases ho : o < 0
                · have HE := Lib.hid (show decide (o < 0 ∨ ltS ⟨qv, qm, qp, qs, false⟩ y) = true from decide_eq_true (.inl ho))
                  have hSd : W.drew.cell? ⟨gb, 0, none⟩ = some (.int .i64 qv) ∧ W.drew.cell? ⟨gb, 1, none⟩ = some (.int .i64 qm) ∧ W.drew.cell? ⟨gb, 3, none⟩ = some (.int .i64 qs) ∧ W.drew.cell? ⟨g, 0, none⟩ = some (.slice (some ⟨b, off, none⟩) n c) := ⟨x0, x1, x3, g00⟩
                  clear x0 x1 x3 g00
                  refine wp_region_heldD (S := fun w' => w'.cell? ⟨gb, 0, none⟩ = some (.int .i64 qv) ∧ w'.cell? ⟨gb, 1, none⟩ = some (.int .i64 qm) ∧ w'.cell? ⟨gb, 3, none⟩ = some (.int .i64 qs) ∧ w'.cell? ⟨g, 0, none⟩ = some (.slice (some ⟨b, off, none⟩) n c)) (by kernel_rfl) (fun _ _ _ _ _ h => h) hSd (fun hPF hHeld => ?_)
                  refine wpAnyH_takeD (i := 0) 44 (v := ?_) rfl rfl (by kernel_rfl) (by kernel_rfl) (by kernel_rfl) hPF (Or.inl ⟨by kernel_rfl, ?_⟩) hHeld ?_
                  rotate_left
                  · intro w hSw; obtain ⟨s0, s1, s3, sg⟩ := hSw; go_simp; try with_reducible rfl
                  try simp only [Act.put, List.setIfInBounds_toArray, List.set_cons_zero, List.set_cons_succ]
                  refine wpAnyH_takeD (i := 1) 45 (v := ?_) rfl rfl (by kernel_rfl) (by kernel_rfl) (by kernel_rfl) hPF (Or.inl ⟨by kernel_rfl, ?_⟩) hHeld ?_
                  rotate_left
                  · intro w hSw; obtain ⟨s0, s1, s3, sg⟩ := hSw; go_simp; try with_reducible rfl
                  try simp only [Act.put, List.setIfInBounds_toArray, List.set_cons_zero, List.set_cons_succ]
                  refine wpAnyH_takeD (i := 2) 46 (v := ?_) rfl rfl (by kernel_rfl) (by kernel_rfl) (by kernel_rfl) hPF (Or.inl ⟨by kernel_rfl, ?_⟩) hHeld ?_
                  rotate_left
                  · intro w hSw; obtain ⟨s0, s1, s3, sg⟩ := hSw; go_simp; try with_reducible rfl
                  try simp only [Act.put, List.setIfInBounds_toArray, List.set_cons_zero, List.set_cons_succ]
                  refine wpAnyH_takeD (i := 3) 47 (v := undef) rfl rfl (by kernel_rfl) (by kernel_rfl) (by kernel_rfl) hPF (Or.inr ⟨by kernel_rfl, rfl⟩) hHeld ?_
                  try simp only [Act.put, List.setIfInBounds_toArray, List.set_cons_zero, List.set_cons_succ]
                  refine wpAnyH_takeD (i := 4) 48 (v := undef) rfl rfl (by kernel_rfl) (by kernel_rfl) (by kernel_rfl) hPF (Or.inr ⟨by kernel_rfl, rfl⟩) hHeld ?_
                  try simp only [Act.put, List.setIfInBounds_toArray, List.set_cons_zero, List.set_cons_succ]
                  refine wpAnyH_takeD (i := 5) 49 (v := undef) rfl rfl (by kernel_rfl) (by kernel_rfl) (by kernel_rfl) hPF (Or.inr ⟨by kernel_rfl, rfl⟩) hHeld ?_
                  try simp only [Act.put, List.setIfInBounds_toArray, List.set_cons_zero, List.set_cons_succ]
                  refine wpAnyH_takeD (i := 6) 50 (v := undef) rfl rfl (by kernel_rfl) (by kernel_rfl) (by kernel_rfl) hPF (Or.inr ⟨by kernel_rfl, rfl⟩) hHeld ?_
                  try simp only [Act.put, List.setIfInBounds_toArray, List.set_cons_zero, List.set_cons_succ]
                  refine wpAnyH_takeD (i := 7) 51 (v := undef) rfl rfl (by kernel_rfl) (by kernel_rfl) (by kernel_rfl) hPF (Or.inr ⟨by kernel_rfl, rfl⟩) hHeld ?_
                  try simp only [Act.put, List.setIfInBounds_toArray, List.set_cons_zero, List.set_cons_succ]
                  refine wpAnyH_takeD (i := 8) 52 (v := undef) rfl rfl (by kernel_rfl) (by kernel_rfl) (by kernel_rfl) hPF (Or.inr ⟨by kernel_rfl, rfl⟩) hHeld ?_
                  try simp only [Act.put, List.setIfInBounds_toArray, List.set_cons_zero, List.set_cons_succ]
                  refine wpAnyH_takeD (i := 9) 53 (v := undef) rfl rfl (by kernel_rfl) (by kernel_rfl) (by kernel_rfl) hPF (Or.inr ⟨by kernel_rfl, rfl⟩) hHeld ?_
                  try simp only [Act.put, List.setIfInBounds_toArray, List.set_cons_zero, List.set_cons_succ]
                  refine wpAnyH_takeD (i := 10) 54 (v := undef) rfl rfl (by kernel_rfl) (by kernel_rfl) (by kernel_rfl) hPF (Or.inr ⟨by kernel_rfl, rfl⟩) hHeld ?_
                  try simp only [Act.put, List.setIfInBounds_toArray, List.set_cons_zero, List.set_cons_succ]
                  refine wpAnyH_takeD (i := 11) 55 (v := undef) rfl rfl (by kernel_rfl) (by kernel_rfl) (by kernel_rfl) hPF (Or.inr ⟨by kernel_rfl, rfl⟩) hHeld ?_
                  try simp only [Act.put, List.setIfInBounds_toArray, List.set_cons_zero, List.set_cons_succ]
                  refine wpAnyH_takeD (i := 12) 56 (v := undef) rfl rfl (by kernel_rfl) (by kernel_rfl) (by kernel_rfl) hPF (Or.inr ⟨by kernel_rfl, rfl⟩) hHeld ?_
                  try simp only [Act.put, List.setIfInBounds_toArray, List.set_cons_zero, List.set_cons_succ]
                  refine wpAnyH_takeD (i := 13) 57 (v := undef) rfl rfl (by kernel_rfl) (by kernel_rfl) (by kernel_rfl) hPF (Or.inr ⟨by kernel_rfl, rfl⟩) hHeld ?_
                  try simp only [Act.put, List.setIfInBounds_toArray, List.set_cons_zero, List.set_cons_succ]
                  refine wpAnyH_takeD (i := 14) 58 (v := ?_) rfl rfl (by kernel_rfl) (by kernel_rfl) (by kernel_rfl) hPF (Or.inl ⟨by kernel_rfl, ?_⟩) hHeld ?_
                  rotate_left
                  · intro w hSw; obtain ⟨s0, s1, s3, sg⟩ := hSw; go_simp; try with_reducible rfl
                  try simp only [Act.put, List.setIfInBounds_toArray, List.set_cons_zero, List.set_cons_succ]
                  refine wpAnyH_takeD (i := 15) 59 (v := ?_) rfl rfl (by kernel_rfl) (by kernel_rfl) (by kernel_rfl) hPF (Or.inl ⟨by kernel_rfl, ?_⟩) hHeld ?_
                  rotate_left
                  · intro w hSw; obtain ⟨s0, s1, s3, sg⟩ := hSw; go_simp; try with_reducible rfl
                  try simp only [Act.put, List.setIfInBounds_toArray, List.set_cons_zero, List.set_cons_succ]
                  refine wpAnyH_takeD (i := 16) 60 (v := undef) rfl rfl (by kernel_rfl) (by kernel_rfl) (by kernel_rfl) hPF (Or.inr ⟨by kernel_rfl, rfl⟩) hHeld ?_
                  try simp only [Act.put, List.setIfInBounds_toArray, List.set_cons_zero, List.set_cons_succ]
                  refine wpAnyH_takeD (i := 17) 61 (v := undef) rfl rfl (by kernel_rfl) (by kernel_rfl) (by kernel_rfl) hPF (Or.inr ⟨by kernel_rfl, rfl⟩) hHeld ?_
                  try simp only [Act.put, List.setIfInBounds_toArray, List.set_cons_zero, List.set_cons_succ]
                  refine wpAnyH_takeD (i := 18) 62 (v := undef) rfl rfl (by kernel_rfl) (by kernel_rfl) (by kernel_rfl) hPF (Or.inr ⟨by kernel_rfl, rfl⟩) hHeld ?_
                  try simp only [Act.put, List.setIfInBounds_toArray, List.set_cons_zero, List.set_cons_succ]
                  refine wpAnyH_takeD (i := 19) 63 (v := undef) rfl rfl (by kernel_rfl) (by kernel_rfl) (by kernel_rfl) hPF (Or.inr ⟨by kernel_rfl, rfl⟩) hHeld ?_
                  try simp only [Act.put, List.setIfInBounds_toArray, List.set_cons_zero, List.set_cons_succ]
                  refine wpAnyH_takeD (i := 20) 64 (v := undef) rfl rfl (by kernel_rfl) (by kernel_rfl) (by kernel_rfl) hPF (Or.inr ⟨by kernel_rfl, rfl⟩) hHeld ?_
                  try simp only [Act.put, List.setIfInBounds_toArray, List.set_cons_zero, List.set_cons_succ]
                  refine wpAnyH_takeD (i := 21) 65 (v := undef) rfl rfl (by kernel_rfl) (by kernel_rfl) (by kernel_rfl) hPF (Or.inr ⟨by kernel_rfl, rfl⟩) hHeld ?_
                  try simp only [Act.put, List.setIfInBounds_toArray, List.set_cons_zero, List.set_cons_succ]
                  refine wpAnyH_takeD (i := 22) 66 (v := undef) rfl rfl (by kernel_rfl) (by kernel_rfl) (by kernel_rfl) hPF (Or.inr ⟨by kernel_rfl, rfl⟩) hHeld ?_
                  try simp only [Act.put, List.setIfInBounds_toArray, List.set_cons_zero, List.set_cons_succ]
                  refine wpAnyH_takeD (i := 23) 67 (v := undef) rfl rfl (by kernel_rfl) (by kernel_rfl) (by kernel_rfl) hPF (Or.inr ⟨by kernel_rfl, rfl⟩) hHeld ?_
                  try simp only [Act.put, List.setIfInBounds_toArray, List.set_cons_zero, List.set_cons_succ]
                  refine wpAnyH_takeD (i := 24) 68 (v := undef) rfl rfl (by kernel_rfl) (by kernel_rfl) (by kernel_rfl) hPF (Or.inr ⟨by kernel_rfl, rfl⟩) hHeld ?_
                  try simp only [Act.put, List.setIfInBounds_toArray, List.set_cons_zero, List.set_cons_succ]
                  refine wpAnyH_takeD (i := 25) 69 (v := undef) rfl rfl (by kernel_rfl) (by kernel_rfl) (by kernel_rfl) hPF (Or.inr ⟨by kernel_rfl, rfl⟩) hHeld ?_
                  try simp only [Act.put, List.setIfInBounds_toArray, List.set_cons_zero, List.set_cons_succ]
                  refine wpAnyH_takeD (i := 26) 70 (v := undef) rfl rfl (by kernel_rfl) (by kernel_rfl) (by kernel_rfl) hPF (Or.inr ⟨by kernel_rfl, rfl⟩) hHeld ?_
                  try simp only [Act.put, List.setIfInBounds_toArray, List.set_cons_zero, List.set_cons_succ]
                  refine wpAnyH_takeD (i := 27) 71 (v := undef) rfl rfl (by kernel_rfl) (by kernel_rfl) (by kernel_rfl) hPF (Or.inr ⟨by kernel_rfl, rfl⟩) hHeld ?_
                  try simp only [Act.put, List.setIfInBounds_toArray, List.set_cons_zero, List.set_cons_succ]
                  refine wpAnyH_takeD (i := 28) 72 (v := undef) rfl rfl (by kernel_rfl) (by kernel_rfl) (by kernel_rfl) hPF (Or.inr ⟨by kernel_rfl, rfl⟩) hHeld ?_
                  try simp only [Act.put, List.setIfInBounds_toArray, List.set_cons_zero, List.set_cons_succ]
                  refine wpAnyH_takeD (i := 29) 73 (v := undef) rfl rfl (by kernel_rfl) (by kernel_rfl) (by kernel_rfl) hPF (Or.inr ⟨by kernel_rfl, rfl⟩) hHeld ?_
                  try simp only [Act.put, List.setIfInBounds_toArray, List.set_cons_zero, List.set_cons_succ]
                  refine wpAnyH_takeD (i := 30) 74 (v := undef) rfl rfl (by kernel_rfl) (by kernel_rfl) (by kernel_rfl) hPF (Or.inr ⟨by kernel_rfl, rfl⟩) hHeld ?_
                  try simp only [Act.put, List.setIfInBounds_toArray, List.set_cons_zero, List.set_cons_succ]
                  refine wpAnyH_takeD (i := 31) 75 (v := undef) rfl rfl (by kernel_rfl) (by kernel_rfl) (by kernel_rfl) hPF (Or.inr ⟨by kernel_rfl, rfl⟩) hHeld ?_
                  try simp only [Act.put, List.setIfInBounds_toArray, List.set_cons_zero, List.set_cons_succ]
                  refine wpAnyH_takeD (i := 32) 76 (v := undef) rfl rfl (by kernel_rfl) (by kernel_rfl) (by kernel_rfl) hPF (Or.inr ⟨by kernel_rfl, rfl⟩) hHeld ?_
                  try simp only [Act.put, List.setIfInBounds_toArray, List.set_cons_zero, List.set_cons_succ]
                  refine wpAnyH_takeD (i := 33) 77 (v := undef) rfl rfl (by kernel_rfl) (by kernel_rfl) (by kernel_rfl) hPF (Or.inr ⟨by kernel_rfl, rfl⟩) hHeld ?_
                  try simp only [Act.put, List.setIfInBounds_toArray, List.set_cons_zero, List.set_cons_succ]
                  refine wpAnyH_takeD (i := 34) 78 (v := undef) rfl rfl (by kernel_rfl) (by kernel_rfl) (by kernel_rfl) hPF (Or.inr ⟨by kernel_rfl, rfl⟩) hHeld ?_
                  try simp only [Act.put, List.setIfInBounds_toArray, List.set_cons_zero, List.set_cons_succ]
                  refine wpAnyH_takeD (i := 35) 79 (v := undef) rfl rfl (by kernel_rfl) (by kernel_rfl) (by kernel_rfl) hPF (Or.inr ⟨by kernel_rfl, rfl⟩) hHeld ?_
                  try simp only [Act.put, List.setIfInBounds_toArray, List.set_cons_zero, List.set_cons_succ]
                  refine wpAnyH_takeD (i := 36) 80 (v := undef) rfl rfl (by kernel_rfl) (by kernel_rfl) (by kernel_rfl) hPF (Or.inr ⟨by kernel_rfl, rfl⟩) hHeld ?_
                  try simp only [Act.put, List.setIfInBounds_toArray, List.set_cons_zero, List.set_cons_succ]
                  refine wpAnyH_takeD (i := 37) 81 (v := undef) rfl rfl (by kernel_rfl) (by kernel_rfl) (by kernel_rfl) hPF (Or.inr ⟨by kernel_rfl, rfl⟩) hHeld ?_
                  try simp only [Act.put, List.setIfInBounds_toArray, List.set_cons_zero, List.set_cons_succ]
                  refine wpAnyH_takeD (i := 38) 82 (v := undef) rfl rfl (by kernel_rfl) (by kernel_rfl) (by kernel_rfl) hPF (Or.inr ⟨by kernel_rfl, rfl⟩) hHeld ?_
                  try simp only [Act.put, List.setIfInBounds_toArray, List.set_cons_zero, List.set_cons_succ]
                  refine wpAnyH_takeD (i := 39) 83 (v := undef) rfl rfl (by kernel_rfl) (by kernel_rfl) (by kernel_rfl) hPF (Or.inr ⟨by kernel_rfl, rfl⟩) hHeld ?_
                  try simp only [Act.put, List.setIfInBounds_toArray, List.set_cons_zero, List.set_cons_succ]
                  refine wpAnyH_takeD (i := 40) 84 (v := undef) rfl rfl (by kernel_rfl) (by kernel_rfl) (by kernel_rfl) hPF (Or.inr ⟨by kernel_rfl, rfl⟩) hHeld ?_
                  try simp only [Act.put, List.setIfInBounds_toArray, List.set_cons_zero, List.set_cons_succ]
                  refine wpAnyH_takeD (i := 41) 85 (v := undef) rfl rfl (by kernel_rfl) (by kernel_rfl) (by kernel_rfl) hPF (Or.inr ⟨by kernel_rfl, rfl⟩) hHeld ?_
                  try simp only [Act.put, List.setIfInBounds_toArray, List.set_cons_zero, List.set_cons_succ]
                  refine wpAnyH_takeD (i := 42) 86 (v := undef) rfl rfl (by kernel_rfl) (by kernel_rfl) (by kernel_rfl) hPF (Or.inr ⟨by kernel_rfl, rfl⟩) hHeld ?_
                  try simp only [Act.put, List.setIfInBounds_toArray, List.set_cons_zero, List.set_cons_succ]
                  refine wpAnyH_takeD (i := 43) 87 (v := undef) rfl rfl (by kernel_rfl) (by kernel_rfl) (by kernel_rfl) hPF (Or.inr ⟨by kernel_rfl, rfl⟩) hHeld ?_
                  try simp only [Act.put, List.setIfInBounds_toArray, List.set_cons_zero, List.set_cons_succ]
                  refine wpAnyH_takeD (i := 44) 88 (v := undef) rfl rfl (by kernel_rfl) (by kernel_rfl) (by kernel_rfl) hPF (Or.inr ⟨by kernel_rfl, rfl⟩) hHeld ?_
                  try simp only [Act.put, List.setIfInBounds_toArray, List.set_cons_zero, List.set_cons_succ]
                  refine wpAnyH_takeD (i := 45) 89 (v := undef) rfl rfl (by kernel_rfl) (by kernel_rfl) (by kernel_rfl) hPF (Or.inr ⟨by kernel_rfl, rfl⟩) hHeld ?_
                  try simp only [Act.put, List.setIfInBounds_toArray, List.set_cons_zero, List.set_cons_succ]
                  refine wpAnyH_takeD (i := 46) 90 (v := undef) rfl rfl (by kernel_rfl) (by kernel_rfl) (by kernel_rfl) hPF (Or.inr ⟨by kernel_rfl, rfl⟩) hHeld ?_
                  try simp only [Act.put, List.setIfInBounds_toArray, List.set_cons_zero, List.set_cons_succ]
                  refine wpAnyH_takeD (i := 47) 91 (v := undef) rfl rfl (by kernel_rfl) (by kernel_rfl) (by kernel_rfl) hPF (Or.inr ⟨by kernel_rfl, rfl⟩) hHeld ?_
                  try simp only [Act.put, List.setIfInBounds_toArray, List.set_cons_zero, List.set_cons_succ]
                  refine wpAnyH_takeD (i := 48) 92 (v := undef) rfl rfl (by kernel_rfl) (by kernel_rfl) (by kernel_rfl) hPF (Or.inr ⟨by kernel_rfl, rfl⟩) hHeld ?_
                  try simp only [Act.put, List.setIfInBounds_toArray, List.set_cons_zero, List.set_cons_succ]
                  refine wpAnyH_takeD (i := 49) 93 (v := undef) rfl rfl (by kernel_rfl) (by kernel_rfl) (by kernel_rfl) hPF (Or.inr ⟨by kernel_rfl, rfl⟩) hHeld ?_
                  try simp only [Act.put, List.setIfInBounds_toArray, List.set_cons_zero, List.set_cons_succ]
                  refine wpAnyH_takeD (i := 50) 94 (v := undef) rfl rfl (by kernel_rfl) (by kernel_rfl) (by kernel_rfl) hPF (Or.inr ⟨by kernel_rfl, rfl⟩) hHeld ?_
                  try simp only [Act.put, List.setIfInBounds_toArray, List.set_cons_zero, List.set_cons_succ]
                  refine wpAnyH_takeD (i := 51) 95 (v := undef) rfl rfl (by kernel_rfl) (by kernel_rfl) (by kernel_rfl) hPF (Or.inr ⟨by kernel_rfl, rfl⟩) hHeld ?_
                  try simp only [Act.put, List.setIfInBounds_toArray, List.set_cons_zero, List.set_cons_succ]
                  refine wpAnyH_takeD (i := 52) 96 (v := undef) rfl rfl (by kernel_rfl) (by kernel_rfl) (by kernel_rfl) hPF (Or.inr ⟨by kernel_rfl, rfl⟩) hHeld ?_
                  try simp only [Act.put, List.setIfInBounds_toArray, List.set_cons_zero, List.set_cons_succ]
                  refine wpAnyH_takeD (i := 53) 97 (v := undef) rfl rfl (by kernel_rfl) (by kernel_rfl) (by kernel_rfl) hPF (Or.inr ⟨by kernel_rfl, rfl⟩) hHeld ?_
                  try simp only [Act.put, List.setIfInBounds_toArray, List.set_cons_zero, List.set_cons_succ]
                  refine wpAnyH_takeD (i := 54) 98 (v := undef) rfl rfl (by kernel_rfl) (by kernel_rfl) (by kernel_rfl) hPF (Or.inr ⟨by kernel_rfl, rfl⟩) hHeld ?_
                  try simp only [Act.put, List.setIfInBounds_toArray, List.set_cons_zero, List.set_cons_succ]
                  refine wpAnyH_takeD (i := 55) 99 (v := undef) rfl rfl (by kernel_rfl) (by kernel_rfl) (by kernel_rfl) hPF (Or.inr ⟨by kernel_rfl, rfl⟩) hHeld ?_
                  try simp only [Act.put, List.setIfInBounds_toArray, List.set_cons_zero, List.set_cons_succ]
                  refine wpAnyH_takeD (i := 56) 100 (v := undef) rfl rfl (by kernel_rfl) (by kernel_rfl) (by kernel_rfl) hPF (Or.inr ⟨by kernel_rfl, rfl⟩) hHeld ?_
                  try simp only [Act.put, List.setIfInBounds_toArray, List.set_cons_zero, List.set_cons_succ]
                  refine wpAnyH_takeD (i := 57) 101 (v := undef) rfl rfl (by kernel_rfl) (by kernel_rfl) (by kernel_rfl) hPF (Or.inr ⟨by kernel_rfl, rfl⟩) hHeld ?_
                  try simp only [Act.put, List.setIfInBounds_toArray, List.set_cons_zero, List.set_cons_succ]
                  refine wpAnyH_takeD (i := 58) 102 (v := undef) rfl rfl (by kernel_rfl) (by kernel_rfl) (by kernel_rfl) hPF (Or.inr ⟨by kernel_rfl, rfl⟩) hHeld ?_
                  try simp only [Act.put, List.setIfInBounds_toArray, List.set_cons_zero, List.set_cons_succ]
                  refine wpAnyH_takeD (i := 59) 103 (v := undef) rfl rfl (by kernel_rfl) (by kernel_rfl) (by kernel_rfl) hPF (Or.inr ⟨by kernel_rfl, rfl⟩) hHeld ?_
                  try simp only [Act.put, List.setIfInBounds_toArray, List.set_cons_zero, List.set_cons_succ]
                  refine wpAnyH_takeD (i := 60) 104 (v := undef) rfl rfl (by kernel_rfl) (by kernel_rfl) (by kernel_rfl) hPF (Or.inr ⟨by kernel_rfl, rfl⟩) hHeld ?_
                  try simp only [Act.put, List.setIfInBounds_toArray, List.set_cons_zero, List.set_cons_succ]
                  refine wpAnyH_takeD (i := 61) 105 (v := undef) rfl rfl (by kernel_rfl) (by kernel_rfl) (by kernel_rfl) hPF (Or.inr ⟨by kernel_rfl, rfl⟩) hHeld ?_
                  try simp only [Act.put, List.setIfInBounds_toArray, List.set_cons_zero, List.set_cons_succ]
                  refine wpAnyH_takeD (i := 62) 106 (v := undef) rfl rfl (by kernel_rfl) (by kernel_rfl) (by kernel_rfl) hPF (Or.inr ⟨by kernel_rfl, rfl⟩) hHeld ?_
                  try simp only [Act.put, List.setIfInBounds_toArray, List.set_cons_zero, List.set_cons_succ]
                  refine wpAnyH_takeD (i := 63) 107 (v := undef) rfl rfl (by kernel_rfl) (by kernel_rfl) (by kernel_rfl) hPF (Or.inr ⟨by kernel_rfl, rfl⟩) hHeld ?_
                  try simp only [Act.put, List.setIfInBounds_toArray, List.set_cons_zero, List.set_cons_succ]
                  refine wpAnyH_takeD (i := 64) 108 (v := undef) rfl rfl (by kernel_rfl) (by kernel_rfl) (by kernel_rfl) hPF (Or.inr ⟨by kernel_rfl, rfl⟩) hHeld ?_
                  try simp only [Act.put, List.setIfInBounds_toArray, List.set_cons_zero, List.set_cons_succ]
                  refine wpAnyH_takeD (i := 65) 109 (v := undef) rfl rfl (by kernel_rfl) (by kernel_rfl) (by kernel_rfl) hPF (Or.inr ⟨by kernel_rfl, rfl⟩) hHeld ?_
                  try simp only [Act.put, List.setIfInBounds_toArray, List.set_cons_zero, List.set_cons_succ]
                  refine wpAnyH_takeD (i := 66) 110 (v := ?_) rfl rfl (by kernel_rfl) (by kernel_rfl) (by kernel_rfl) hPF (Or.inl ⟨by kernel_rfl, ?_⟩) hHeld ?_
                  rotate_left
                  · intro w hSw; obtain ⟨s0, s1, s3, sg⟩ := hSw; go_simp; try with_reducible rfl
                  try simp only [Act.put, List.setIfInBounds_toArray, List.set_cons_zero, List.set_cons_succ]
                  refine wpAnyH_done (by kernel_rfl) ?_ _
                  go_wp2_with fail
                  go_meet
                  exact ⟨by rw [HE.out], Lib.hid ⟨1, rfl⟩⟩
                · obtain ⟨i, hi⟩ : ∃ i : Nat, (i : Int) = o := ⟨o.toNat, by omega⟩
                  subst hi
                  have hik : i < n := by have := HIN.out.2.1; have := HLT.out; omega
                  obtain ⟨b', off', eA, hbl, hc⟩ := HA.out i (by rw [HN.out]; exact hik)
                  injection eA with eA
                  injection eA with e1 e2
                  subst e1 e2
                  have hc := hc.below HB3.out hbl
                  rw [show d.l.getD i pl0 = y from HY.out] at hc
                  obtain ⟨yv, ym, yp, ys, yst⟩ := y
                  obtain ⟨y0, y1, y2, y3, y4⟩ := hc
                  have i0 : (0 : Int) ≤ i := by omega
                  have i1 : (i : Int) < n := by omega
                  have i2 : ¬ (i : Int) < 0 := by omega
                  clear hbl hik ho y2 y4
                  by_cases c1 : qs < ys
                  · have HE := Lib.hid (show decide ((i : Int) < 0 ∨ ltS ⟨qv, qm, qp, qs, false⟩ ⟨yv, ym, yp, ys, yst⟩) = true from decide_eq_true (.inr (.inl c1)))
                    have hSd : W.drew.cell? ⟨gb, 0, none⟩ = some (.int .i64 qv) ∧ W.drew.cell? ⟨gb, 1, none⟩ = some (.int .i64 qm) ∧ W.drew.cell? ⟨gb, 3, none⟩ = some (.int .i64 qs) ∧ W.drew.cell? ⟨g, 0, none⟩ = some (.slice (some ⟨b, off, none⟩) n c) ∧ W.drew.cell? ⟨b, off + i * 5, none⟩ = some (.int .i64 yv) ∧ W.drew.cell? ⟨b, off + i * 5 + 1, none⟩ = some (.int .i64 ym) ∧ W.drew.cell? ⟨b, off + i * 5 + 3, none⟩ = some (.int .i64 ys) := ⟨x0, x1, x3, g00, y0, y1, y3⟩
                    clear x0 x1 x3 g00 y0 y1 y3
                    refine wp_region_heldD (S := fun w' => w'.cell? ⟨gb, 0, none⟩ = some (.int .i64 qv) ∧ w'.cell? ⟨gb, 1, none⟩ = some (.int .i64 qm) ∧ w'.cell? ⟨gb, 3, none⟩ = some (.int .i64 qs) ∧ w'.cell? ⟨g, 0, none⟩ = some (.slice (some ⟨b, off, none⟩) n c) ∧ w'.cell? ⟨b, off + i * 5, none⟩ = some (.int .i64 yv) ∧ w'.cell? ⟨b, off + i * 5 + 1, none⟩ = some (.int .i64 ym) ∧ w'.cell? ⟨b, off + i * 5 + 3, none⟩ = some (.int .i64 ys)) (by kernel_rfl) (fun _ _ _ _ _ h => h) hSd (fun hPF hHeld => ?_)
                    refine wpAnyH_takeD (i := 0) 44 (v := ?_) rfl rfl (by kernel_rfl) (by kernel_rfl) (by kernel_rfl) hPF (Or.inl ⟨by kernel_rfl, ?_⟩) hHeld ?_
                    rotate_left
                    · intro w hSw; obtain ⟨s0, s1, s3, sg, r0, r1, r3⟩ := hSw; go_simp; try with_reducible rfl
                    try simp only [Act.put, List.setIfInBounds_toArray, List.set_cons_zero, List.set_cons_succ]
                    refine wpAnyH_takeD (i := 1) 45 (v := ?_) rfl rfl (by kernel_rfl) (by kernel_rfl) (by kernel_rfl) hPF (Or.inl ⟨by kernel_rfl, ?_⟩) hHeld ?_
                    rotate_left
                    · intro w hSw; obtain ⟨s0, s1, s3, sg, r0, r1, r3⟩ := hSw; go_simp; try with_reducible rfl
                    try simp only [Act.put, List.setIfInBounds_toArray, List.set_cons_zero, List.set_cons_succ]
                    refine wpAnyH_takeD (i := 2) 46 (v := ?_) rfl rfl (by kernel_rfl) (by kernel_rfl) (by kernel_rfl) hPF (Or.inl ⟨by kernel_rfl, ?_⟩) hHeld ?_
                    rotate_left
                    · intro w hSw; obtain ⟨s0, s1, s3, sg, r0, r1, r3⟩ := hSw; go_simp; try with_reducible rfl
                    try simp only [Act.put, List.setIfInBounds_toArray, List.set_cons_zero, List.set_cons_succ]
                    refine wpAnyH_takeD (i := 3) 47 (v := ?_) rfl rfl (by kernel_rfl) (by kernel_rfl) (by kernel_rfl) hPF (Or.inl ⟨by kernel_rfl, ?_⟩) hHeld ?_
                    rotate_left
                    · intro w hSw; obtain ⟨s0, s1, s3, sg, r0, r1, r3⟩ := hSw; go_simp; try with_reducible rfl
                    try simp only [Act.put, List.setIfInBounds_toArray, List.set_cons_zero, List.set_cons_succ]
                    refine wpAnyH_takeD (i := 4) 48 (v := ?_) rfl rfl (by kernel_rfl) (by kernel_rfl) (by kernel_rfl) hPF (Or.inl ⟨by kernel_rfl, ?_⟩) hHeld ?_
                    rotate_left
                    · intro w hSw; obtain ⟨s0, s1, s3, sg, r0, r1, r3⟩ := hSw; go_simp; try with_reducible rfl
                    try simp only [Act.put, List.setIfInBounds_toArray, List.set_cons_zero, List.set_cons_succ]
                    refine wpAnyH_takeD (i := 5) 49 (v := ?_) rfl rfl (by kernel_rfl) (by kernel_rfl) (by kernel_rfl) hPF (Or.inl ⟨by kernel_rfl, ?_⟩) hHeld ?_
                    rotate_left
                    · intro w hSw; obtain ⟨s0, s1, s3, sg, r0, r1, r3⟩ := hSw; go_simp; try with_reducible rfl
                    try simp only [Act.put, List.setIfInBounds_toArray, List.set_cons_zero, List.set_cons_succ]
                    refine wpAnyH_takeD (i := 6) 50 (v := ?_) rfl rfl (by kernel_rfl) (by kernel_rfl) (by kernel_rfl) hPF (Or.inl ⟨by kernel_rfl, ?_⟩) hHeld ?_
                    rotate_left
                    · intro w hSw; obtain ⟨s0, s1, s3, sg, r0, r1, r3⟩ := hSw; go_simp; try with_reducible rfl
                    try simp only [Act.put, List.setIfInBounds_toArray, List.set_cons_zero, List.set_cons_succ]
                    refine wpAnyH_takeD (i := 7) 51 (v := ?_) rfl rfl (by kernel_rfl) (by kernel_rfl) (by kernel_rfl) hPF (Or.inl ⟨by kernel_rfl, ?_⟩) hHeld ?_
                    rotate_left
                    · intro w hSw; obtain ⟨s0, s1, s3, sg, r0, r1, r3⟩ := hSw; go_simp; try with_reducible rfl
                    try simp only [Act.put, List.setIfInBounds_toArray, List.set_cons_zero, List.set_cons_succ]
                    refine wpAnyH_takeD (i := 8) 52 (v := ?_) rfl rfl (by kernel_rfl) (by kernel_rfl) (by kernel_rfl) hPF (Or.inl ⟨by kernel_rfl, ?_⟩) hHeld ?_
                    rotate_left
                    · intro w hSw; obtain ⟨s0, s1, s3, sg, r0, r1, r3⟩ := hSw; go_simp; try with_reducible rfl
                    try simp only [Act.put, List.setIfInBounds_toArray, List.set_cons_zero, List.set_cons_succ]
                    refine wpAnyH_takeD (i := 9) 53 (v := ?_) rfl rfl (by kernel_rfl) (by kernel_rfl) (by kernel_rfl) hPF (Or.inl ⟨by kernel_rfl, ?_⟩) hHeld ?_
                    rotate_left
                    · intro w hSw; obtain ⟨s0, s1, s3, sg, r0, r1, r3⟩ := hSw; go_simp; try with_reducible rfl
                    try simp only [Act.put, List.setIfInBounds_toArray, List.set_cons_zero, List.set_cons_succ]
                    refine wpAnyH_takeD (i := 10) 54 (v := ?_) rfl rfl (by kernel_rfl) (by kernel_rfl) (by kernel_rfl) hPF (Or.inl ⟨by kernel_rfl, ?_⟩) hHeld ?_
                    rotate_left
                    · intro w hSw; obtain ⟨s0, s1, s3, sg, r0, r1, r3⟩ := hSw; go_simp; try with_reducible rfl
                    try simp only [Act.put, List.setIfInBounds_toArray, List.set_cons_zero, List.set_cons_succ]
                    refine wpAnyH_takeD (i := 11) 55 (v := ?_) rfl rfl (by kernel_rfl) (by kernel_rfl) (by kernel_rfl) hPF (Or.inl ⟨by kernel_rfl, ?_⟩) hHeld ?_
                    rotate_left
                    · intro w hSw; obtain ⟨s0, s1, s3, sg, r0, r1, r3⟩ := hSw; go_simp; try with_reducible rfl
                    try simp only [Act.put, List.setIfInBounds_toArray, List.set_cons_zero, List.set_cons_succ]
                    refine wpAnyH_takeD (i := 12) 56 (v := ?_) rfl rfl (by kernel_rfl) (by kernel_rfl) (by kernel_rfl) hPF (Or.inl ⟨by kernel_rfl, ?_⟩) hHeld ?_
                    rotate_left
                    · intro w hSw; obtain ⟨s0, s1, s3, sg, r0, r1, r3⟩ := hSw; go_simp; try with_reducible rfl
                    try simp only [Act.put, List.setIfInBounds_toArray, List.set_cons_zero, List.set_cons_succ]
                    refine wpAnyH_takeD (i := 13) 57 (v := ?_) rfl rfl (by kernel_rfl) (by kernel_rfl) (by kernel_rfl) hPF (Or.inl ⟨by kernel_rfl, ?_⟩) hHeld ?_
                    rotate_left
                    · intro w hSw; obtain ⟨s0, s1, s3, sg, r0, r1, r3⟩ := hSw; go_simp; try with_reducible rfl
                    try simp only [Act.put, List.setIfInBounds_toArray, List.set_cons_zero, List.set_cons_succ]
                    refine wpAnyH_takeD (i := 14) 58 (v := ?_) rfl rfl (by kernel_rfl) (by kernel_rfl) (by kernel_rfl) hPF (Or.inl ⟨by kernel_rfl, ?_⟩) hHeld ?_
                    rotate_left
                    · intro w hSw; obtain ⟨s0, s1, s3, sg, r0, r1, r3⟩ := hSw; go_simp; try with_reducible rfl
                    try simp only [Act.put, List.setIfInBounds_toArray, List.set_cons_zero, List.set_cons_succ]
                    refine wpAnyH_takeD (i := 15) 59 (v := ?_) rfl rfl (by kernel_rfl) (by kernel_rfl) (by kernel_rfl) hPF (Or.inl ⟨by kernel_rfl, ?_⟩) hHeld ?_
                    rotate_left
                    · intro w hSw; obtain ⟨s0, s1, s3, sg, r0, r1, r3⟩ := hSw; go_simp; try with_reducible rfl
                    try simp only [Act.put, List.setIfInBounds_toArray, List.set_cons_zero, List.set_cons_succ]
                    refine wpAnyH_takeD (i := 16) 60 (v := undef) rfl rfl (by kernel_rfl) (by kernel_rfl) (by kernel_rfl) hPF (Or.inr ⟨by kernel_rfl, rfl⟩) hHeld ?_
                    try simp only [Act.put, List.setIfInBounds_toArray, List.set_cons_zero, List.set_cons_succ]
                    refine wpAnyH_takeD (i := 17) 61 (v := undef) rfl rfl (by kernel_rfl) (by kernel_rfl) (by kernel_rfl) hPF (Or.inr ⟨by kernel_rfl, rfl⟩) hHeld ?_
                    try simp only [Act.put, List.setIfInBounds_toArray, List.set_cons_zero, List.set_cons_succ]
                    refine wpAnyH_takeD (i := 18) 62 (v := undef) rfl rfl (by kernel_rfl) (by kernel_rfl) (by kernel_rfl) hPF (Or.inr ⟨by kernel_rfl, rfl⟩) hHeld ?_
                    try simp only [Act.put, List.setIfInBounds_toArray, List.set_cons_zero, List.set_cons_succ]
                    refine wpAnyH_takeD (i := 19) 63 (v := undef) rfl rfl (by kernel_rfl) (by kernel_rfl) (by kernel_rfl) hPF (Or.inr ⟨by kernel_rfl, rfl⟩) hHeld ?_
                    try simp only [Act.put, List.setIfInBounds_toArray, List.set_cons_zero, List.set_cons_succ]
                    refine wpAnyH_takeD (i := 20) 64 (v := undef) rfl rfl (by kernel_rfl) (by kernel_rfl) (by kernel_rfl) hPF (Or.inr ⟨by kernel_rfl, rfl⟩) hHeld ?_
                    try simp only [Act.put, List.setIfInBounds_toArray, List.set_cons_zero, List.set_cons_succ]
                    refine wpAnyH_takeD (i := 21) 65 (v := undef) rfl rfl (by kernel_rfl) (by kernel_rfl) (by kernel_rfl) hPF (Or.inr ⟨by kernel_rfl, rfl⟩) hHeld ?_
                    try simp only [Act.put, List.setIfInBounds_toArray, List.set_cons_zero, List.set_cons_succ]
                    refine wpAnyH_takeD (i := 22) 66 (v := undef) rfl rfl (by kernel_rfl) (by kernel_rfl) (by kernel_rfl) hPF (Or.inr ⟨by kernel_rfl, rfl⟩) hHeld ?_
                    try simp only [Act.put, List.setIfInBounds_toArray, List.set_cons_zero, List.set_cons_succ]
                    refine wpAnyH_takeD (i := 23) 67 (v := undef) rfl rfl (by kernel_rfl) (by kernel_rfl) (by kernel_rfl) hPF (Or.inr ⟨by kernel_rfl, rfl⟩) hHeld ?_
                    try simp only [Act.put, List.setIfInBounds_toArray, List.set_cons_zero, List.set_cons_succ]
                    refine wpAnyH_takeD (i := 24) 68 (v := undef) rfl rfl (by kernel_rfl) (by kernel_rfl) (by kernel_rfl) hPF (Or.inr ⟨by kernel_rfl, rfl⟩) hHeld ?_
                    try simp only [Act.put, List.setIfInBounds_toArray, List.set_cons_zero, List.set_cons_succ]
                    refine wpAnyH_takeD (i := 25) 69 (v := undef) rfl rfl (by kernel_rfl) (by kernel_rfl) (by kernel_rfl) hPF (Or.inr ⟨by kernel_rfl, rfl⟩) hHeld ?_
                    try simp only [Act.put, List.setIfInBounds_toArray, List.set_cons_zero, List.set_cons_succ]
                    refine wpAnyH_takeD (i := 26) 70 (v := undef) rfl rfl (by kernel_rfl) (by kernel_rfl) (by kernel_rfl) hPF (Or.inr ⟨by kernel_rfl, rfl⟩) hHeld ?_
                    try simp only [Act.put, List.setIfInBounds_toArray, List.set_cons_zero, List.set_cons_succ]
                    refine wpAnyH_takeD (i := 27) 71 (v := undef) rfl rfl (by kernel_rfl) (by kernel_rfl) (by kernel_rfl) hPF (Or.inr ⟨by kernel_rfl, rfl⟩) hHeld ?_
                    try simp only [Act.put, List.setIfInBounds_toArray, List.set_cons_zero, List.set_cons_succ]
                    refine wpAnyH_takeD (i := 28) 72 (v := undef) rfl rfl (by kernel_rfl) (by kernel_rfl) (by kernel_rfl) hPF (Or.inr ⟨by kernel_rfl, rfl⟩) hHeld ?_
                    try simp only [Act.put, List.setIfInBounds_toArray, List.set_cons_zero, List.set_cons_succ]
                    refine wpAnyH_takeD (i := 29) 73 (v := undef) rfl rfl (by kernel_rfl) (by kernel_rfl) (by kernel_rfl) hPF (Or.inr ⟨by kernel_rfl, rfl⟩) hHeld ?_
                    try simp only [Act.put, List.setIfInBounds_toArray, List.set_cons_zero, List.set_cons_succ]
                    refine wpAnyH_takeD (i := 30) 74 (v := undef) rfl rfl (by kernel_rfl) (by kernel_rfl) (by kernel_rfl) hPF (Or.inr ⟨by kernel_rfl, rfl⟩) hHeld ?_
                    try simp only [Act.put, List.setIfInBounds_toArray, List.set_cons_zero, List.set_cons_succ]
                    refine wpAnyH_takeD (i := 31) 75 (v := undef) rfl rfl (by kernel_rfl) (by kernel_rfl) (by kernel_rfl) hPF (Or.inr ⟨by kernel_rfl, rfl⟩) hHeld ?_
                    try simp only [Act.put, List.setIfInBounds_toArray, List.set_cons_zero, List.set_cons_succ]
                    refine wpAnyH_takeD (i := 32) 76 (v := undef) rfl rfl (by kernel_rfl) (by kernel_rfl) (by kernel_rfl) hPF (Or.inr ⟨by kernel_rfl, rfl⟩) hHeld ?_
                    try simp only [Act.put, List.setIfInBounds_toArray, List.set_cons_zero, List.set_cons_succ]
                    refine wpAnyH_takeD (i := 33) 77 (v := undef) rfl rfl (by kernel_rfl) (by kernel_rfl) (by kernel_rfl) hPF (Or.inr ⟨by kernel_rfl, rfl⟩) hHeld ?_
                    try simp only [Act.put, List.setIfInBounds_toArray, List.set_cons_zero, List.set_cons_succ]
                    refine wpAnyH_takeD (i := 34) 78 (v := undef) rfl rfl (by kernel_rfl) (by kernel_rfl) (by kernel_rfl) hPF (Or.inr ⟨by kernel_rfl, rfl⟩) hHeld ?_
                    try simp only [Act.put, List.setIfInBounds_toArray, List.set_cons_zero, List.set_cons_succ]
                    refine wpAnyH_takeD (i := 35) 79 (v := undef) rfl rfl (by kernel_rfl) (by kernel_rfl) (by kernel_rfl) hPF (Or.inr ⟨by kernel_rfl, rfl⟩) hHeld ?_
                    try simp only [Act.put, List.setIfInBounds_toArray, List.set_cons_zero, List.set_cons_succ]
                    refine wpAnyH_takeD (i := 36) 80 (v := undef) rfl rfl (by kernel_rfl) (by kernel_rfl) (by kernel_rfl) hPF (Or.inr ⟨by kernel_rfl, rfl⟩) hHeld ?_
                    try simp only [Act.put, List.setIfInBounds_toArray, List.set_cons_zero, List.set_cons_succ]
                    refine wpAnyH_takeD (i := 37) 81 (v := undef) rfl rfl (by kernel_rfl) (by kernel_rfl) (by kernel_rfl) hPF (Or.inr ⟨by kernel_rfl, rfl⟩) hHeld ?_
                    try simp only [Act.put, List.setIfInBounds_toArray, List.set_cons_zero, List.set_cons_succ]
                    refine wpAnyH_takeD (i := 38) 82 (v := undef) rfl rfl (by kernel_rfl) (by kernel_rfl) (by kernel_rfl) hPF (Or.inr ⟨by kernel_rfl, rfl⟩) hHeld ?_
                    try simp only [Act.put, List.setIfInBounds_toArray, List.set_cons_zero, List.set_cons_succ]
                    refine wpAnyH_takeD (i := 39) 83 (v := undef) rfl rfl (by kernel_rfl) (by kernel_rfl) (by kernel_rfl) hPF (Or.inr ⟨by kernel_rfl, rfl⟩) hHeld ?_
                    try simp only [Act.put, List.setIfInBounds_toArray, List.set_cons_zero, List.set_cons_succ]
                    refine wpAnyH_takeD (i := 40) 84 (v := undef) rfl rfl (by kernel_rfl) (by kernel_rfl) (by kernel_rfl) hPF (Or.inr ⟨by kernel_rfl, rfl⟩) hHeld ?_
                    try simp only [Act.put, List.setIfInBounds_toArray, List.set_cons_zero, List.set_cons_succ]
                    refine wpAnyH_takeD (i := 41) 85 (v := undef) rfl rfl (by kernel_rfl) (by kernel_rfl) (by kernel_rfl) hPF (Or.inr ⟨by kernel_rfl, rfl⟩) hHeld ?_
                    try simp only [Act.put, List.setIfInBounds_toArray, List.set_cons_zero, List.set_cons_succ]
                    refine wpAnyH_takeD (i := 42) 86 (v := undef) rfl rfl (by kernel_rfl) (by kernel_rfl) (by kernel_rfl) hPF (Or.inr ⟨by kernel_rfl, rfl⟩) hHeld ?_
                    try simp only [Act.put, List.setIfInBounds_toArray, List.set_cons_zero, List.set_cons_succ]
                    refine wpAnyH_takeD (i := 43) 87 (v := undef) rfl rfl (by kernel_rfl) (by kernel_rfl) (by kernel_rfl) hPF (Or.inr ⟨by kernel_rfl, rfl⟩) hHeld ?_
                    try simp only [Act.put, List.setIfInBounds_toArray, List.set_cons_zero, List.set_cons_succ]
                    refine wpAnyH_takeD (i := 44) 88 (v := undef) rfl rfl (by kernel_rfl) (by kernel_rfl) (by kernel_rfl) hPF (Or.inr ⟨by kernel_rfl, rfl⟩) hHeld ?_
                    try simp only [Act.put, List.setIfInBounds_toArray, List.set_cons_zero, List.set_cons_succ]
                    refine wpAnyH_takeD (i := 45) 89 (v := undef) rfl rfl (by kernel_rfl) (by kernel_rfl) (by kernel_rfl) hPF (Or.inr ⟨by kernel_rfl, rfl⟩) hHeld ?_
                    try simp only [Act.put, List.setIfInBounds_toArray, List.set_cons_zero, List.set_cons_succ]
                    refine wpAnyH_takeD (i := 46) 90 (v := undef) rfl rfl (by kernel_rfl) (by kernel_rfl) (by kernel_rfl) hPF (Or.inr ⟨by kernel_rfl, rfl⟩) hHeld ?_
                    try simp only [Act.put, List.setIfInBounds_toArray, List.set_cons_zero, List.set_cons_succ]
                    refine wpAnyH_takeD (i := 47) 91 (v := undef) rfl rfl (by kernel_rfl) (by kernel_rfl) (by kernel_rfl) hPF (Or.inr ⟨by kernel_rfl, rfl⟩) hHeld ?_
                    try simp only [Act.put, List.setIfInBounds_toArray, List.set_cons_zero, List.set_cons_succ]
                    refine wpAnyH_takeD (i := 48) 92 (v := undef) rfl rfl (by kernel_rfl) (by kernel_rfl) (by kernel_rfl) hPF (Or.inr ⟨by kernel_rfl, rfl⟩) hHeld ?_
                    try simp only [Act.put, List.setIfInBounds_toArray, List.set_cons_zero, List.set_cons_succ]
                    refine wpAnyH_takeD (i := 49) 93 (v := undef) rfl rfl (by kernel_rfl) (by kernel_rfl) (by kernel_rfl) hPF (Or.inr ⟨by kernel_rfl, rfl⟩) hHeld ?_
                    try simp only [Act.put, List.setIfInBounds_toArray, List.set_cons_zero, List.set_cons_succ]
                    refine wpAnyH_takeD (i := 50) 94 (v := undef) rfl rfl (by kernel_rfl) (by kernel_rfl) (by kernel_rfl) hPF (Or.inr ⟨by kernel_rfl, rfl⟩) hHeld ?_
                    try simp only [Act.put, List.setIfInBounds_toArray, List.set_cons_zero, List.set_cons_succ]
                    refine wpAnyH_takeD (i := 51) 95 (v := undef) rfl rfl (by kernel_rfl) (by kernel_rfl) (by kernel_rfl) hPF (Or.inr ⟨by kernel_rfl, rfl⟩) hHeld ?_
                    try simp only [Act.put, List.setIfInBounds_toArray, List.set_cons_zero, List.set_cons_succ]
                    refine wpAnyH_takeD (i := 52) 96 (v := undef) rfl rfl (by kernel_rfl) (by kernel_rfl) (by kernel_rfl) hPF (Or.inr ⟨by kernel_rfl, rfl⟩) hHeld ?_
                    try simp only [Act.put, List.setIfInBounds_toArray, List.set_cons_zero, List.set_cons_succ]
                    refine wpAnyH_takeD (i := 53) 97 (v := undef) rfl rfl (by kernel_rfl) (by kernel_rfl) (by kernel_rfl) hPF (Or.inr ⟨by kernel_rfl, rfl⟩) hHeld ?_
                    try simp only [Act.put, List.setIfInBounds_toArray, List.set_cons_zero, List.set_cons_succ]
                    refine wpAnyH_takeD (i := 54) 98 (v := undef) rfl rfl (by kernel_rfl) (by kernel_rfl) (by kernel_rfl) hPF (Or.inr ⟨by kernel_rfl, rfl⟩) hHeld ?_
                    try simp only [Act.put, List.setIfInBounds_toArray, List.set_cons_zero, List.set_cons_succ]
                    refine wpAnyH_takeD (i := 55) 99 (v := undef) rfl rfl (by kernel_rfl) (by kernel_rfl) (by kernel_rfl) hPF (Or.inr ⟨by kernel_rfl, rfl⟩) hHeld ?_
                    try simp only [Act.put, List.setIfInBounds_toArray, List.set_cons_zero, List.set_cons_succ]
                    refine wpAnyH_takeD (i := 56) 100 (v := undef) rfl rfl (by kernel_rfl) (by kernel_rfl) (by kernel_rfl) hPF (Or.inr ⟨by kernel_rfl, rfl⟩) hHeld ?_
                    try simp only [Act.put, List.setIfInBounds_toArray, List.set_cons_zero, List.set_cons_succ]
                    refine wpAnyH_takeD (i := 57) 101 (v := undef) rfl rfl (by kernel_rfl) (by kernel_rfl) (by kernel_rfl) hPF (Or.inr ⟨by kernel_rfl, rfl⟩) hHeld ?_
                    try simp only [Act.put, List.setIfInBounds_toArray, List.set_cons_zero, List.set_cons_succ]
                    refine wpAnyH_takeD (i := 58) 102 (v := undef) rfl rfl (by kernel_rfl) (by kernel_rfl) (by kernel_rfl) hPF (Or.inr ⟨by kernel_rfl, rfl⟩) hHeld ?_
                    try simp only [Act.put, List.setIfInBounds_toArray, List.set_cons_zero, List.set_cons_succ]
                    refine wpAnyH_takeD (i := 59) 103 (v := undef) rfl rfl (by kernel_rfl) (by kernel_rfl) (by kernel_rfl) hPF (Or.inr ⟨by kernel_rfl, rfl⟩) hHeld ?_
                    try simp only [Act.put, List.setIfInBounds_toArray, List.set_cons_zero, List.set_cons_succ]
                    refine wpAnyH_takeD (i := 60) 104 (v := undef) rfl rfl (by kernel_rfl) (by kernel_rfl) (by kernel_rfl) hPF (Or.inr ⟨by kernel_rfl, rfl⟩) hHeld ?_
                    try simp only [Act.put, List.setIfInBounds_toArray, List.set_cons_zero, List.set_cons_succ]
                    refine wpAnyH_takeD (i := 61) 105 (v := undef) rfl rfl (by kernel_rfl) (by kernel_rfl) (by kernel_rfl) hPF (Or.inr ⟨by kernel_rfl, rfl⟩) hHeld ?_
                    try simp only [Act.put, List.setIfInBounds_toArray, List.set_cons_zero, List.set_cons_succ]
                    refine wpAnyH_takeD (i := 62) 106 (v := undef) rfl rfl (by kernel_rfl) (by kernel_rfl) (by kernel_rfl) hPF (Or.inr ⟨by kernel_rfl, rfl⟩) hHeld ?_
                    try simp only [Act.put, List.setIfInBounds_toArray, List.set_cons_zero, List.set_cons_succ]
                    refine wpAnyH_takeD (i := 63) 107 (v := undef) rfl rfl (by kernel_rfl) (by kernel_rfl) (by kernel_rfl) hPF (Or.inr ⟨by kernel_rfl, rfl⟩) hHeld ?_
                    try simp only [Act.put, List.setIfInBounds_toArray, List.set_cons_zero, List.set_cons_succ]
                    refine wpAnyH_takeD (i := 64) 108 (v := undef) rfl rfl (by kernel_rfl) (by kernel_rfl) (by kernel_rfl) hPF (Or.inr ⟨by kernel_rfl, rfl⟩) hHeld ?_
                    try simp only [Act.put, List.setIfInBounds_toArray, List.set_cons_zero, List.set_cons_succ]
                    refine wpAnyH_takeD (i := 65) 109 (v := undef) rfl rfl (by kernel_rfl) (by kernel_rfl) (by kernel_rfl) hPF (Or.inr ⟨by kernel_rfl, rfl⟩) hHeld ?_
                    try simp only [Act.put, List.setIfInBounds_toArray, List.set_cons_zero, List.set_cons_succ]
                    refine wpAnyH_takeD (i := 66) 110 (v := ?_) rfl rfl (by kernel_rfl) (by kernel_rfl) (by kernel_rfl) hPF (Or.inl ⟨by kernel_rfl, ?_⟩) hHeld ?_
                    rotate_left
                    · intro w hSw; obtain ⟨s0, s1, s3, sg, r0, r1, r3⟩ := hSw; go_simp; try with_reducible rfl
                    try simp only [Act.put, List.setIfInBounds_toArray, List.set_cons_zero, List.set_cons_succ]
                    refine wpAnyH_done (by kernel_rfl) ?_ _
                    go_wp2_with fail
                    go_meet
                    exact ⟨by rw [HE.out], Lib.hid ⟨1, rfl⟩⟩
                  · by_cases c2 : qs = ys
                    · have c2b : (qs == ys) = true := by simpa using c2
                      by_cases c3 : qv < yv
                      · have HE := Lib.hid (show decide ((i : Int) < 0 ∨ ltS ⟨qv, qm, qp, qs, false⟩ ⟨yv, ym, yp, ys, yst⟩) = true from decide_eq_true (.inr (.inr ⟨c2, .inl c3⟩)))
                        clear c2
                        have hSd : W.drew.cell? ⟨gb, 0, none⟩ = some (.int .i64 qv) ∧ W.drew.cell? ⟨gb, 1, none⟩ = some (.int .i64 qm) ∧ W.drew.cell? ⟨gb, 3, none⟩ = some (.int .i64 qs) ∧ W.drew.cell? ⟨g, 0, none⟩ = some (.slice (some ⟨b, off, none⟩) n c) ∧ W.drew.cell? ⟨b, off + i * 5, none⟩ = some (.int .i64 yv) ∧ W.drew.cell? ⟨b, off + i * 5 + 1, none⟩ = some (.int .i64 ym) ∧ W.drew.cell? ⟨b, off + i * 5 + 3, none⟩ = some (.int .i64 ys) := ⟨x0, x1, x3, g00, y0, y1, y3⟩
                        clear x0 x1 x3 g00 y0 y1 y3
                        refine wp_region_heldD (S := fun w' => w'.cell? ⟨gb, 0, none⟩ = some (.int .i64 qv) ∧ w'.cell? ⟨gb, 1, none⟩ = some (.int .i64 qm) ∧ w'.cell? ⟨gb, 3, none⟩ = some (.int .i64 qs) ∧ w'.cell? ⟨g, 0, none⟩ = some (.slice (some ⟨b, off, none⟩) n c) ∧ w'.cell? ⟨b, off + i * 5, none⟩ = some (.int .i64 yv) ∧ w'.cell? ⟨b, off + i * 5 + 1, none⟩ = some (.int .i64 ym) ∧ w'.cell? ⟨b, off + i * 5 + 3, none⟩ = some (.int .i64 ys)) (by kernel_rfl) (fun _ _ _ _ _ h => h) hSd (fun hPF hHeld => ?_)
                        refine wpAnyH_takeD (i := 0) 44 (v := ?_) rfl rfl (by kernel_rfl) (by kernel_rfl) (by kernel_rfl) hPF (Or.inl ⟨by kernel_rfl, ?_⟩) hHeld ?_
                        rotate_left
                        · intro w hSw; obtain ⟨s0, s1, s3, sg, r0, r1, r3⟩ := hSw; go_simp; try with_reducible rfl
                        try simp only [Act.put, List.setIfInBounds_toArray, List.set_cons_zero, List.set_cons_succ]
                        refine wpAnyH_takeD (i := 1) 45 (v := ?_) rfl rfl (by kernel_rfl) (by kernel_rfl) (by kernel_rfl) hPF (Or.inl ⟨by kernel_rfl, ?_⟩) hHeld ?_
                        rotate_left
                        · intro w hSw; obtain ⟨s0, s1, s3, sg, r0, r1, r3⟩ := hSw; go_simp; try with_reducible rfl
                        try simp only [Act.put, List.setIfInBounds_toArray, List.set_cons_zero, List.set_cons_succ]
                        refine wpAnyH_takeD (i := 2) 46 (v := ?_) rfl rfl (by kernel_rfl) (by kernel_rfl) (by kernel_rfl) hPF (Or.inl ⟨by kernel_rfl, ?_⟩) hHeld ?_
                        rotate_left
                        · intro w hSw; obtain ⟨s0, s1, s3, sg, r0, r1, r3⟩ := hSw; go_simp; try with_reducible rfl
                        try simp only [Act.put, List.setIfInBounds_toArray, List.set_cons_zero, List.set_cons_succ]
                        refine wpAnyH_takeD (i := 3) 47 (v := ?_) rfl rfl (by kernel_rfl) (by kernel_rfl) (by kernel_rfl) hPF (Or.inl ⟨by kernel_rfl, ?_⟩) hHeld ?_
                        rotate_left
                        · intro w hSw; obtain ⟨s0, s1, s3, sg, r0, r1, r3⟩ := hSw; go_simp; try with_reducible rfl
                        try simp only [Act.put, List.setIfInBounds_toArray, List.set_cons_zero, List.set_cons_succ]
                        refine wpAnyH_takeD (i := 4) 48 (v := ?_) rfl rfl (by kernel_rfl) (by kernel_rfl) (by kernel_rfl) hPF (Or.inl ⟨by kernel_rfl, ?_⟩) hHeld ?_
                        rotate_left
                        · intro w hSw; obtain ⟨s0, s1, s3, sg, r0, r1, r3⟩ := hSw; go_simp; try with_reducible rfl
                        try simp only [Act.put, List.setIfInBounds_toArray, List.set_cons_zero, List.set_cons_succ]
                        refine wpAnyH_takeD (i := 5) 49 (v := ?_) rfl rfl (by kernel_rfl) (by kernel_rfl) (by kernel_rfl) hPF (Or.inl ⟨by kernel_rfl, ?_⟩) hHeld ?_
                        rotate_left
                        · intro w hSw; obtain ⟨s0, s1, s3, sg, r0, r1, r3⟩ := hSw; go_simp; try with_reducible rfl
                        try simp only [Act.put, List.setIfInBounds_toArray, List.set_cons_zero, List.set_cons_succ]
                        refine wpAnyH_takeD (i := 6) 50 (v := ?_) rfl rfl (by kernel_rfl) (by kernel_rfl) (by kernel_rfl) hPF (Or.inl ⟨by kernel_rfl, ?_⟩) hHeld ?_
                        rotate_left
                        · intro w hSw; obtain ⟨s0, s1, s3, sg, r0, r1, r3⟩ := hSw; go_simp; try with_reducible rfl
                        try simp only [Act.put, List.setIfInBounds_toArray, List.set_cons_zero, List.set_cons_succ]
                        refine wpAnyH_takeD (i := 7) 51 (v := ?_) rfl rfl (by kernel_rfl) (by kernel_rfl) (by kernel_rfl) hPF (Or.inl ⟨by kernel_rfl, ?_⟩) hHeld ?_
                        rotate_left
                        · intro w hSw; obtain ⟨s0, s1, s3, sg, r0, r1, r3⟩ := hSw; go_simp; try with_reducible rfl
                        try simp only [Act.put, List.setIfInBounds_toArray, List.set_cons_zero, List.set_cons_succ]
                        refine wpAnyH_takeD (i := 8) 52 (v := ?_) rfl rfl (by kernel_rfl) (by kernel_rfl) (by kernel_rfl) hPF (Or.inl ⟨by kernel_rfl, ?_⟩) hHeld ?_
                        rotate_left
                        · intro w hSw; obtain ⟨s0, s1, s3, sg, r0, r1, r3⟩ := hSw; go_simp; try with_reducible rfl
                        try simp only [Act.put, List.setIfInBounds_toArray, List.set_cons_zero, List.set_cons_succ]
                        refine wpAnyH_takeD (i := 9) 53 (v := ?_) rfl rfl (by kernel_rfl) (by kernel_rfl) (by kernel_rfl) hPF (Or.inl ⟨by kernel_rfl, ?_⟩) hHeld ?_
                        rotate_left
                        · intro w hSw; obtain ⟨s0, s1, s3, sg, r0, r1, r3⟩ := hSw; go_simp; try with_reducible rfl
                        try simp only [Act.put, List.setIfInBounds_toArray, List.set_cons_zero, List.set_cons_succ]
                        refine wpAnyH_takeD (i := 10) 54 (v := ?_) rfl rfl (by kernel_rfl) (by kernel_rfl) (by kernel_rfl) hPF (Or.inl ⟨by kernel_rfl, ?_⟩) hHeld ?_
                        rotate_left
                        · intro w hSw; obtain ⟨s0, s1, s3, sg, r0, r1, r3⟩ := hSw; go_simp; try with_reducible rfl
                        try simp only [Act.put, List.setIfInBounds_toArray, List.set_cons_zero, List.set_cons_succ]
                        refine wpAnyH_takeD (i := 11) 55 (v := ?_) rfl rfl (by kernel_rfl) (by kernel_rfl) (by kernel_rfl) hPF (Or.inl ⟨by kernel_rfl, ?_⟩) hHeld ?_
                        rotate_left
                        · intro w hSw; obtain ⟨s0, s1, s3, sg, r0, r1, r3⟩ := hSw; go_simp; try with_reducible rfl
                        try simp only [Act.put, List.setIfInBounds_toArray, List.set_cons_zero, List.set_cons_succ]
                        refine wpAnyH_takeD (i := 12) 56 (v := ?_) rfl rfl (by kernel_rfl) (by kernel_rfl) (by kernel_rfl) hPF (Or.inl ⟨by kernel_rfl, ?_⟩) hHeld ?_
                        rotate_left
                        · intro w hSw; obtain ⟨s0, s1, s3, sg, r0, r1, r3⟩ := hSw; go_simp; try with_reducible rfl
                        try simp only [Act.put, List.setIfInBounds_toArray, List.set_cons_zero, List.set_cons_succ]
                        refine wpAnyH_takeD (i := 13) 57 (v := ?_) rfl rfl (by kernel_rfl) (by kernel_rfl) (by kernel_rfl) hPF (Or.inl ⟨by kernel_rfl, ?_⟩) hHeld ?_
                        rotate_left
                        · intro w hSw; obtain ⟨s0, s1, s3, sg, r0, r1, r3⟩ := hSw; go_simp; try with_reducible rfl
                        try simp only [Act.put, List.setIfInBounds_toArray, List.set_cons_zero, List.set_cons_succ]
                        refine wpAnyH_takeD (i := 14) 58 (v := ?_) rfl rfl (by kernel_rfl) (by kernel_rfl) (by kernel_rfl) hPF (Or.inl ⟨by kernel_rfl, ?_⟩) hHeld ?_
                        rotate_left
                        · intro w hSw; obtain ⟨s0, s1, s3, sg, r0, r1, r3⟩ := hSw; go_simp; try with_reducible rfl
                        try simp only [Act.put, List.setIfInBounds_toArray, List.set_cons_zero, List.set_cons_succ]
                        refine wpAnyH_takeD (i := 15) 59 (v := ?_) rfl rfl (by kernel_rfl) (by kernel_rfl) (by kernel_rfl) hPF (Or.inl ⟨by kernel_rfl, ?_⟩) hHeld ?_
                        rotate_left
                        · intro w hSw; obtain ⟨s0, s1, s3, sg, r0, r1, r3⟩ := hSw; go_simp; try with_reducible rfl
                        try simp only [Act.put, List.setIfInBounds_toArray, List.set_cons_zero, List.set_cons_succ]
                        refine wpAnyH_takeD (i := 16) 60 (v := ?_) rfl rfl (by kernel_rfl) (by kernel_rfl) (by kernel_rfl) hPF (Or.inl ⟨by kernel_rfl, ?_⟩) hHeld ?_
                        rotate_left
                        · intro w hSw; obtain ⟨s0, s1, s3, sg, r0, r1, r3⟩ := hSw; go_simp; try with_reducible rfl
                        try simp only [Act.put, List.setIfInBounds_toArray, List.set_cons_zero, List.set_cons_succ]
                        refine wpAnyH_takeD (i := 17) 61 (v := ?_) rfl rfl (by kernel_rfl) (by kernel_rfl) (by kernel_rfl) hPF (Or.inl ⟨by kernel_rfl, ?_⟩) hHeld ?_
                        rotate_left
                        · intro w hSw; obtain ⟨s0, s1, s3, sg, r0, r1, r3⟩ := hSw; go_simp; try with_reducible rfl
                        try simp only [Act.put, List.setIfInBounds_toArray, List.set_cons_zero, List.set_cons_succ]
                        refine wpAnyH_takeD (i := 18) 62 (v := ?_) rfl rfl (by kernel_rfl) (by kernel_rfl) (by kernel_rfl) hPF (Or.inl ⟨by kernel_rfl, ?_⟩) hHeld ?_
                        rotate_left
                        · intro w hSw; obtain ⟨s0, s1, s3, sg, r0, r1, r3⟩ := hSw; go_simp; try with_reducible rfl
                        try simp only [Act.put, List.setIfInBounds_toArray, List.set_cons_zero, List.set_cons_succ]
                        refine wpAnyH_takeD (i := 19) 63 (v := ?_) rfl rfl (by kernel_rfl) (by kernel_rfl) (by kernel_rfl) hPF (Or.inl ⟨by kernel_rfl, ?_⟩) hHeld ?_
                        rotate_left
                        · intro w hSw; obtain ⟨s0, s1, s3, sg, r0, r1, r3⟩ := hSw; go_simp; try with_reducible rfl
                        try simp only [Act.put, List.setIfInBounds_toArray, List.set_cons_zero, List.set_cons_succ]
                        refine wpAnyH_takeD (i := 20) 64 (v := ?_) rfl rfl (by kernel_rfl) (by kernel_rfl) (by kernel_rfl) hPF (Or.inl ⟨by kernel_rfl, ?_⟩) hHeld ?_
                        rotate_left
                        · intro w hSw; obtain ⟨s0, s1, s3, sg, r0, r1, r3⟩ := hSw; go_simp; try with_reducible rfl
                        try simp only [Act.put, List.setIfInBounds_toArray, List.set_cons_zero, List.set_cons_succ]
                        refine wpAnyH_takeD (i := 21) 65 (v := ?_) rfl rfl (by kernel_rfl) (by kernel_rfl) (by kernel_rfl) hPF (Or.inl ⟨by kernel_rfl, ?_⟩) hHeld ?_
                        rotate_left
                        · intro w hSw; obtain ⟨s0, s1, s3, sg, r0, r1, r3⟩ := hSw; go_simp; try with_reducible rfl
                        try simp only [Act.put, List.setIfInBounds_toArray, List.set_cons_zero, List.set_cons_succ]
                        refine wpAnyH_takeD (i := 22) 66 (v := ?_) rfl rfl (by kernel_rfl) (by kernel_rfl) (by kernel_rfl) hPF (Or.inl ⟨by kernel_rfl, ?_⟩) hHeld ?_
                        rotate_left
                        · intro w hSw; obtain ⟨s0, s1, s3, sg, r0, r1, r3⟩ := hSw; go_simp; try with_reducible rfl
                        try simp only [Act.put, List.setIfInBounds_toArray, List.set_cons_zero, List.set_cons_succ]
                        refine wpAnyH_takeD (i := 23) 67 (v := ?_) rfl rfl (by kernel_rfl) (by kernel_rfl) (by kernel_rfl) hPF (Or.inl ⟨by kernel_rfl, ?_⟩) hHeld ?_
                        rotate_left
                        · intro w hSw; obtain ⟨s0, s1, s3, sg, r0, r1, r3⟩ := hSw; go_simp; try with_reducible rfl
                        try simp only [Act.put, List.setIfInBounds_toArray, List.set_cons_zero, List.set_cons_succ]
                        refine wpAnyH_takeD (i := 24) 68 (v := ?_) rfl rfl (by kernel_rfl) (by kernel_rfl) (by kernel_rfl) hPF (Or.inl ⟨by kernel_rfl, ?_⟩) hHeld ?_
                        rotate_left
                        · intro w hSw; obtain ⟨s0, s1, s3, sg, r0, r1, r3⟩ := hSw; go_simp; try with_reducible rfl
                        try simp only [Act.put, List.setIfInBounds_toArray, List.set_cons_zero, List.set_cons_succ]
                        refine wpAnyH_takeD (i := 25) 69 (v := ?_) rfl rfl (by kernel_rfl) (by kernel_rfl) (by kernel_rfl) hPF (Or.inl ⟨by kernel_rfl, ?_⟩) hHeld ?_
                        rotate_left
                        · intro w hSw; obtain ⟨s0, s1, s3, sg, r0, r1, r3⟩ := hSw; go_simp; try with_reducible rfl
                        try simp only [Act.put, List.setIfInBounds_toArray, List.set_cons_zero, List.set_cons_succ]
                        refine wpAnyH_takeD (i := 26) 70 (v := ?_) rfl rfl (by kernel_rfl) (by kernel_rfl) (by kernel_rfl) hPF (Or.inl ⟨by kernel_rfl, ?_⟩) hHeld ?_
                        rotate_left
                        · intro w hSw; obtain ⟨s0, s1, s3, sg, r0, r1, r3⟩ := hSw; go_simp; try with_reducible rfl
                        try simp only [Act.put, List.setIfInBounds_toArray, List.set_cons_zero, List.set_cons_succ]
                        refine wpAnyH_takeD (i := 27) 71 (v := ?_) rfl rfl (by kernel_rfl) (by kernel_rfl) (by kernel_rfl) hPF (Or.inl ⟨by kernel_rfl, ?_⟩) hHeld ?_
                        rotate_left
                        · intro w hSw; obtain ⟨s0, s1, s3, sg, r0, r1, r3⟩ := hSw; go_simp; try with_reducible rfl
                        try simp only [Act.put, List.setIfInBounds_toArray, List.set_cons_zero, List.set_cons_succ]
                        refine wpAnyH_takeD (i := 28) 72 (v := ?_) rfl rfl (by kernel_rfl) (by kernel_rfl) (by kernel_rfl) hPF (Or.inl ⟨by kernel_rfl, ?_⟩) hHeld ?_
                        rotate_left
                        · intro w hSw; obtain ⟨s0, s1, s3, sg, r0, r1, r3⟩ := hSw; go_simp; try with_reducible rfl
                        try simp only [Act.put, List.setIfInBounds_toArray, List.set_cons_zero, List.set_cons_succ]
                        refine wpAnyH_takeD (i := 29) 73 (v := ?_) rfl rfl (by kernel_rfl) (by kernel_rfl) (by kernel_rfl) hPF (Or.inl ⟨by kernel_rfl, ?_⟩) hHeld ?_
                        rotate_left
                        · intro w hSw; obtain ⟨s0, s1, s3, sg, r0, r1, r3⟩ := hSw; go_simp; try with_reducible rfl
                        try simp only [Act.put, List.setIfInBounds_toArray, List.set_cons_zero, List.set_cons_succ]
                        refine wpAnyH_takeD (i := 30) 74 (v := ?_) rfl rfl (by kernel_rfl) (by kernel_rfl) (by kernel_rfl) hPF (Or.inl ⟨by kernel_rfl, ?_⟩) hHeld ?_
                        rotate_left
                        · intro w hSw; obtain ⟨s0, s1, s3, sg, r0, r1, r3⟩ := hSw; go_simp; try with_reducible rfl
                        try simp only [Act.put, List.setIfInBounds_toArray, List.set_cons_zero, List.set_cons_succ]
                        refine wpAnyH_takeD (i := 31) 75 (v := ?_) rfl rfl (by kernel_rfl) (by kernel_rfl) (by kernel_rfl) hPF (Or.inl ⟨by kernel_rfl, ?_⟩) hHeld ?_
                        rotate_left
                        · intro w hSw; obtain ⟨s0, s1, s3, sg, r0, r1, r3⟩ := hSw; go_simp; try with_reducible rfl
                        try simp only [Act.put, List.setIfInBounds_toArray, List.set_cons_zero, List.set_cons_succ]
                        refine wpAnyH_takeD (i := 32) 76 (v := ?_) rfl rfl (by kernel_rfl) (by kernel_rfl) (by kernel_rfl) hPF (Or.inl ⟨by kernel_rfl, ?_⟩) hHeld ?_
                        rotate_left
                        · intro w hSw; obtain ⟨s0, s1, s3, sg, r0, r1, r3⟩ := hSw; go_simp; try with_reducible rfl
                        try simp only [Act.put, List.setIfInBounds_toArray, List.set_cons_zero, List.set_cons_succ]
                        refine wpAnyH_takeD (i := 33) 77 (v := ?_) rfl rfl (by kernel_rfl) (by kernel_rfl) (by kernel_rfl) hPF (Or.inl ⟨by kernel_rfl, ?_⟩) hHeld ?_
                        rotate_left
                        · intro w hSw; obtain ⟨s0, s1, s3, sg, r0, r1, r3⟩ := hSw; go_simp; try with_reducible rfl
                        try simp only [Act.put, List.setIfInBounds_toArray, List.set_cons_zero, List.set_cons_succ]
                        refine wpAnyH_takeD (i := 34) 78 (v := ?_) rfl rfl (by kernel_rfl) (by kernel_rfl) (by kernel_rfl) hPF (Or.inl ⟨by kernel_rfl, ?_⟩) hHeld ?_
                        rotate_left
                        · intro w hSw; obtain ⟨s0, s1, s3, sg, r0, r1, r3⟩ := hSw; go_simp; try with_reducible rfl
                        try simp only [Act.put, List.setIfInBounds_toArray, List.set_cons_zero, List.set_cons_succ]
                        refine wpAnyH_takeD (i := 35) 79 (v := ?_) rfl rfl (by kernel_rfl) (by kernel_rfl) (by kernel_rfl) hPF (Or.inl ⟨by kernel_rfl, ?_⟩) hHeld ?_
                        rotate_left
                        · intro w hSw; obtain ⟨s0, s1, s3, sg, r0, r1, r3⟩ := hSw; go_simp; try with_reducible rfl
                        try simp only [Act.put, List.setIfInBounds_toArray, List.set_cons_zero, List.set_cons_succ]
                        refine wpAnyH_takeD (i := 36) 80 (v := ?_) rfl rfl (by kernel_rfl) (by kernel_rfl) (by kernel_rfl) hPF (Or.inl ⟨by kernel_rfl, ?_⟩) hHeld ?_
                        rotate_left
                        · intro w hSw; obtain ⟨s0, s1, s3, sg, r0, r1, r3⟩ := hSw; go_simp; try with_reducible rfl
                        try simp only [Act.put, List.setIfInBounds_toArray, List.set_cons_zero, List.set_cons_succ]
                        refine wpAnyH_takeD (i := 37) 81 (v := ?_) rfl rfl (by kernel_rfl) (by kernel_rfl) (by kernel_rfl) hPF (Or.inl ⟨by kernel_rfl, ?_⟩) hHeld ?_
                        rotate_left
                        · intro w hSw; obtain ⟨s0, s1, s3, sg, r0, r1, r3⟩ := hSw; go_simp; try with_reducible rfl
                        try simp only [Act.put, List.setIfInBounds_toArray, List.set_cons_zero, List.set_cons_succ]
                        refine wpAnyH_takeD (i := 38) 82 (v := ?_) rfl rfl (by kernel_rfl) (by kernel_rfl) (by kernel_rfl) hPF (Or.inl ⟨by kernel_rfl, ?_⟩) hHeld ?_
                        rotate_left
                        · intro w hSw; obtain ⟨s0, s1, s3, sg, r0, r1, r3⟩ := hSw; go_simp; try with_reducible rfl
                        try simp only [Act.put, List.setIfInBounds_toArray, List.set_cons_zero, List.set_cons_succ]
                        refine wpAnyH_takeD (i := 39) 83 (v := ?_) rfl rfl (by kernel_rfl) (by kernel_rfl) (by kernel_rfl) hPF (Or.inl ⟨by kernel_rfl, ?_⟩) hHeld ?_
                        rotate_left
                        · intro w hSw; obtain ⟨s0, s1, s3, sg, r0, r1, r3⟩ := hSw; go_simp; try with_reducible rfl
                        try simp only [Act.put, List.setIfInBounds_toArray, List.set_cons_zero, List.set_cons_succ]
                        refine wpAnyH_takeD (i := 40) 84 (v := undef) rfl rfl (by kernel_rfl) (by kernel_rfl) (by kernel_rfl) hPF (Or.inr ⟨by kernel_rfl, rfl⟩) hHeld ?_
                        try simp only [Act.put, List.setIfInBounds_toArray, List.set_cons_zero, List.set_cons_succ]
                        refine wpAnyH_takeD (i := 41) 85 (v := undef) rfl rfl (by kernel_rfl) (by kernel_rfl) (by kernel_rfl) hPF (Or.inr ⟨by kernel_rfl, rfl⟩) hHeld ?_
                        try simp only [Act.put, List.setIfInBounds_toArray, List.set_cons_zero, List.set_cons_succ]
                        refine wpAnyH_takeD (i := 42) 86 (v := undef) rfl rfl (by kernel_rfl) (by kernel_rfl) (by kernel_rfl) hPF (Or.inr ⟨by kernel_rfl, rfl⟩) hHeld ?_
                        try simp only [Act.put, List.setIfInBounds_toArray, List.set_cons_zero, List.set_cons_succ]
                        refine wpAnyH_takeD (i := 43) 87 (v := undef) rfl rfl (by kernel_rfl) (by kernel_rfl) (by kernel_rfl) hPF (Or.inr ⟨by kernel_rfl, rfl⟩) hHeld ?_
                        try simp only [Act.put, List.setIfInBounds_toArray, List.set_cons_zero, List.set_cons_succ]
                        refine wpAnyH_takeD (i := 44) 88 (v := undef) rfl rfl (by kernel_rfl) (by kernel_rfl) (by kernel_rfl) hPF (Or.inr ⟨by kernel_rfl, rfl⟩) hHeld ?_
                        try simp only [Act.put, List.setIfInBounds_toArray, List.set_cons_zero, List.set_cons_succ]
                        refine wpAnyH_takeD (i := 45) 89 (v := undef) rfl rfl (by kernel_rfl) (by kernel_rfl) (by kernel_rfl) hPF (Or.inr ⟨by kernel_rfl, rfl⟩) hHeld ?_
                        try simp only [Act.put, List.setIfInBounds_toArray, List.set_cons_zero, List.set_cons_succ]
                        refine wpAnyH_takeD (i := 46) 90 (v := undef) rfl rfl (by kernel_rfl) (by kernel_rfl) (by kernel_rfl) hPF (Or.inr ⟨by kernel_rfl, rfl⟩) hHeld ?_
                        try simp only [Act.put, List.setIfInBounds_toArray, List.set_cons_zero, List.set_cons_succ]
                        refine wpAnyH_takeD (i := 47) 91 (v := undef) rfl rfl (by kernel_rfl) (by kernel_rfl) (by kernel_rfl) hPF (Or.inr ⟨by kernel_rfl, rfl⟩) hHeld ?_
                        try simp only [Act.put, List.setIfInBounds_toArray, List.set_cons_zero, List.set_cons_succ]
                        refine wpAnyH_takeD (i := 48) 92 (v := undef) rfl rfl (by kernel_rfl) (by kernel_rfl) (by kernel_rfl) hPF (Or.inr ⟨by kernel_rfl, rfl⟩) hHeld ?_
                        try simp only [Act.put, List.setIfInBounds_toArray, List.set_cons_zero, List.set_cons_succ]
                        refine wpAnyH_takeD (i := 49) 93 (v := undef) rfl rfl (by kernel_rfl) (by kernel_rfl) (by kernel_rfl) hPF (Or.inr ⟨by kernel_rfl, rfl⟩) hHeld ?_
                        try simp only [Act.put, List.setIfInBounds_toArray, List.set_cons_zero, List.set_cons_succ]
                        refine wpAnyH_takeD (i := 50) 94 (v := undef) rfl rfl (by kernel_rfl) (by kernel_rfl) (by kernel_rfl) hPF (Or.inr ⟨by kernel_rfl, rfl⟩) hHeld ?_
                        try simp only [Act.put, List.setIfInBounds_toArray, List.set_cons_zero, List.set_cons_succ]
                        refine wpAnyH_takeD (i := 51) 95 (v := undef) rfl rfl (by kernel_rfl) (by kernel_rfl) (by kernel_rfl) hPF (Or.inr ⟨by kernel_rfl, rfl⟩) hHeld ?_
                        try simp only [Act.put, List.setIfInBounds_toArray, List.set_cons_zero, List.set_cons_succ]
                        refine wpAnyH_takeD (i := 52) 96 (v := undef) rfl rfl (by kernel_rfl) (by kernel_rfl) (by kernel_rfl) hPF (Or.inr ⟨by kernel_rfl, rfl⟩) hHeld ?_
                        try simp only [Act.put, List.setIfInBounds_toArray, List.set_cons_zero, List.set_cons_succ]
                        refine wpAnyH_takeD (i := 53) 97 (v := undef) rfl rfl (by kernel_rfl) (by kernel_rfl) (by kernel_rfl) hPF (Or.inr ⟨by kernel_rfl, rfl⟩) hHeld ?_
                        try simp only [Act.put, List.setIfInBounds_toArray, List.set_cons_zero, List.set_cons_succ]
                        refine wpAnyH_takeD (i := 54) 98 (v := undef) rfl rfl (by kernel_rfl) (by kernel_rfl) (by kernel_rfl) hPF (Or.inr ⟨by kernel_rfl, rfl⟩) hHeld ?_
                        try simp only [Act.put, List.setIfInBounds_toArray, List.set_cons_zero, List.set_cons_succ]
                        refine wpAnyH_takeD (i := 55) 99 (v := undef) rfl rfl (by kernel_rfl) (by kernel_rfl) (by kernel_rfl) hPF (Or.inr ⟨by kernel_rfl, rfl⟩) hHeld ?_
                        try simp only [Act.put, List.setIfInBounds_toArray, List.set_cons_zero, List.set_cons_succ]
                        refine wpAnyH_takeD (i := 56) 100 (v := undef) rfl rfl (by kernel_rfl) (by kernel_rfl) (by kernel_rfl) hPF (Or.inr ⟨by kernel_rfl, rfl⟩) hHeld ?_
                        try simp only [Act.put, List.setIfInBounds_toArray, List.set_cons_zero, List.set_cons_succ]
                        refine wpAnyH_takeD (i := 57) 101 (v := undef) rfl rfl (by kernel_rfl) (by kernel_rfl) (by kernel_rfl) hPF (Or.inr ⟨by kernel_rfl, rfl⟩) hHeld ?_
                        try simp only [Act.put, List.setIfInBounds_toArray, List.set_cons_zero, List.set_cons_succ]
                        refine wpAnyH_takeD (i := 58) 102 (v := undef) rfl rfl (by kernel_rfl) (by kernel_rfl) (by kernel_rfl) hPF (Or.inr ⟨by kernel_rfl, rfl⟩) hHeld ?_
                        try simp only [Act.put, List.setIfInBounds_toArray, List.set_cons_zero, List.set_cons_succ]
                        refine wpAnyH_takeD (i := 59) 103 (v := undef) rfl rfl (by kernel_rfl) (by kernel_rfl) (by kernel_rfl) hPF (Or.inr ⟨by kernel_rfl, rfl⟩) hHeld ?_
                        try simp only [Act.put, List.setIfInBounds_toArray, List.set_cons_zero, List.set_cons_succ]
                        refine wpAnyH_takeD (i := 60) 104 (v := undef) rfl rfl (by kernel_rfl) (by kernel_rfl) (by kernel_rfl) hPF (Or.inr ⟨by kernel_rfl, rfl⟩) hHeld ?_
                        try simp only [Act.put, List.setIfInBounds_toArray, List.set_cons_zero, List.set_cons_succ]
                        refine wpAnyH_takeD (i := 61) 105 (v := undef) rfl rfl (by kernel_rfl) (by kernel_rfl) (by kernel_rfl) hPF (Or.inr ⟨by kernel_rfl, rfl⟩) hHeld ?_
                        try simp only [Act.put, List.setIfInBounds_toArray, List.set_cons_zero, List.set_cons_succ]
                        refine wpAnyH_takeD (i := 62) 106 (v := undef) rfl rfl (by kernel_rfl) (by kernel_rfl) (by kernel_rfl) hPF (Or.inr ⟨by kernel_rfl, rfl⟩) hHeld ?_
                        try simp only [Act.put, List.setIfInBounds_toArray, List.set_cons_zero, List.set_cons_succ]
                        refine wpAnyH_takeD (i := 63) 107 (v := undef) rfl rfl (by kernel_rfl) (by kernel_rfl) (by kernel_rfl) hPF (Or.inr ⟨by kernel_rfl, rfl⟩) hHeld ?_
                        try simp only [Act.put, List.setIfInBounds_toArray, List.set_cons_zero, List.set_cons_succ]
                        refine wpAnyH_takeD (i := 64) 108 (v := ?_) rfl rfl (by kernel_rfl) (by kernel_rfl) (by kernel_rfl) hPF (Or.inl ⟨by kernel_rfl, ?_⟩) hHeld ?_
                        rotate_left
                        · intro w hSw; obtain ⟨s0, s1, s3, sg, r0, r1, r3⟩ := hSw; go_simp; try with_reducible rfl
                        try simp only [Act.put, List.setIfInBounds_toArray, List.set_cons_zero, List.set_cons_succ]
                        refine wpAnyH_takeD (i := 65) 109 (v := ?_) rfl rfl (by kernel_rfl) (by kernel_rfl) (by kernel_rfl) hPF (Or.inl ⟨by kernel_rfl, ?_⟩) hHeld ?_
                        rotate_left
                        · intro w hSw; obtain ⟨s0, s1, s3, sg, r0, r1, r3⟩ := hSw; go_simp; try with_reducible rfl
                        try simp only [Act.put, List.setIfInBounds_toArray, List.set_cons_zero, List.set_cons_succ]
                        refine wpAnyH_takeD (i := 66) 110 (v := ?_) rfl rfl (by kernel_rfl) (by kernel_rfl) (by kernel_rfl) hPF (Or.inl ⟨by kernel_rfl, ?_⟩) hHeld ?_
                        rotate_left
                        · intro w hSw; obtain ⟨s0, s1, s3, sg, r0, r1, r3⟩ := hSw; go_simp; try with_reducible rfl
                        try simp only [Act.put, List.setIfInBounds_toArray, List.set_cons_zero, List.set_cons_succ]
                        refine wpAnyH_done (by kernel_rfl) ?_ _
                        go_wp2_with fail
                        go_meet
                        exact ⟨by rw [HE.out], Lib.hid ⟨1, rfl⟩⟩
                      · by_cases c4 : qv = yv
                        · have c4b : (qv == yv) = true := by simpa using c4
                          obtain ⟨b5, hb5⟩ : ∃ b5, decide (qm < ym) = b5 := ⟨_, rfl⟩
                          have HE := Lib.hid (show decide ((i : Int) < 0 ∨ ltS ⟨qv, qm, qp, qs, false⟩ ⟨yv, ym, yp, ys, yst⟩) = b5 from by
                            rw [← hb5]
                            refine decide_eq_decide.2 ⟨fun c => ?_, fun c => .inr (.inr ⟨c2, .inr ⟨c4, c⟩⟩)⟩
                            rcases c with c | c
                            · exact absurd c i2
                            · unfold ltS at c
                              simp only at c
                              omega)
                          clear c2 c4
                          have hSd : W.drew.cell? ⟨gb, 0, none⟩ = some (.int .i64 qv) ∧ W.drew.cell? ⟨gb, 1, none⟩ = some (.int .i64 qm) ∧ W.drew.cell? ⟨gb, 3, none⟩ = some (.int .i64 qs) ∧ W.drew.cell? ⟨g, 0, none⟩ = some (.slice (some ⟨b, off, none⟩) n c) ∧ W.drew.cell? ⟨b, off + i * 5, none⟩ = some (.int .i64 yv) ∧ W.drew.cell? ⟨b, off + i * 5 + 1, none⟩ = some (.int .i64 ym) ∧ W.drew.cell? ⟨b, off + i * 5 + 3, none⟩ = some (.int .i64 ys) := ⟨x0, x1, x3, g00, y0, y1, y3⟩
                          clear x0 x1 x3 g00 y0 y1 y3
                          refine wp_region_heldD (S := fun w' => w'.cell? ⟨gb, 0, none⟩ = some (.int .i64 qv) ∧ w'.cell? ⟨gb, 1, none⟩ = some (.int .i64 qm) ∧ w'.cell? ⟨gb, 3, none⟩ = some (.int .i64 qs) ∧ w'.cell? ⟨g, 0, none⟩ = some (.slice (some ⟨b, off, none⟩) n c) ∧ w'.cell? ⟨b, off + i * 5, none⟩ = some (.int .i64 yv) ∧ w'.cell? ⟨b, off + i * 5 + 1, none⟩ = some (.int .i64 ym) ∧ w'.cell? ⟨b, off + i * 5 + 3, none⟩ = some (.int .i64 ys)) (by kernel_rfl) (fun _ _ _ _ _ h => h) hSd (fun hPF hHeld => ?_)
                          refine wpAnyH_takeD (i := 0) 44 (v := ?_) rfl rfl (by kernel_rfl) (by kernel_rfl) (by kernel_rfl) hPF (Or.inl ⟨by kernel_rfl, ?_⟩) hHeld ?_
                          rotate_left
                          · intro w hSw; obtain ⟨s0, s1, s3, sg, r0, r1, r3⟩ := hSw; go_simp; try with_reducible rfl
                          try simp only [Act.put, List.setIfInBounds_toArray, List.set_cons_zero, List.set_cons_succ]
                          refine wpAnyH_takeD (i := 1) 45 (v := ?_) rfl rfl (by kernel_rfl) (by kernel_rfl) (by kernel_rfl) hPF (Or.inl ⟨by kernel_rfl, ?_⟩) hHeld ?_
                          rotate_left
                          · intro w hSw; obtain ⟨s0, s1, s3, sg, r0, r1, r3⟩ := hSw; go_simp; try with_reducible rfl
                          try simp only [Act.put, List.setIfInBounds_toArray, List.set_cons_zero, List.set_cons_succ]
                          refine wpAnyH_takeD (i := 2) 46 (v := ?_) rfl rfl (by kernel_rfl) (by kernel_rfl) (by kernel_rfl) hPF (Or.inl ⟨by kernel_rfl, ?_⟩) hHeld ?_
                          rotate_left
                          · intro w hSw; obtain ⟨s0, s1, s3, sg, r0, r1, r3⟩ := hSw; go_simp; try with_reducible rfl
                          try simp only [Act.put, List.setIfInBounds_toArray, List.set_cons_zero, List.set_cons_succ]
                          refine wpAnyH_takeD (i := 3) 47 (v := ?_) rfl rfl (by kernel_rfl) (by kernel_rfl) (by kernel_rfl) hPF (Or.inl ⟨by kernel_rfl, ?_⟩) hHeld ?_
                          rotate_left
                          · intro w hSw; obtain ⟨s0, s1, s3, sg, r0, r1, r3⟩ := hSw; go_simp; try with_reducible rfl
                          try simp only [Act.put, List.setIfInBounds_toArray, List.set_cons_zero, List.set_cons_succ]
                          refine wpAnyH_takeD (i := 4) 48 (v := ?_) rfl rfl (by kernel_rfl) (by kernel_rfl) (by kernel_rfl) hPF (Or.inl ⟨by kernel_rfl, ?_⟩) hHeld ?_
                          rotate_left
                          · intro w hSw; obtain ⟨s0, s1, s3, sg, r0, r1, r3⟩ := hSw; go_simp; try with_reducible rfl
                          try simp only [Act.put, List.setIfInBounds_toArray, List.set_cons_zero, List.set_cons_succ]
                          refine wpAnyH_takeD (i := 5) 49 (v := ?_) rfl rfl (by kernel_rfl) (by kernel_rfl) (by kernel_rfl) hPF (Or.inl ⟨by kernel_rfl, ?_⟩) hHeld ?_
                          rotate_left
                          · intro w hSw; obtain ⟨s0, s1, s3, sg, r0, r1, r3⟩ := hSw; go_simp; try with_reducible rfl
                          try simp only [Act.put, List.setIfInBounds_toArray, List.set_cons_zero, List.set_cons_succ]
                          refine wpAnyH_takeD (i := 6) 50 (v := ?_) rfl rfl (by kernel_rfl) (by kernel_rfl) (by kernel_rfl) hPF (Or.inl ⟨by kernel_rfl, ?_⟩) hHeld ?_
                          rotate_left
                          · intro w hSw; obtain ⟨s0, s1, s3, sg, r0, r1, r3⟩ := hSw; go_simp; try with_reducible rfl
                          try simp only [Act.put, List.setIfInBounds_toArray, List.set_cons_zero, List.set_cons_succ]
                          refine wpAnyH_takeD (i := 7) 51 (v := ?_) rfl rfl (by kernel_rfl) (by kernel_rfl) (by kernel_rfl) hPF (Or.inl ⟨by kernel_rfl, ?_⟩) hHeld ?_
                          rotate_left
                          · intro w hSw; obtain ⟨s0, s1, s3, sg, r0, r1, r3⟩ := hSw; go_simp; try with_reducible rfl
                          try simp only [Act.put, List.setIfInBounds_toArray, List.set_cons_zero, List.set_cons_succ]
                          refine wpAnyH_takeD (i := 8) 52 (v := ?_) rfl rfl (by kernel_rfl) (by kernel_rfl) (by kernel_rfl) hPF (Or.inl ⟨by kernel_rfl, ?_⟩) hHeld ?_
                          rotate_left
                          · intro w hSw; obtain ⟨s0, s1, s3, sg, r0, r1, r3⟩ := hSw; go_simp; try with_reducible rfl
                          try simp only [Act.put, List.setIfInBounds_toArray, List.set_cons_zero, List.set_cons_succ]
                          refine wpAnyH_takeD (i := 9) 53 (v := ?_) rfl rfl (by kernel_rfl) (by kernel_rfl) (by kernel_rfl) hPF (Or.inl ⟨by kernel_rfl, ?_⟩) hHeld ?_
                          rotate_left
                          · intro w hSw; obtain ⟨s0, s1, s3, sg, r0, r1, r3⟩ := hSw; go_simp; try with_reducible rfl
                          try simp only [Act.put, List.setIfInBounds_toArray, List.set_cons_zero, List.set_cons_succ]
                          refine wpAnyH_takeD (i := 10) 54 (v := ?_) rfl rfl (by kernel_rfl) (by kernel_rfl) (by kernel_rfl) hPF (Or.inl ⟨by kernel_rfl, ?_⟩) hHeld ?_
                          rotate_left
                          · intro w hSw; obtain ⟨s0, s1, s3, sg, r0, r1, r3⟩ := hSw; go_simp; try with_reducible rfl
                          try simp only [Act.put, List.setIfInBounds_toArray, List.set_cons_zero, List.set_cons_succ]
                          refine wpAnyH_takeD (i := 11) 55 (v := ?_) rfl rfl (by kernel_rfl) (by kernel_rfl) (by kernel_rfl) hPF (Or.inl ⟨by kernel_rfl, ?_⟩) hHeld ?_
                          rotate_left
                          · intro w hSw; obtain ⟨s0, s1, s3, sg, r0, r1, r3⟩ := hSw; go_simp; try with_reducible rfl
                          try simp only [Act.put, List.setIfInBounds_toArray, List.set_cons_zero, List.set_cons_succ]
                          refine wpAnyH_takeD (i := 12) 56 (v := ?_) rfl rfl (by kernel_rfl) (by kernel_rfl) (by kernel_rfl) hPF (Or.inl ⟨by kernel_rfl, ?_⟩) hHeld ?_
                          rotate_left
                          · intro w hSw; obtain ⟨s0, s1, s3, sg, r0, r1, r3⟩ := hSw; go_simp; try with_reducible rfl
                          try simp only [Act.put, List.setIfInBounds_toArray, List.set_cons_zero, List.set_cons_succ]
                          refine wpAnyH_takeD (i := 13) 57 (v := ?_) rfl rfl (by kernel_rfl) (by kernel_rfl) (by kernel_rfl) hPF (Or.inl ⟨by kernel_rfl, ?_⟩) hHeld ?_
                          rotate_left
                          · intro w hSw; obtain ⟨s0, s1, s3, sg, r0, r1, r3⟩ := hSw; go_simp; try with_reducible rfl
                          try simp only [Act.put, List.setIfInBounds_toArray, List.set_cons_zero, List.set_cons_succ]
                          refine wpAnyH_takeD (i := 14) 58 (v := ?_) rfl rfl (by kernel_rfl) (by kernel_rfl) (by kernel_rfl) hPF (Or.inl ⟨by kernel_rfl, ?_⟩) hHeld ?_
                          rotate_left
                          · intro w hSw; obtain ⟨s0, s1, s3, sg, r0, r1, r3⟩ := hSw; go_simp; try with_reducible rfl
                          try simp only [Act.put, List.setIfInBounds_toArray, List.set_cons_zero, List.set_cons_succ]
                          refine wpAnyH_takeD (i := 15) 59 (v := ?_) rfl rfl (by kernel_rfl) (by kernel_rfl) (by kernel_rfl) hPF (Or.inl ⟨by kernel_rfl, ?_⟩) hHeld ?_
                          rotate_left
                          · intro w hSw; obtain ⟨s0, s1, s3, sg, r0, r1, r3⟩ := hSw; go_simp; try with_reducible rfl
                          try simp only [Act.put, List.setIfInBounds_toArray, List.set_cons_zero, List.set_cons_succ]
                          refine wpAnyH_takeD (i := 16) 60 (v := ?_) rfl rfl (by kernel_rfl) (by kernel_rfl) (by kernel_rfl) hPF (Or.inl ⟨by kernel_rfl, ?_⟩) hHeld ?_
                          rotate_left
                          · intro w hSw; obtain ⟨s0, s1, s3, sg, r0, r1, r3⟩ := hSw; go_simp; try with_reducible rfl
                          try simp only [Act.put, List.setIfInBounds_toArray, List.set_cons_zero, List.set_cons_succ]
                          refine wpAnyH_takeD (i := 17) 61 (v := ?_) rfl rfl (by kernel_rfl) (by kernel_rfl) (by kernel_rfl) hPF (Or.inl ⟨by kernel_rfl, ?_⟩) hHeld ?_
                          rotate_left
                          · intro w hSw; obtain ⟨s0, s1, s3, sg, r0, r1, r3⟩ := hSw; go_simp; try with_reducible rfl
                          try simp only [Act.put, List.setIfInBounds_toArray, List.set_cons_zero, List.set_cons_succ]
                          refine wpAnyH_takeD (i := 18) 62 (v := ?_) rfl rfl (by kernel_rfl) (by kernel_rfl) (by kernel_rfl) hPF (Or.inl ⟨by kernel_rfl, ?_⟩) hHeld ?_
                          rotate_left
                          · intro w hSw; obtain ⟨s0, s1, s3, sg, r0, r1, r3⟩ := hSw; go_simp; try with_reducible rfl
                          try simp only [Act.put, List.setIfInBounds_toArray, List.set_cons_zero, List.set_cons_succ]
                          refine wpAnyH_takeD (i := 19) 63 (v := ?_) rfl rfl (by kernel_rfl) (by kernel_rfl) (by kernel_rfl) hPF (Or.inl ⟨by kernel_rfl, ?_⟩) hHeld ?_
                          rotate_left
                          · intro w hSw; obtain ⟨s0, s1, s3, sg, r0, r1, r3⟩ := hSw; go_simp; try with_reducible rfl
                          try simp only [Act.put, List.setIfInBounds_toArray, List.set_cons_zero, List.set_cons_succ]
                          refine wpAnyH_takeD (i := 20) 64 (v := ?_) rfl rfl (by kernel_rfl) (by kernel_rfl) (by kernel_rfl) hPF (Or.inl ⟨by kernel_rfl, ?_⟩) hHeld ?_
                          rotate_left
                          · intro w hSw; obtain ⟨s0, s1, s3, sg, r0, r1, r3⟩ := hSw; go_simp; try with_reducible rfl
                          try simp only [Act.put, List.setIfInBounds_toArray, List.set_cons_zero, List.set_cons_succ]
                          refine wpAnyH_takeD (i := 21) 65 (v := ?_) rfl rfl (by kernel_rfl) (by kernel_rfl) (by kernel_rfl) hPF (Or.inl ⟨by kernel_rfl, ?_⟩) hHeld ?_
                          rotate_left
                          · intro w hSw; obtain ⟨s0, s1, s3, sg, r0, r1, r3⟩ := hSw; go_simp; try with_reducible rfl
                          try simp only [Act.put, List.setIfInBounds_toArray, List.set_cons_zero, List.set_cons_succ]
                          refine wpAnyH_takeD (i := 22) 66 (v := ?_) rfl rfl (by kernel_rfl) (by kernel_rfl) (by kernel_rfl) hPF (Or.inl ⟨by kernel_rfl, ?_⟩) hHeld ?_
                          rotate_left
                          · intro w hSw; obtain ⟨s0, s1, s3, sg, r0, r1, r3⟩ := hSw; go_simp; try with_reducible rfl
                          try simp only [Act.put, List.setIfInBounds_toArray, List.set_cons_zero, List.set_cons_succ]
                          refine wpAnyH_takeD (i := 23) 67 (v := ?_) rfl rfl (by kernel_rfl) (by kernel_rfl) (by kernel_rfl) hPF (Or.inl ⟨by kernel_rfl, ?_⟩) hHeld ?_
                          rotate_left
                          · intro w hSw; obtain ⟨s0, s1, s3, sg, r0, r1, r3⟩ := hSw; go_simp; try with_reducible rfl
                          try simp only [Act.put, List.setIfInBounds_toArray, List.set_cons_zero, List.set_cons_succ]
                          refine wpAnyH_takeD (i := 24) 68 (v := ?_) rfl rfl (by kernel_rfl) (by kernel_rfl) (by kernel_rfl) hPF (Or.inl ⟨by kernel_rfl, ?_⟩) hHeld ?_
                          rotate_left
                          · intro w hSw; obtain ⟨s0, s1, s3, sg, r0, r1, r3⟩ := hSw; go_simp; try with_reducible rfl
                          try simp only [Act.put, List.setIfInBounds_toArray, List.set_cons_zero, List.set_cons_succ]
                          refine wpAnyH_takeD (i := 25) 69 (v := ?_) rfl rfl (by kernel_rfl) (by kernel_rfl) (by kernel_rfl) hPF (Or.inl ⟨by kernel_rfl, ?_⟩) hHeld ?_
                          rotate_left
                          · intro w hSw; obtain ⟨s0, s1, s3, sg, r0, r1, r3⟩ := hSw; go_simp; try with_reducible rfl
                          try simp only [Act.put, List.setIfInBounds_toArray, List.set_cons_zero, List.set_cons_succ]
                          refine wpAnyH_takeD (i := 26) 70 (v := ?_) rfl rfl (by kernel_rfl) (by kernel_rfl) (by kernel_rfl) hPF (Or.inl ⟨by kernel_rfl, ?_⟩) hHeld ?_
                          rotate_left
                          · intro w hSw; obtain ⟨s0, s1, s3, sg, r0, r1, r3⟩ := hSw; go_simp; try with_reducible rfl
                          try simp only [Act.put, List.setIfInBounds_toArray, List.set_cons_zero, List.set_cons_succ]
                          refine wpAnyH_takeD (i := 27) 71 (v := ?_) rfl rfl (by kernel_rfl) (by kernel_rfl) (by kernel_rfl) hPF (Or.inl ⟨by kernel_rfl, ?_⟩) hHeld ?_
                          rotate_left
                          · intro w hSw; obtain ⟨s0, s1, s3, sg, r0, r1, r3⟩ := hSw; go_simp; try with_reducible rfl
                          try simp only [Act.put, List.setIfInBounds_toArray, List.set_cons_zero, List.set_cons_succ]
                          refine wpAnyH_takeD (i := 28) 72 (v := ?_) rfl rfl (by kernel_rfl) (by kernel_rfl) (by kernel_rfl) hPF (Or.inl ⟨by kernel_rfl, ?_⟩) hHeld ?_
                          rotate_left
                          · intro w hSw; obtain ⟨s0, s1, s3, sg, r0, r1, r3⟩ := hSw; go_simp; try with_reducible rfl
                          try simp only [Act.put, List.setIfInBounds_toArray, List.set_cons_zero, List.set_cons_succ]
                          refine wpAnyH_takeD (i := 29) 73 (v := ?_) rfl rfl (by kernel_rfl) (by kernel_rfl) (by kernel_rfl) hPF (Or.inl ⟨by kernel_rfl, ?_⟩) hHeld ?_
                          rotate_left
                          · intro w hSw; obtain ⟨s0, s1, s3, sg, r0, r1, r3⟩ := hSw; go_simp; try with_reducible rfl
                          try simp only [Act.put, List.setIfInBounds_toArray, List.set_cons_zero, List.set_cons_succ]
                          refine wpAnyH_takeD (i := 30) 74 (v := ?_) rfl rfl (by kernel_rfl) (by kernel_rfl) (by kernel_rfl) hPF (Or.inl ⟨by kernel_rfl, ?_⟩) hHeld ?_
                          rotate_left
                          · intro w hSw; obtain ⟨s0, s1, s3, sg, r0, r1, r3⟩ := hSw; go_simp; try with_reducible rfl
                          try simp only [Act.put, List.setIfInBounds_toArray, List.set_cons_zero, List.set_cons_succ]
                          refine wpAnyH_takeD (i := 31) 75 (v := ?_) rfl rfl (by kernel_rfl) (by kernel_rfl) (by kernel_rfl) hPF (Or.inl ⟨by kernel_rfl, ?_⟩) hHeld ?_
                          rotate_left
                          · intro w hSw; obtain ⟨s0, s1, s3, sg, r0, r1, r3⟩ := hSw; go_simp; try with_reducible rfl
                          try simp only [Act.put, List.setIfInBounds_toArray, List.set_cons_zero, List.set_cons_succ]
                          refine wpAnyH_takeD (i := 32) 76 (v := ?_) rfl rfl (by kernel_rfl) (by kernel_rfl) (by kernel_rfl) hPF (Or.inl ⟨by kernel_rfl, ?_⟩) hHeld ?_
                          rotate_left
                          · intro w hSw; obtain ⟨s0, s1, s3, sg, r0, r1, r3⟩ := hSw; go_simp; try with_reducible rfl
                          try simp only [Act.put, List.setIfInBounds_toArray, List.set_cons_zero, List.set_cons_succ]
                          refine wpAnyH_takeD (i := 33) 77 (v := ?_) rfl rfl (by kernel_rfl) (by kernel_rfl) (by kernel_rfl) hPF (Or.inl ⟨by kernel_rfl, ?_⟩) hHeld ?_
                          rotate_left
                          · intro w hSw; obtain ⟨s0, s1, s3, sg, r0, r1, r3⟩ := hSw; go_simp; try with_reducible rfl
                          try simp only [Act.put, List.setIfInBounds_toArray, List.set_cons_zero, List.set_cons_succ]
                          refine wpAnyH_takeD (i := 34) 78 (v := ?_) rfl rfl (by kernel_rfl) (by kernel_rfl) (by kernel_rfl) hPF (Or.inl ⟨by kernel_rfl, ?_⟩) hHeld ?_
                          rotate_left
                          · intro w hSw; obtain ⟨s0, s1, s3, sg, r0, r1, r3⟩ := hSw; go_simp; try with_reducible rfl
                          try simp only [Act.put, List.setIfInBounds_toArray, List.set_cons_zero, List.set_cons_succ]
                          refine wpAnyH_takeD (i := 35) 79 (v := ?_) rfl rfl (by kernel_rfl) (by kernel_rfl) (by kernel_rfl) hPF (Or.inl ⟨by kernel_rfl, ?_⟩) hHeld ?_
                          rotate_left
                          · intro w hSw; obtain ⟨s0, s1, s3, sg, r0, r1, r3⟩ := hSw; go_simp; try with_reducible rfl
                          try simp only [Act.put, List.setIfInBounds_toArray, List.set_cons_zero, List.set_cons_succ]
                          refine wpAnyH_takeD (i := 36) 80 (v := ?_) rfl rfl (by kernel_rfl) (by kernel_rfl) (by kernel_rfl) hPF (Or.inl ⟨by kernel_rfl, ?_⟩) hHeld ?_
                          rotate_left
                          · intro w hSw; obtain ⟨s0, s1, s3, sg, r0, r1, r3⟩ := hSw; go_simp; try with_reducible rfl
                          try simp only [Act.put, List.setIfInBounds_toArray, List.set_cons_zero, List.set_cons_succ]
                          refine wpAnyH_takeD (i := 37) 81 (v := ?_) rfl rfl (by kernel_rfl) (by kernel_rfl) (by kernel_rfl) hPF (Or.inl ⟨by kernel_rfl, ?_⟩) hHeld ?_
                          rotate_left
                          · intro w hSw; obtain ⟨s0, s1, s3, sg, r0, r1, r3⟩ := hSw; go_simp; try with_reducible rfl
                          try simp only [Act.put, List.setIfInBounds_toArray, List.set_cons_zero, List.set_cons_succ]
                          refine wpAnyH_takeD (i := 38) 82 (v := ?_) rfl rfl (by kernel_rfl) (by kernel_rfl) (by kernel_rfl) hPF (Or.inl ⟨by kernel_rfl, ?_⟩) hHeld ?_
                          rotate_left
                          · intro w hSw; obtain ⟨s0, s1, s3, sg, r0, r1, r3⟩ := hSw; go_simp; try with_reducible rfl
                          try simp only [Act.put, List.setIfInBounds_toArray, List.set_cons_zero, List.set_cons_succ]
                          refine wpAnyH_takeD (i := 39) 83 (v := ?_) rfl rfl (by kernel_rfl) (by kernel_rfl) (by kernel_rfl) hPF (Or.inl ⟨by kernel_rfl, ?_⟩) hHeld ?_
                          rotate_left
                          · intro w hSw; obtain ⟨s0, s1, s3, sg, r0, r1, r3⟩ := hSw; go_simp; try with_reducible rfl
                          try simp only [Act.put, List.setIfInBounds_toArray, List.set_cons_zero, List.set_cons_succ]
                          refine wpAnyH_takeD (i := 40) 84 (v := ?_) rfl rfl (by kernel_rfl) (by kernel_rfl) (by kernel_rfl) hPF (Or.inl ⟨by kernel_rfl, ?_⟩) hHeld ?_
                          rotate_left
                          · intro w hSw; obtain ⟨s0, s1, s3, sg, r0, r1, r3⟩ := hSw; go_simp; try with_reducible rfl
                          try simp only [Act.put, List.setIfInBounds_toArray, List.set_cons_zero, List.set_cons_succ]
                          refine wpAnyH_takeD (i := 41) 85 (v := ?_) rfl rfl (by kernel_rfl) (by kernel_rfl) (by kernel_rfl) hPF (Or.inl ⟨by kernel_rfl, ?_⟩) hHeld ?_
                          rotate_left
                          · intro w hSw; obtain ⟨s0, s1, s3, sg, r0, r1, r3⟩ := hSw; go_simp; try with_reducible rfl
                          try simp only [Act.put, List.setIfInBounds_toArray, List.set_cons_zero, List.set_cons_succ]
                          refine wpAnyH_takeD (i := 42) 86 (v := ?_) rfl rfl (by kernel_rfl) (by kernel_rfl) (by kernel_rfl) hPF (Or.inl ⟨by kernel_rfl, ?_⟩) hHeld ?_
                          rotate_left
                          · intro w hSw; obtain ⟨s0, s1, s3, sg, r0, r1, r3⟩ := hSw; go_simp; try with_reducible rfl
                          try simp only [Act.put, List.setIfInBounds_toArray, List.set_cons_zero, List.set_cons_succ]
                          refine wpAnyH_takeD (i := 43) 87 (v := ?_) rfl rfl (by kernel_rfl) (by kernel_rfl) (by kernel_rfl) hPF (Or.inl ⟨by kernel_rfl, ?_⟩) hHeld ?_
                          rotate_left
                          · intro w hSw; obtain ⟨s0, s1, s3, sg, r0, r1, r3⟩ := hSw; go_simp; try with_reducible rfl
                          try simp only [Act.put, List.setIfInBounds_toArray, List.set_cons_zero, List.set_cons_succ]
                          refine wpAnyH_takeD (i := 44) 88 (v := ?_) rfl rfl (by kernel_rfl) (by kernel_rfl) (by kernel_rfl) hPF (Or.inl ⟨by kernel_rfl, ?_⟩) hHeld ?_
                          rotate_left
                          · intro w hSw; obtain ⟨s0, s1, s3, sg, r0, r1, r3⟩ := hSw; go_simp; try with_reducible rfl
                          try simp only [Act.put, List.setIfInBounds_toArray, List.set_cons_zero, List.set_cons_succ]
                          refine wpAnyH_takeD (i := 45) 89 (v := ?_) rfl rfl (by kernel_rfl) (by kernel_rfl) (by kernel_rfl) hPF (Or.inl ⟨by kernel_rfl, ?_⟩) hHeld ?_
                          rotate_left
                          · intro w hSw; obtain ⟨s0, s1, s3, sg, r0, r1, r3⟩ := hSw; go_simp; try with_reducible rfl
                          try simp only [Act.put, List.setIfInBounds_toArray, List.set_cons_zero, List.set_cons_succ]
                          refine wpAnyH_takeD (i := 46) 90 (v := ?_) rfl rfl (by kernel_rfl) (by kernel_rfl) (by kernel_rfl) hPF (Or.inl ⟨by kernel_rfl, ?_⟩) hHeld ?_
                          rotate_left
                          · intro w hSw; obtain ⟨s0, s1, s3, sg, r0, r1, r3⟩ := hSw; go_simp; try with_reducible rfl
                          try simp only [Act.put, List.setIfInBounds_toArray, List.set_cons_zero, List.set_cons_succ]
                          refine wpAnyH_takeD (i := 47) 91 (v := ?_) rfl rfl (by kernel_rfl) (by kernel_rfl) (by kernel_rfl) hPF (Or.inl ⟨by kernel_rfl, ?_⟩) hHeld ?_
                          rotate_left
                          · intro w hSw; obtain ⟨s0, s1, s3, sg, r0, r1, r3⟩ := hSw; go_simp; try with_reducible rfl
                          try simp only [Act.put, List.setIfInBounds_toArray, List.set_cons_zero, List.set_cons_succ]
                          refine wpAnyH_takeD (i := 48) 92 (v := ?_) rfl rfl (by kernel_rfl) (by kernel_rfl) (by kernel_rfl) hPF (Or.inl ⟨by kernel_rfl, ?_⟩) hHeld ?_
                          rotate_left
                          · intro w hSw; obtain ⟨s0, s1, s3, sg, r0, r1, r3⟩ := hSw; go_simp; try with_reducible rfl
                          try simp only [Act.put, List.setIfInBounds_toArray, List.set_cons_zero, List.set_cons_succ]
                          refine wpAnyH_takeD (i := 49) 93 (v := ?_) rfl rfl (by kernel_rfl) (by kernel_rfl) (by kernel_rfl) hPF (Or.inl ⟨by kernel_rfl, ?_⟩) hHeld ?_
                          rotate_left
                          · intro w hSw; obtain ⟨s0, s1, s3, sg, r0, r1, r3⟩ := hSw; go_simp; try with_reducible rfl
                          try simp only [Act.put, List.setIfInBounds_toArray, List.set_cons_zero, List.set_cons_succ]
                          refine wpAnyH_takeD (i := 50) 94 (v := ?_) rfl rfl (by kernel_rfl) (by kernel_rfl) (by kernel_rfl) hPF (Or.inl ⟨by kernel_rfl, ?_⟩) hHeld ?_
                          rotate_left
                          · intro w hSw; obtain ⟨s0, s1, s3, sg, r0, r1, r3⟩ := hSw; go_simp; try with_reducible rfl
                          try simp only [Act.put, List.setIfInBounds_toArray, List.set_cons_zero, List.set_cons_succ]
                          refine wpAnyH_takeD (i := 51) 95 (v := ?_) rfl rfl (by kernel_rfl) (by kernel_rfl) (by kernel_rfl) hPF (Or.inl ⟨by kernel_rfl, ?_⟩) hHeld ?_
                          rotate_left
                          · intro w hSw; obtain ⟨s0, s1, s3, sg, r0, r1, r3⟩ := hSw; go_simp; try with_reducible rfl
                          try simp only [Act.put, List.setIfInBounds_toArray, List.set_cons_zero, List.set_cons_succ]
                          refine wpAnyH_takeD (i := 52) 96 (v := ?_) rfl rfl (by kernel_rfl) (by kernel_rfl) (by kernel_rfl) hPF (Or.inl ⟨by kernel_rfl, ?_⟩) hHeld ?_
                          rotate_left
                          · intro w hSw; obtain ⟨s0, s1, s3, sg, r0, r1, r3⟩ := hSw; go_simp; try with_reducible rfl
                          try simp only [Act.put, List.setIfInBounds_toArray, List.set_cons_zero, List.set_cons_succ]
                          refine wpAnyH_takeD (i := 53) 97 (v := ?_) rfl rfl (by kernel_rfl) (by kernel_rfl) (by kernel_rfl) hPF (Or.inl ⟨by kernel_rfl, ?_⟩) hHeld ?_
                          rotate_left
                          · intro w hSw; obtain ⟨s0, s1, s3, sg, r0, r1, r3⟩ := hSw; go_simp; try with_reducible rfl
                          try simp only [Act.put, List.setIfInBounds_toArray, List.set_cons_zero, List.set_cons_succ]
                          refine wpAnyH_takeD (i := 54) 98 (v := ?_) rfl rfl (by kernel_rfl) (by kernel_rfl) (by kernel_rfl) hPF (Or.inl ⟨by kernel_rfl, ?_⟩) hHeld ?_
                          rotate_left
                          · intro w hSw; obtain ⟨s0, s1, s3, sg, r0, r1, r3⟩ := hSw; go_simp; try with_reducible rfl
                          try simp only [Act.put, List.setIfInBounds_toArray, List.set_cons_zero, List.set_cons_succ]
                          refine wpAnyH_takeD (i := 55) 99 (v := ?_) rfl rfl (by kernel_rfl) (by kernel_rfl) (by kernel_rfl) hPF (Or.inl ⟨by kernel_rfl, ?_⟩) hHeld ?_
                          rotate_left
                          · intro w hSw; obtain ⟨s0, s1, s3, sg, r0, r1, r3⟩ := hSw; go_simp; try with_reducible rfl
                          try simp only [Act.put, List.setIfInBounds_toArray, List.set_cons_zero, List.set_cons_succ]
                          refine wpAnyH_takeD (i := 56) 100 (v := ?_) rfl rfl (by kernel_rfl) (by kernel_rfl) (by kernel_rfl) hPF (Or.inl ⟨by kernel_rfl, ?_⟩) hHeld ?_
                          rotate_left
                          · intro w hSw; obtain ⟨s0, s1, s3, sg, r0, r1, r3⟩ := hSw; go_simp; try with_reducible rfl
                          try simp only [Act.put, List.setIfInBounds_toArray, List.set_cons_zero, List.set_cons_succ]
                          refine wpAnyH_takeD (i := 57) 101 (v := ?_) rfl rfl (by kernel_rfl) (by kernel_rfl) (by kernel_rfl) hPF (Or.inl ⟨by kernel_rfl, ?_⟩) hHeld ?_
                          rotate_left
                          · intro w hSw; obtain ⟨s0, s1, s3, sg, r0, r1, r3⟩ := hSw; go_simp; try with_reducible rfl
                          try simp only [Act.put, List.setIfInBounds_toArray, List.set_cons_zero, List.set_cons_succ]
                          refine wpAnyH_takeD (i := 58) 102 (v := ?_) rfl rfl (by kernel_rfl) (by kernel_rfl) (by kernel_rfl) hPF (Or.inl ⟨by kernel_rfl, ?_⟩) hHeld ?_
                          rotate_left
                          · intro w hSw; obtain ⟨s0, s1, s3, sg, r0, r1, r3⟩ := hSw; go_simp; try with_reducible rfl
                          try simp only [Act.put, List.setIfInBounds_toArray, List.set_cons_zero, List.set_cons_succ]
                          refine wpAnyH_takeD (i := 59) 103 (v := ?_) rfl rfl (by kernel_rfl) (by kernel_rfl) (by kernel_rfl) hPF (Or.inl ⟨by kernel_rfl, ?_⟩) hHeld ?_
                          rotate_left
                          · intro w hSw; obtain ⟨s0, s1, s3, sg, r0, r1, r3⟩ := hSw; go_simp; try with_reducible rfl
                          try simp only [Act.put, List.setIfInBounds_toArray, List.set_cons_zero, List.set_cons_succ]
                          refine wpAnyH_takeD (i := 60) 104 (v := ?_) rfl rfl (by kernel_rfl) (by kernel_rfl) (by kernel_rfl) hPF (Or.inl ⟨by kernel_rfl, ?_⟩) hHeld ?_
                          rotate_left
                          · intro w hSw; obtain ⟨s0, s1, s3, sg, r0, r1, r3⟩ := hSw; go_simp; try with_reducible rfl
                          try simp only [Act.put, List.setIfInBounds_toArray, List.set_cons_zero, List.set_cons_succ]
                          refine wpAnyH_takeD (i := 61) 105 (v := ?_) rfl rfl (by kernel_rfl) (by kernel_rfl) (by kernel_rfl) hPF (Or.inl ⟨by kernel_rfl, ?_⟩) hHeld ?_
                          rotate_left
                          · intro w hSw; obtain ⟨s0, s1, s3, sg, r0, r1, r3⟩ := hSw; go_simp; try with_reducible rfl
                          try simp only [Act.put, List.setIfInBounds_toArray, List.set_cons_zero, List.set_cons_succ]
                          refine wpAnyH_takeD (i := 62) 106 (v := ?_) rfl rfl (by kernel_rfl) (by kernel_rfl) (by kernel_rfl) hPF (Or.inl ⟨by kernel_rfl, ?_⟩) hHeld ?_
                          rotate_left
                          · intro w hSw; obtain ⟨s0, s1, s3, sg, r0, r1, r3⟩ := hSw; go_simp; try with_reducible rfl
                          try simp only [Act.put, List.setIfInBounds_toArray, List.set_cons_zero, List.set_cons_succ]
                          refine wpAnyH_takeD (i := 63) 107 (v := ?_) rfl rfl (by kernel_rfl) (by kernel_rfl) (by kernel_rfl) hPF (Or.inl ⟨by kernel_rfl, ?_⟩) hHeld ?_
                          rotate_left
                          · intro w hSw; obtain ⟨s0, s1, s3, sg, r0, r1, r3⟩ := hSw; go_simp; try with_reducible rfl
                          try simp only [Act.put, List.setIfInBounds_toArray, List.set_cons_zero, List.set_cons_succ]
                          refine wpAnyH_takeD (i := 64) 108 (v := ?_) rfl rfl (by kernel_rfl) (by kernel_rfl) (by kernel_rfl) hPF (Or.inl ⟨by kernel_rfl, ?_⟩) hHeld ?_
                          rotate_left
                          · intro w hSw; obtain ⟨s0, s1, s3, sg, r0, r1, r3⟩ := hSw; go_simp; try with_reducible rfl
                          try simp only [Act.put, List.setIfInBounds_toArray, List.set_cons_zero, List.set_cons_succ]
                          refine wpAnyH_takeD (i := 65) 109 (v := ?_) rfl rfl (by kernel_rfl) (by kernel_rfl) (by kernel_rfl) hPF (Or.inl ⟨by kernel_rfl, ?_⟩) hHeld ?_
                          rotate_left
                          · intro w hSw; obtain ⟨s0, s1, s3, sg, r0, r1, r3⟩ := hSw; go_simp; try with_reducible rfl
                          try simp only [Act.put, List.setIfInBounds_toArray, List.set_cons_zero, List.set_cons_succ]
                          refine wpAnyH_takeD (i := 66) 110 (v := ?_) rfl rfl (by kernel_rfl) (by kernel_rfl) (by kernel_rfl) hPF (Or.inl ⟨by kernel_rfl, ?_⟩) hHeld ?_
                          rotate_left
                          · intro w hSw; obtain ⟨s0, s1, s3, sg, r0, r1, r3⟩ := hSw; go_simp; try with_reducible rfl
                          try simp only [Act.put, List.setIfInBounds_toArray, List.set_cons_zero, List.set_cons_succ]
                          refine wpAnyH_done (by kernel_rfl) ?_ _
                          go_wp2_with fail
                          go_meet
                          exact ⟨by rw [HE.out], Lib.hid ⟨1, rfl⟩⟩
                        · have c4b : (qv == yv) = false := by simpa using c4
                          have HE := Lib.hid (show decide ((i : Int) < 0 ∨ ltS ⟨qv, qm, qp, qs, false⟩ ⟨yv, ym, yp, ys, yst⟩) = false from decide_eq_false (by rintro (c | c); exact i2 c; unfold ltS at c; simp only at c; omega))
                          clear c2 c4
                          have hSd : W.drew.cell? ⟨gb, 0, none⟩ = some (.int .i64 qv) ∧ W.drew.cell? ⟨gb, 1, none⟩ = some (.int .i64 qm) ∧ W.drew.cell? ⟨gb, 3, none⟩ = some (.int .i64 qs) ∧ W.drew.cell? ⟨g, 0, none⟩ = some (.slice (some ⟨b, off, none⟩) n c) ∧ W.drew.cell? ⟨b, off + i * 5, none⟩ = some (.int .i64 yv) ∧ W.drew.cell? ⟨b, off + i * 5 + 1, none⟩ = some (.int .i64 ym) ∧ W.drew.cell? ⟨b, off + i * 5 + 3, none⟩ = some (.int .i64 ys) := ⟨x0, x1, x3, g00, y0, y1, y3⟩
                          clear x0 x1 x3 g00 y0 y1 y3
                          refine wp_region_heldD (S := fun w' => w'.cell? ⟨gb, 0, none⟩ = some (.int .i64 qv) ∧ w'.cell? ⟨gb, 1, none⟩ = some (.int .i64 qm) ∧ w'.cell? ⟨gb, 3, none⟩ = some (.int .i64 qs) ∧ w'.cell? ⟨g, 0, none⟩ = some (.slice (some ⟨b, off, none⟩) n c) ∧ w'.cell? ⟨b, off + i * 5, none⟩ = some (.int .i64 yv) ∧ w'.cell? ⟨b, off + i * 5 + 1, none⟩ = some (.int .i64 ym) ∧ w'.cell? ⟨b, off + i * 5 + 3, none⟩ = some (.int .i64 ys)) (by kernel_rfl) (fun _ _ _ _ _ h => h) hSd (fun hPF hHeld => ?_)
                          refine wpAnyH_takeD (i := 0) 44 (v := ?_) rfl rfl (by kernel_rfl) (by kernel_rfl) (by kernel_rfl) hPF (Or.inl ⟨by kernel_rfl, ?_⟩) hHeld ?_
                          rotate_left
                          · intro w hSw; obtain ⟨s0, s1, s3, sg, r0, r1, r3⟩ := hSw; go_simp; try with_reducible rfl
                          try simp only [Act.put, List.setIfInBounds_toArray, List.set_cons_zero, List.set_cons_succ]
                          refine wpAnyH_takeD (i := 1) 45 (v := ?_) rfl rfl (by kernel_rfl) (by kernel_rfl) (by kernel_rfl) hPF (Or.inl ⟨by kernel_rfl, ?_⟩) hHeld ?_
                          rotate_left
                          · intro w hSw; obtain ⟨s0, s1, s3, sg, r0, r1, r3⟩ := hSw; go_simp; try with_reducible rfl
                          try simp only [Act.put, List.setIfInBounds_toArray, List.set_cons_zero, List.set_cons_succ]
                          refine wpAnyH_takeD (i := 2) 46 (v := ?_) rfl rfl (by kernel_rfl) (by kernel_rfl) (by kernel_rfl) hPF (Or.inl ⟨by kernel_rfl, ?_⟩) hHeld ?_
                          rotate_left
                          · intro w hSw; obtain ⟨s0, s1, s3, sg, r0, r1, r3⟩ := hSw; go_simp; try with_reducible rfl
                          try simp only [Act.put, List.setIfInBounds_toArray, List.set_cons_zero, List.set_cons_succ]
                          refine wpAnyH_takeD (i := 3) 47 (v := ?_) rfl rfl (by kernel_rfl) (by kernel_rfl) (by kernel_rfl) hPF (Or.inl ⟨by kernel_rfl, ?_⟩) hHeld ?_
                          rotate_left
                          · intro w hSw; obtain ⟨s0, s1, s3, sg, r0, r1, r3⟩ := hSw; go_simp; try with_reducible rfl
                          try simp only [Act.put, List.setIfInBounds_toArray, List.set_cons_zero, List.set_cons_succ]
                          refine wpAnyH_takeD (i := 4) 48 (v := ?_) rfl rfl (by kernel_rfl) (by kernel_rfl) (by kernel_rfl) hPF (Or.inl ⟨by kernel_rfl, ?_⟩) hHeld ?_
                          rotate_left
                          · intro w hSw; obtain ⟨s0, s1, s3, sg, r0, r1, r3⟩ := hSw; go_simp; try with_reducible rfl
                          try simp only [Act.put, List.setIfInBounds_toArray, List.set_cons_zero, List.set_cons_succ]
                          refine wpAnyH_takeD (i := 5) 49 (v := ?_) rfl rfl (by kernel_rfl) (by kernel_rfl) (by kernel_rfl) hPF (Or.inl ⟨by kernel_rfl, ?_⟩) hHeld ?_
                          rotate_left
                          · intro w hSw; obtain ⟨s0, s1, s3, sg, r0, r1, r3⟩ := hSw; go_simp; try with_reducible rfl
                          try simp only [Act.put, List.setIfInBounds_toArray, List.set_cons_zero, List.set_cons_succ]
                          refine wpAnyH_takeD (i := 6) 50 (v := ?_) rfl rfl (by kernel_rfl) (by kernel_rfl) (by kernel_rfl) hPF (Or.inl ⟨by kernel_rfl, ?_⟩) hHeld ?_
                          rotate_left
                          · intro w hSw; obtain ⟨s0, s1, s3, sg, r0, r1, r3⟩ := hSw; go_simp; try with_reducible rfl
                          try simp only [Act.put, List.setIfInBounds_toArray, List.set_cons_zero, List.set_cons_succ]
                          refine wpAnyH_takeD (i := 7) 51 (v := ?_) rfl rfl (by kernel_rfl) (by kernel_rfl) (by kernel_rfl) hPF (Or.inl ⟨by kernel_rfl, ?_⟩) hHeld ?_
                          rotate_left
                          · intro w hSw; obtain ⟨s0, s1, s3, sg, r0, r1, r3⟩ := hSw; go_simp; try with_reducible rfl
                          try simp only [Act.put, List.setIfInBounds_toArray, List.set_cons_zero, List.set_cons_succ]
                          refine wpAnyH_takeD (i := 8) 52 (v := ?_) rfl rfl (by kernel_rfl) (by kernel_rfl) (by kernel_rfl) hPF (Or.inl ⟨by kernel_rfl, ?_⟩) hHeld ?_
                          rotate_left
                          · intro w hSw; obtain ⟨s0, s1, s3, sg, r0, r1, r3⟩ := hSw; go_simp; try with_reducible rfl
                          try simp only [Act.put, List.setIfInBounds_toArray, List.set_cons_zero, List.set_cons_succ]
                          refine wpAnyH_takeD (i := 9) 53 (v := ?_) rfl rfl (by kernel_rfl) (by kernel_rfl) (by kernel_rfl) hPF (Or.inl ⟨by kernel_rfl, ?_⟩) hHeld ?_
                          rotate_left
                          · intro w hSw; obtain ⟨s0, s1, s3, sg, r0, r1, r3⟩ := hSw; go_simp; try with_reducible rfl
                          try simp only [Act.put, List.setIfInBounds_toArray, List.set_cons_zero, List.set_cons_succ]
                          refine wpAnyH_takeD (i := 10) 54 (v := ?_) rfl rfl (by kernel_rfl) (by kernel_rfl) (by kernel_rfl) hPF (Or.inl ⟨by kernel_rfl, ?_⟩) hHeld ?_
                          rotate_left
                          · intro w hSw; obtain ⟨s0, s1, s3, sg, r0, r1, r3⟩ := hSw; go_simp; try with_reducible rfl
                          try simp only [Act.put, List.setIfInBounds_toArray, List.set_cons_zero, List.set_cons_succ]
                          refine wpAnyH_takeD (i := 11) 55 (v := ?_) rfl rfl (by kernel_rfl) (by kernel_rfl) (by kernel_rfl) hPF (Or.inl ⟨by kernel_rfl, ?_⟩) hHeld ?_
                          rotate_left
                          · intro w hSw; obtain ⟨s0, s1, s3, sg, r0, r1, r3⟩ := hSw; go_simp; try with_reducible rfl
                          try simp only [Act.put, List.setIfInBounds_toArray, List.set_cons_zero, List.set_cons_succ]
                          refine wpAnyH_takeD (i := 12) 56 (v := ?_) rfl rfl (by kernel_rfl) (by kernel_rfl) (by kernel_rfl) hPF (Or.inl ⟨by kernel_rfl, ?_⟩) hHeld ?_
                          rotate_left
                          · intro w hSw; obtain ⟨s0, s1, s3, sg, r0, r1, r3⟩ := hSw; go_simp; try with_reducible rfl
                          try simp only [Act.put, List.setIfInBounds_toArray, List.set_cons_zero, List.set_cons_succ]
                          refine wpAnyH_takeD (i := 13) 57 (v := ?_) rfl rfl (by kernel_rfl) (by kernel_rfl) (by kernel_rfl) hPF (Or.inl ⟨by kernel_rfl, ?_⟩) hHeld ?_
                          rotate_left
                          · intro w hSw; obtain ⟨s0, s1, s3, sg, r0, r1, r3⟩ := hSw; go_simp; try with_reducible rfl
                          try simp only [Act.put, List.setIfInBounds_toArray, List.set_cons_zero, List.set_cons_succ]
                          refine wpAnyH_takeD (i := 14) 58 (v := ?_) rfl rfl (by kernel_rfl) (by kernel_rfl) (by kernel_rfl) hPF (Or.inl ⟨by kernel_rfl, ?_⟩) hHeld ?_
                          rotate_left
                          · intro w hSw; obtain ⟨s0, s1, s3, sg, r0, r1, r3⟩ := hSw; go_simp; try with_reducible rfl
                          try simp only [Act.put, List.setIfInBounds_toArray, List.set_cons_zero, List.set_cons_succ]
                          refine wpAnyH_takeD (i := 15) 59 (v := ?_) rfl rfl (by kernel_rfl) (by kernel_rfl) (by kernel_rfl) hPF (Or.inl ⟨by kernel_rfl, ?_⟩) hHeld ?_
                          rotate_left
                          · intro w hSw; obtain ⟨s0, s1, s3, sg, r0, r1, r3⟩ := hSw; go_simp; try with_reducible rfl
                          try simp only [Act.put, List.setIfInBounds_toArray, List.set_cons_zero, List.set_cons_succ]
                          refine wpAnyH_takeD (i := 16) 60 (v := ?_) rfl rfl (by kernel_rfl) (by kernel_rfl) (by kernel_rfl) hPF (Or.inl ⟨by kernel_rfl, ?_⟩) hHeld ?_
                          rotate_left
                          · intro w hSw; obtain ⟨s0, s1, s3, sg, r0, r1, r3⟩ := hSw; go_simp; try with_reducible rfl
                          try simp only [Act.put, List.setIfInBounds_toArray, List.set_cons_zero, List.set_cons_succ]
                          refine wpAnyH_takeD (i := 17) 61 (v := ?_) rfl rfl (by kernel_rfl) (by kernel_rfl) (by kernel_rfl) hPF (Or.inl ⟨by kernel_rfl, ?_⟩) hHeld ?_
                          rotate_left
                          · intro w hSw; obtain ⟨s0, s1, s3, sg, r0, r1, r3⟩ := hSw; go_simp; try with_reducible rfl
                          try simp only [Act.put, List.setIfInBounds_toArray, List.set_cons_zero, List.set_cons_succ]
                          refine wpAnyH_takeD (i := 18) 62 (v := ?_) rfl rfl (by kernel_rfl) (by kernel_rfl) (by kernel_rfl) hPF (Or.inl ⟨by kernel_rfl, ?_⟩) hHeld ?_
                          rotate_left
                          · intro w hSw; obtain ⟨s0, s1, s3, sg, r0, r1, r3⟩ := hSw; go_simp; try with_reducible rfl
                          try simp only [Act.put, List.setIfInBounds_toArray, List.set_cons_zero, List.set_cons_succ]
                          refine wpAnyH_takeD (i := 19) 63 (v := ?_) rfl rfl (by kernel_rfl) (by kernel_rfl) (by kernel_rfl) hPF (Or.inl ⟨by kernel_rfl, ?_⟩) hHeld ?_
                          rotate_left
                          · intro w hSw; obtain ⟨s0, s1, s3, sg, r0, r1, r3⟩ := hSw; go_simp; try with_reducible rfl
                          try simp only [Act.put, List.setIfInBounds_toArray, List.set_cons_zero, List.set_cons_succ]
                          refine wpAnyH_takeD (i := 20) 64 (v := ?_) rfl rfl (by kernel_rfl) (by kernel_rfl) (by kernel_rfl) hPF (Or.inl ⟨by kernel_rfl, ?_⟩) hHeld ?_
                          rotate_left
                          · intro w hSw; obtain ⟨s0, s1, s3, sg, r0, r1, r3⟩ := hSw; go_simp; try with_reducible rfl
                          try simp only [Act.put, List.setIfInBounds_toArray, List.set_cons_zero, List.set_cons_succ]
                          refine wpAnyH_takeD (i := 21) 65 (v := ?_) rfl rfl (by kernel_rfl) (by kernel_rfl) (by kernel_rfl) hPF (Or.inl ⟨by kernel_rfl, ?_⟩) hHeld ?_
                          rotate_left
                          · intro w hSw; obtain ⟨s0, s1, s3, sg, r0, r1, r3⟩ := hSw; go_simp; try with_reducible rfl
                          try simp only [Act.put, List.setIfInBounds_toArray, List.set_cons_zero, List.set_cons_succ]
                          refine wpAnyH_takeD (i := 22) 66 (v := ?_) rfl rfl (by kernel_rfl) (by kernel_rfl) (by kernel_rfl) hPF (Or.inl ⟨by kernel_rfl, ?_⟩) hHeld ?_
                          rotate_left
                          · intro w hSw; obtain ⟨s0, s1, s3, sg, r0, r1, r3⟩ := hSw; go_simp; try with_reducible rfl
                          try simp only [Act.put, List.setIfInBounds_toArray, List.set_cons_zero, List.set_cons_succ]
                          refine wpAnyH_takeD (i := 23) 67 (v := ?_) rfl rfl (by kernel_rfl) (by kernel_rfl) (by kernel_rfl) hPF (Or.inl ⟨by kernel_rfl, ?_⟩) hHeld ?_
                          rotate_left
                          · intro w hSw; obtain ⟨s0, s1, s3, sg, r0, r1, r3⟩ := hSw; go_simp; try with_reducible rfl
                          try simp only [Act.put, List.setIfInBounds_toArray, List.set_cons_zero, List.set_cons_succ]
                          refine wpAnyH_takeD (i := 24) 68 (v := ?_) rfl rfl (by kernel_rfl) (by kernel_rfl) (by kernel_rfl) hPF (Or.inl ⟨by kernel_rfl, ?_⟩) hHeld ?_
                          rotate_left
                          · intro w hSw; obtain ⟨s0, s1, s3, sg, r0, r1, r3⟩ := hSw; go_simp; try with_reducible rfl
                          try simp only [Act.put, List.setIfInBounds_toArray, List.set_cons_zero, List.set_cons_succ]
                          refine wpAnyH_takeD (i := 25) 69 (v := ?_) rfl rfl (by kernel_rfl) (by kernel_rfl) (by kernel_rfl) hPF (Or.inl ⟨by kernel_rfl, ?_⟩) hHeld ?_
                          rotate_left
                          · intro w hSw; obtain ⟨s0, s1, s3, sg, r0, r1, r3⟩ := hSw; go_simp; try with_reducible rfl
                          try simp only [Act.put, List.setIfInBounds_toArray, List.set_cons_zero, List.set_cons_succ]
                          refine wpAnyH_takeD (i := 26) 70 (v := ?_) rfl rfl (by kernel_rfl) (by kernel_rfl) (by kernel_rfl) hPF (Or.inl ⟨by kernel_rfl, ?_⟩) hHeld ?_
                          rotate_left
                          · intro w hSw; obtain ⟨s0, s1, s3, sg, r0, r1, r3⟩ := hSw; go_simp; try with_reducible rfl
                          try simp only [Act.put, List.setIfInBounds_toArray, List.set_cons_zero, List.set_cons_succ]
                          refine wpAnyH_takeD (i := 27) 71 (v := ?_) rfl rfl (by kernel_rfl) (by kernel_rfl) (by kernel_rfl) hPF (Or.inl ⟨by kernel_rfl, ?_⟩) hHeld ?_
                          rotate_left
                          · intro w hSw; obtain ⟨s0, s1, s3, sg, r0, r1, r3⟩ := hSw; go_simp; try with_reducible rfl
                          try simp only [Act.put, List.setIfInBounds_toArray, List.set_cons_zero, List.set_cons_succ]
                          refine wpAnyH_takeD (i := 28) 72 (v := ?_) rfl rfl (by kernel_rfl) (by kernel_rfl) (by kernel_rfl) hPF (Or.inl ⟨by kernel_rfl, ?_⟩) hHeld ?_
                          rotate_left
                          · intro w hSw; obtain ⟨s0, s1, s3, sg, r0, r1, r3⟩ := hSw; go_simp; try with_reducible rfl
                          try simp only [Act.put, List.setIfInBounds_toArray, List.set_cons_zero, List.set_cons_succ]
                          refine wpAnyH_takeD (i := 29) 73 (v := ?_) rfl rfl (by kernel_rfl) (by kernel_rfl) (by kernel_rfl) hPF (Or.inl ⟨by kernel_rfl, ?_⟩) hHeld ?_
                          rotate_left
                          · intro w hSw; obtain ⟨s0, s1, s3, sg, r0, r1, r3⟩ := hSw; go_simp; try with_reducible rfl
                          try simp only [Act.put, List.setIfInBounds_toArray, List.set_cons_zero, List.set_cons_succ]
                          refine wpAnyH_takeD (i := 30) 74 (v := ?_) rfl rfl (by kernel_rfl) (by kernel_rfl) (by kernel_rfl) hPF (Or.inl ⟨by kernel_rfl, ?_⟩) hHeld ?_
                          rotate_left
                          · intro w hSw; obtain ⟨s0, s1, s3, sg, r0, r1, r3⟩ := hSw; go_simp; try with_reducible rfl
                          try simp only [Act.put, List.setIfInBounds_toArray, List.set_cons_zero, List.set_cons_succ]
                          refine wpAnyH_takeD (i := 31) 75 (v := ?_) rfl rfl (by kernel_rfl) (by kernel_rfl) (by kernel_rfl) hPF (Or.inl ⟨by kernel_rfl, ?_⟩) hHeld ?_
                          rotate_left
                          · intro w hSw; obtain ⟨s0, s1, s3, sg, r0, r1, r3⟩ := hSw; go_simp; try with_reducible rfl
                          try simp only [Act.put, List.setIfInBounds_toArray, List.set_cons_zero, List.set_cons_succ]
                          refine wpAnyH_takeD (i := 32) 76 (v := ?_) rfl rfl (by kernel_rfl) (by kernel_rfl) (by kernel_rfl) hPF (Or.inl ⟨by kernel_rfl, ?_⟩) hHeld ?_
                          rotate_left
                          · intro w hSw; obtain ⟨s0, s1, s3, sg, r0, r1, r3⟩ := hSw; go_simp; try with_reducible rfl
                          try simp only [Act.put, List.setIfInBounds_toArray, List.set_cons_zero, List.set_cons_succ]
                          refine wpAnyH_takeD (i := 33) 77 (v := ?_) rfl rfl (by kernel_rfl) (by kernel_rfl) (by kernel_rfl) hPF (Or.inl ⟨by kernel_rfl, ?_⟩) hHeld ?_
                          rotate_left
                          · intro w hSw; obtain ⟨s0, s1, s3, sg, r0, r1, r3⟩ := hSw; go_simp; try with_reducible rfl
                          try simp only [Act.put, List.setIfInBounds_toArray, List.set_cons_zero, List.set_cons_succ]
                          refine wpAnyH_takeD (i := 34) 78 (v := ?_) rfl rfl (by kernel_rfl) (by kernel_rfl) (by kernel_rfl) hPF (Or.inl ⟨by kernel_rfl, ?_⟩) hHeld ?_
                          rotate_left
                          · intro w hSw; obtain ⟨s0, s1, s3, sg, r0, r1, r3⟩ := hSw; go_simp; try with_reducible rfl
                          try simp only [Act.put, List.setIfInBounds_toArray, List.set_cons_zero, List.set_cons_succ]
                          refine wpAnyH_takeD (i := 35) 79 (v := ?_) rfl rfl (by kernel_rfl) (by kernel_rfl) (by kernel_rfl) hPF (Or.inl ⟨by kernel_rfl, ?_⟩) hHeld ?_
                          rotate_left
                          · intro w hSw; obtain ⟨s0, s1, s3, sg, r0, r1, r3⟩ := hSw; go_simp; try with_reducible rfl
                          try simp only [Act.put, List.setIfInBounds_toArray, List.set_cons_zero, List.set_cons_succ]
                          refine wpAnyH_takeD (i := 36) 80 (v := ?_) rfl rfl (by kernel_rfl) (by kernel_rfl) (by kernel_rfl) hPF (Or.inl ⟨by kernel_rfl, ?_⟩) hHeld ?_
                          rotate_left
                          · intro w hSw; obtain ⟨s0, s1, s3, sg, r0, r1, r3⟩ := hSw; go_simp; try with_reducible rfl
                          try simp only [Act.put, List.setIfInBounds_toArray, List.set_cons_zero, List.set_cons_succ]
                          refine wpAnyH_takeD (i := 37) 81 (v := ?_) rfl rfl (by kernel_rfl) (by kernel_rfl) (by kernel_rfl) hPF (Or.inl ⟨by kernel_rfl, ?_⟩) hHeld ?_
                          rotate_left
                          · intro w hSw; obtain ⟨s0, s1, s3, sg, r0, r1, r3⟩ := hSw; go_simp; try with_reducible rfl
                          try simp only [Act.put, List.setIfInBounds_toArray, List.set_cons_zero, List.set_cons_succ]
                          refine wpAnyH_takeD (i := 38) 82 (v := ?_) rfl rfl (by kernel_rfl) (by kernel_rfl) (by kernel_rfl) hPF (Or.inl ⟨by kernel_rfl, ?_⟩) hHeld ?_
                          rotate_left
                          · intro w hSw; obtain ⟨s0, s1, s3, sg, r0, r1, r3⟩ := hSw; go_simp; try with_reducible rfl
                          try simp only [Act.put, List.setIfInBounds_toArray, List.set_cons_zero, List.set_cons_succ]
                          refine wpAnyH_takeD (i := 39) 83 (v := ?_) rfl rfl (by kernel_rfl) (by kernel_rfl) (by kernel_rfl) hPF (Or.inl ⟨by kernel_rfl, ?_⟩) hHeld ?_
                          rotate_left
                          · intro w hSw; obtain ⟨s0, s1, s3, sg, r0, r1, r3⟩ := hSw; go_simp; try with_reducible rfl
                          try simp only [Act.put, List.setIfInBounds_toArray, List.set_cons_zero, List.set_cons_succ]
                          refine wpAnyH_takeD (i := 40) 84 (v := ?_) rfl rfl (by kernel_rfl) (by kernel_rfl) (by kernel_rfl) hPF (Or.inl ⟨by kernel_rfl, ?_⟩) hHeld ?_
                          rotate_left
                          · intro w hSw; obtain ⟨s0, s1, s3, sg, r0, r1, r3⟩ := hSw; go_simp; try with_reducible rfl
                          try simp only [Act.put, List.setIfInBounds_toArray, List.set_cons_zero, List.set_cons_succ]
                          refine wpAnyH_takeD (i := 41) 85 (v := ?_) rfl rfl (by kernel_rfl) (by kernel_rfl) (by kernel_rfl) hPF (Or.inl ⟨by kernel_rfl, ?_⟩) hHeld ?_
                          rotate_left
                          · intro w hSw; obtain ⟨s0, s1, s3, sg, r0, r1, r3⟩ := hSw; go_simp; try with_reducible rfl
                          try simp only [Act.put, List.setIfInBounds_toArray, List.set_cons_zero, List.set_cons_succ]
                          refine wpAnyH_takeD (i := 42) 86 (v := ?_) rfl rfl (by kernel_rfl) (by kernel_rfl) (by kernel_rfl) hPF (Or.inl ⟨by kernel_rfl, ?_⟩) hHeld ?_
                          rotate_left
                          · intro w hSw; obtain ⟨s0, s1, s3, sg, r0, r1, r3⟩ := hSw; go_simp; try with_reducible rfl
                          try simp only [Act.put, List.setIfInBounds_toArray, List.set_cons_zero, List.set_cons_succ]
                          refine wpAnyH_takeD (i := 43) 87 (v := ?_) rfl rfl (by kernel_rfl) (by kernel_rfl) (by kernel_rfl) hPF (Or.inl ⟨by kernel_rfl, ?_⟩) hHeld ?_
                          rotate_left
                          · intro w hSw; obtain ⟨s0, s1, s3, sg, r0, r1, r3⟩ := hSw; go_simp; try with_reducible rfl
                          try simp only [Act.put, List.setIfInBounds_toArray, List.set_cons_zero, List.set_cons_succ]
                          refine wpAnyH_takeD (i := 44) 88 (v := ?_) rfl rfl (by kernel_rfl) (by kernel_rfl) (by kernel_rfl) hPF (Or.inl ⟨by kernel_rfl, ?_⟩) hHeld ?_
                          rotate_left
                          · intro w hSw; obtain ⟨s0, s1, s3, sg, r0, r1, r3⟩ := hSw; go_simp; try with_reducible rfl
                          try simp only [Act.put, List.setIfInBounds_toArray, List.set_cons_zero, List.set_cons_succ]
                          refine wpAnyH_takeD (i := 45) 89 (v := ?_) rfl rfl (by kernel_rfl) (by kernel_rfl) (by kernel_rfl) hPF (Or.inl ⟨by kernel_rfl, ?_⟩) hHeld ?_
                          rotate_left
                          · intro w hSw; obtain ⟨s0, s1, s3, sg, r0, r1, r3⟩ := hSw; go_simp; try with_reducible rfl
                          try simp only [Act.put, List.setIfInBounds_toArray, List.set_cons_zero, List.set_cons_succ]
                          refine wpAnyH_takeD (i := 46) 90 (v := ?_) rfl rfl (by kernel_rfl) (by kernel_rfl) (by kernel_rfl) hPF (Or.inl ⟨by kernel_rfl, ?_⟩) hHeld ?_
                          rotate_left
                          · intro w hSw; obtain ⟨s0, s1, s3, sg, r0, r1, r3⟩ := hSw; go_simp; try with_reducible rfl
                          try simp only [Act.put, List.setIfInBounds_toArray, List.set_cons_zero, List.set_cons_succ]
                          refine wpAnyH_takeD (i := 47) 91 (v := ?_) rfl rfl (by kernel_rfl) (by kernel_rfl) (by kernel_rfl) hPF (Or.inl ⟨by kernel_rfl, ?_⟩) hHeld ?_
                          rotate_left
                          · intro w hSw; obtain ⟨s0, s1, s3, sg, r0, r1, r3⟩ := hSw; go_simp; try with_reducible rfl
                          try simp only [Act.put, List.setIfInBounds_toArray, List.set_cons_zero, List.set_cons_succ]
                          refine wpAnyH_takeD (i := 48) 92 (v := ?_) rfl rfl (by kernel_rfl) (by kernel_rfl) (by kernel_rfl) hPF (Or.inl ⟨by kernel_rfl, ?_⟩) hHeld ?_
                          rotate_left
                          · intro w hSw; obtain ⟨s0, s1, s3, sg, r0, r1, r3⟩ := hSw; go_simp; try with_reducible rfl
                          try simp only [Act.put, List.setIfInBounds_toArray, List.set_cons_zero, List.set_cons_succ]
                          refine wpAnyH_takeD (i := 49) 93 (v := ?_) rfl rfl (by kernel_rfl) (by kernel_rfl) (by kernel_rfl) hPF (Or.inl ⟨by kernel_rfl, ?_⟩) hHeld ?_
                          rotate_left
                          · intro w hSw; obtain ⟨s0, s1, s3, sg, r0, r1, r3⟩ := hSw; go_simp; try with_reducible rfl
                          try simp only [Act.put, List.setIfInBounds_toArray, List.set_cons_zero, List.set_cons_succ]
                          refine wpAnyH_takeD (i := 50) 94 (v := ?_) rfl rfl (by kernel_rfl) (by kernel_rfl) (by kernel_rfl) hPF (Or.inl ⟨by kernel_rfl, ?_⟩) hHeld ?_
                          rotate_left
                          · intro w hSw; obtain ⟨s0, s1, s3, sg, r0, r1, r3⟩ := hSw; go_simp; try with_reducible rfl
                          try simp only [Act.put, List.setIfInBounds_toArray, List.set_cons_zero, List.set_cons_succ]
                          refine wpAnyH_takeD (i := 51) 95 (v := ?_) rfl rfl (by kernel_rfl) (by kernel_rfl) (by kernel_rfl) hPF (Or.inl ⟨by kernel_rfl, ?_⟩) hHeld ?_
                          rotate_left
                          · intro w hSw; obtain ⟨s0, s1, s3, sg, r0, r1, r3⟩ := hSw; go_simp; try with_reducible rfl
                          try simp only [Act.put, List.setIfInBounds_toArray, List.set_cons_zero, List.set_cons_succ]
                          refine wpAnyH_takeD (i := 52) 96 (v := undef) rfl rfl (by kernel_rfl) (by kernel_rfl) (by kernel_rfl) hPF (Or.inr ⟨by kernel_rfl, rfl⟩) hHeld ?_
                          try simp only [Act.put, List.setIfInBounds_toArray, List.set_cons_zero, List.set_cons_succ]
                          refine wpAnyH_takeD (i := 53) 97 (v := undef) rfl rfl (by kernel_rfl) (by kernel_rfl) (by kernel_rfl) hPF (Or.inr ⟨by kernel_rfl, rfl⟩) hHeld ?_
                          try simp only [Act.put, List.setIfInBounds_toArray, List.set_cons_zero, List.set_cons_succ]
                          refine wpAnyH_takeD (i := 54) 98 (v := undef) rfl rfl (by kernel_rfl) (by kernel_rfl) (by kernel_rfl) hPF (Or.inr ⟨by kernel_rfl, rfl⟩) hHeld ?_
                          try simp only [Act.put, List.setIfInBounds_toArray, List.set_cons_zero, List.set_cons_succ]
                          refine wpAnyH_takeD (i := 55) 99 (v := undef) rfl rfl (by kernel_rfl) (by kernel_rfl) (by kernel_rfl) hPF (Or.inr ⟨by kernel_rfl, rfl⟩) hHeld ?_
                          try simp only [Act.put, List.setIfInBounds_toArray, List.set_cons_zero, List.set_cons_succ]
                          refine wpAnyH_takeD (i := 56) 100 (v := undef) rfl rfl (by kernel_rfl) (by kernel_rfl) (by kernel_rfl) hPF (Or.inr ⟨by kernel_rfl, rfl⟩) hHeld ?_
                          try simp only [Act.put, List.setIfInBounds_toArray, List.set_cons_zero, List.set_cons_succ]
                          refine wpAnyH_takeD (i := 57) 101 (v := undef) rfl rfl (by kernel_rfl) (by kernel_rfl) (by kernel_rfl) hPF (Or.inr ⟨by kernel_rfl, rfl⟩) hHeld ?_
                          try simp only [Act.put, List.setIfInBounds_toArray, List.set_cons_zero, List.set_cons_succ]
                          refine wpAnyH_takeD (i := 58) 102 (v := undef) rfl rfl (by kernel_rfl) (by kernel_rfl) (by kernel_rfl) hPF (Or.inr ⟨by kernel_rfl, rfl⟩) hHeld ?_
                          try simp only [Act.put, List.setIfInBounds_toArray, List.set_cons_zero, List.set_cons_succ]
                          refine wpAnyH_takeD (i := 59) 103 (v := undef) rfl rfl (by kernel_rfl) (by kernel_rfl) (by kernel_rfl) hPF (Or.inr ⟨by kernel_rfl, rfl⟩) hHeld ?_
                          try simp only [Act.put, List.setIfInBounds_toArray, List.set_cons_zero, List.set_cons_succ]
                          refine wpAnyH_takeD (i := 60) 104 (v := undef) rfl rfl (by kernel_rfl) (by kernel_rfl) (by kernel_rfl) hPF (Or.inr ⟨by kernel_rfl, rfl⟩) hHeld ?_
                          try simp only [Act.put, List.setIfInBounds_toArray, List.set_cons_zero, List.set_cons_succ]
                          refine wpAnyH_takeD (i := 61) 105 (v := undef) rfl rfl (by kernel_rfl) (by kernel_rfl) (by kernel_rfl) hPF (Or.inr ⟨by kernel_rfl, rfl⟩) hHeld ?_
                          try simp only [Act.put, List.setIfInBounds_toArray, List.set_cons_zero, List.set_cons_succ]
                          refine wpAnyH_takeD (i := 62) 106 (v := undef) rfl rfl (by kernel_rfl) (by kernel_rfl) (by kernel_rfl) hPF (Or.inr ⟨by kernel_rfl, rfl⟩) hHeld ?_
                          try simp only [Act.put, List.setIfInBounds_toArray, List.set_cons_zero, List.set_cons_succ]
                          refine wpAnyH_takeD (i := 63) 107 (v := ?_) rfl rfl (by kernel_rfl) (by kernel_rfl) (by kernel_rfl) hPF (Or.inl ⟨by kernel_rfl, ?_⟩) hHeld ?_
                          rotate_left
                          · intro w hSw; obtain ⟨s0, s1, s3, sg, r0, r1, r3⟩ := hSw; go_simp; try with_reducible rfl
                          try simp only [Act.put, List.setIfInBounds_toArray, List.set_cons_zero, List.set_cons_succ]
                          refine wpAnyH_takeD (i := 64) 108 (v := ?_) rfl rfl (by kernel_rfl) (by kernel_rfl) (by kernel_rfl) hPF (Or.inl ⟨by kernel_rfl, ?_⟩) hHeld ?_
                          rotate_left
                          · intro w hSw; obtain ⟨s0, s1, s3, sg, r0, r1, r3⟩ := hSw; go_simp; try with_reducible rfl
                          try simp only [Act.put, List.setIfInBounds_toArray, List.set_cons_zero, List.set_cons_succ]
                          refine wpAnyH_takeD (i := 65) 109 (v := ?_) rfl rfl (by kernel_rfl) (by kernel_rfl) (by kernel_rfl) hPF (Or.inl ⟨by kernel_rfl, ?_⟩) hHeld ?_
                          rotate_left
                          · intro w hSw; obtain ⟨s0, s1, s3, sg, r0, r1, r3⟩ := hSw; go_simp; try with_reducible rfl
                          try simp only [Act.put, List.setIfInBounds_toArray, List.set_cons_zero, List.set_cons_succ]
                          refine wpAnyH_takeD (i := 66) 110 (v := ?_) rfl rfl (by kernel_rfl) (by kernel_rfl) (by kernel_rfl) hPF (Or.inl ⟨by kernel_rfl, ?_⟩) hHeld ?_
                          rotate_left
                          · intro w hSw; obtain ⟨s0, s1, s3, sg, r0, r1, r3⟩ := hSw; go_simp; try with_reducible rfl
                          try simp only [Act.put, List.setIfInBounds_toArray, List.set_cons_zero, List.set_cons_succ]
                          refine wpAnyH_done (by kernel_rfl) ?_ _
                          go_wp2_with fail
                          go_meet
                          exact ⟨by rw [HE.out], Lib.hid ⟨1, rfl⟩⟩
                    · have c2b : (qs == ys) = false := by simpa using c2
                      have HE := Lib.hid (show decide ((i : Int) < 0 ∨ ltS ⟨qv, qm, qp, qs, false⟩ ⟨yv, ym, yp, ys, yst⟩) = false from decide_eq_false (by rintro (c | c); exact i2 c; unfold ltS at c; simp only at c; omega))
                      clear c2
                      have hSd : W.drew.cell? ⟨gb, 0, none⟩ = some (.int .i64 qv) ∧ W.drew.cell? ⟨gb, 1, none⟩ = some (.int .i64 qm) ∧ W.drew.cell? ⟨gb, 3, none⟩ = some (.int .i64 qs) ∧ W.drew.cell? ⟨g, 0, none⟩ = some (.slice (some ⟨b, off, none⟩) n c) ∧ W.drew.cell? ⟨b, off + i * 5, none⟩ = some (.int .i64 yv) ∧ W.drew.cell? ⟨b, off + i * 5 + 1, none⟩ = some (.int .i64 ym) ∧ W.drew.cell? ⟨b, off + i * 5 + 3, none⟩ = some (.int .i64 ys) := ⟨x0, x1, x3, g00, y0, y1, y3⟩
                      clear x0 x1 x3 g00 y0 y1 y3
                      refine wp_region_heldD (S := fun w' => w'.cell? ⟨gb, 0, none⟩ = some (.int .i64 qv) ∧ w'.cell? ⟨gb, 1, none⟩ = some (.int .i64 qm) ∧ w'.cell? ⟨gb, 3, none⟩ = some (.int .i64 qs) ∧ w'.cell? ⟨g, 0, none⟩ = some (.slice (some ⟨b, off, none⟩) n c) ∧ w'.cell? ⟨b, off + i * 5, none⟩ = some (.int .i64 yv) ∧ w'.cell? ⟨b, off + i * 5 + 1, none⟩ = some (.int .i64 ym) ∧ w'.cell? ⟨b, off + i * 5 + 3, none⟩ = some (.int .i64 ys)) (by kernel_rfl) (fun _ _ _ _ _ h => h) hSd (fun hPF hHeld => ?_)
                      refine wpAnyH_takeD (i := 0) 44 (v := ?_) rfl rfl (by kernel_rfl) (by kernel_rfl) (by kernel_rfl) hPF (Or.inl ⟨by kernel_rfl, ?_⟩) hHeld ?_
                      rotate_left
                      · intro w hSw; obtain ⟨s0, s1, s3, sg, r0, r1, r3⟩ := hSw; go_simp; try with_reducible rfl
                      try simp only [Act.put, List.setIfInBounds_toArray, List.set_cons_zero, List.set_cons_succ]
                      refine wpAnyH_takeD (i := 1) 45 (v := ?_) rfl rfl (by kernel_rfl) (by kernel_rfl) (by kernel_rfl) hPF (Or.inl ⟨by kernel_rfl, ?_⟩) hHeld ?_
                      rotate_left
                      · intro w hSw; obtain ⟨s0, s1, s3, sg, r0, r1, r3⟩ := hSw; go_simp; try with_reducible rfl
                      try simp only [Act.put, List.setIfInBounds_toArray, List.set_cons_zero, List.set_cons_succ]
                      refine wpAnyH_takeD (i := 2) 46 (v := ?_) rfl rfl (by kernel_rfl) (by kernel_rfl) (by kernel_rfl) hPF (Or.inl ⟨by kernel_rfl, ?_⟩) hHeld ?_
                      rotate_left
                      · intro w hSw; obtain ⟨s0, s1, s3, sg, r0, r1, r3⟩ := hSw; go_simp; try with_reducible rfl
                      try simp only [Act.put, List.setIfInBounds_toArray, List.set_cons_zero, List.set_cons_succ]
                      refine wpAnyH_takeD (i := 3) 47 (v := ?_) rfl rfl (by kernel_rfl) (by kernel_rfl) (by kernel_rfl) hPF (Or.inl ⟨by kernel_rfl, ?_⟩) hHeld ?_
                      rotate_left
                      · intro w hSw; obtain ⟨s0, s1, s3, sg, r0, r1, r3⟩ := hSw; go_simp; try with_reducible rfl
                      try simp only [Act.put, List.setIfInBounds_toArray, List.set_cons_zero, List.set_cons_succ]
                      refine wpAnyH_takeD (i := 4) 48 (v := ?_) rfl rfl (by kernel_rfl) (by kernel_rfl) (by kernel_rfl) hPF (Or.inl ⟨by kernel_rfl, ?_⟩) hHeld ?_
                      rotate_left
                      · intro w hSw; obtain ⟨s0, s1, s3, sg, r0, r1, r3⟩ := hSw; go_simp; try with_reducible rfl
                      try simp only [Act.put, List.setIfInBounds_toArray, List.set_cons_zero, List.set_cons_succ]
                      refine wpAnyH_takeD (i := 5) 49 (v := ?_) rfl rfl (by kernel_rfl) (by kernel_rfl) (by kernel_rfl) hPF (Or.inl ⟨by kernel_rfl, ?_⟩) hHeld ?_
                      rotate_left
                      · intro w hSw; obtain ⟨s0, s1, s3, sg, r0, r1, r3⟩ := hSw; go_simp; try with_reducible rfl
                      try simp only [Act.put, List.setIfInBounds_toArray, List.set_cons_zero, List.set_cons_succ]
                      refine wpAnyH_takeD (i := 6) 50 (v := ?_) rfl rfl (by kernel_rfl) (by kernel_rfl) (by kernel_rfl) hPF (Or.inl ⟨by kernel_rfl, ?_⟩) hHeld ?_
                      rotate_left
                      · intro w hSw; obtain ⟨s0, s1, s3, sg, r0, r1, r3⟩ := hSw; go_simp; try with_reducible rfl
                      try simp only [Act.put, List.setIfInBounds_toArray, List.set_cons_zero, List.set_cons_succ]
                      refine wpAnyH_takeD (i := 7) 51 (v := ?_) rfl rfl (by kernel_rfl) (by kernel_rfl) (by kernel_rfl) hPF (Or.inl ⟨by kernel_rfl, ?_⟩) hHeld ?_
                      rotate_left
                      · intro w hSw; obtain ⟨s0, s1, s3, sg, r0, r1, r3⟩ := hSw; go_simp; try with_reducible rfl
                      try simp only [Act.put, List.setIfInBounds_toArray, List.set_cons_zero, List.set_cons_succ]
                      refine wpAnyH_takeD (i := 8) 52 (v := ?_) rfl rfl (by kernel_rfl) (by kernel_rfl) (by kernel_rfl) hPF (Or.inl ⟨by kernel_rfl, ?_⟩) hHeld ?_
                      rotate_left
                      · intro w hSw; obtain ⟨s0, s1, s3, sg, r0, r1, r3⟩ := hSw; go_simp; try with_reducible rfl
                      try simp only [Act.put, List.setIfInBounds_toArray, List.set_cons_zero, List.set_cons_succ]
                      refine wpAnyH_takeD (i := 9) 53 (v := ?_) rfl rfl (by kernel_rfl) (by kernel_rfl) (by kernel_rfl) hPF (Or.inl ⟨by kernel_rfl, ?_⟩) hHeld ?_
                      rotate_left
                      · intro w hSw; obtain ⟨s0, s1, s3, sg, r0, r1, r3⟩ := hSw; go_simp; try with_reducible rfl
                      try simp only [Act.put, List.setIfInBounds_toArray, List.set_cons_zero, List.set_cons_succ]
                      refine wpAnyH_takeD (i := 10) 54 (v := ?_) rfl rfl (by kernel_rfl) (by kernel_rfl) (by kernel_rfl) hPF (Or.inl ⟨by kernel_rfl, ?_⟩) hHeld ?_
                      rotate_left
                      · intro w hSw; obtain ⟨s0, s1, s3, sg, r0, r1, r3⟩ := hSw; go_simp; try with_reducible rfl
                      try simp only [Act.put, List.setIfInBounds_toArray, List.set_cons_zero, List.set_cons_succ]
                      refine wpAnyH_takeD (i := 11) 55 (v := ?_) rfl rfl (by kernel_rfl) (by kernel_rfl) (by kernel_rfl) hPF (Or.inl ⟨by kernel_rfl, ?_⟩) hHeld ?_
                      rotate_left
                      · intro w hSw; obtain ⟨s0, s1, s3, sg, r0, r1, r3⟩ := hSw; go_simp; try with_reducible rfl
                      try simp only [Act.put, List.setIfInBounds_toArray, List.set_cons_zero, List.set_cons_succ]
                      refine wpAnyH_takeD (i := 12) 56 (v := ?_) rfl rfl (by kernel_rfl) (by kernel_rfl) (by kernel_rfl) hPF (Or.inl ⟨by kernel_rfl, ?_⟩) hHeld ?_
                      rotate_left
                      · intro w hSw; obtain ⟨s0, s1, s3, sg, r0, r1, r3⟩ := hSw; go_simp; try with_reducible rfl
                      try simp only [Act.put, List.setIfInBounds_toArray, List.set_cons_zero, List.set_cons_succ]
                      refine wpAnyH_takeD (i := 13) 57 (v := ?_) rfl rfl (by kernel_rfl) (by kernel_rfl) (by kernel_rfl) hPF (Or.inl ⟨by kernel_rfl, ?_⟩) hHeld ?_
                      rotate_left
                      · intro w hSw; obtain ⟨s0, s1, s3, sg, r0, r1, r3⟩ := hSw; go_simp; try with_reducible rfl
                      try simp only [Act.put, List.setIfInBounds_toArray, List.set_cons_zero, List.set_cons_succ]
                      refine wpAnyH_takeD (i := 14) 58 (v := ?_) rfl rfl (by kernel_rfl) (by kernel_rfl) (by kernel_rfl) hPF (Or.inl ⟨by kernel_rfl, ?_⟩) hHeld ?_
                      rotate_left
                      · intro w hSw; obtain ⟨s0, s1, s3, sg, r0, r1, r3⟩ := hSw; go_simp; try with_reducible rfl
                      try simp only [Act.put, List.setIfInBounds_toArray, List.set_cons_zero, List.set_cons_succ]
                      refine wpAnyH_takeD (i := 15) 59 (v := ?_) rfl rfl (by kernel_rfl) (by kernel_rfl) (by kernel_rfl) hPF (Or.inl ⟨by kernel_rfl, ?_⟩) hHeld ?_
                      rotate_left
                      · intro w hSw; obtain ⟨s0, s1, s3, sg, r0, r1, r3⟩ := hSw; go_simp; try with_reducible rfl
                      try simp only [Act.put, List.setIfInBounds_toArray, List.set_cons_zero, List.set_cons_succ]
                      refine wpAnyH_takeD (i := 16) 60 (v := ?_) rfl rfl (by kernel_rfl) (by kernel_rfl) (by kernel_rfl) hPF (Or.inl ⟨by kernel_rfl, ?_⟩) hHeld ?_
                      rotate_left
                      · intro w hSw; obtain ⟨s0, s1, s3, sg, r0, r1, r3⟩ := hSw; go_simp; try with_reducible rfl
                      try simp only [Act.put, List.setIfInBounds_toArray, List.set_cons_zero, List.set_cons_succ]
                      refine wpAnyH_takeD (i := 17) 61 (v := ?_) rfl rfl (by kernel_rfl) (by kernel_rfl) (by kernel_rfl) hPF (Or.inl ⟨by kernel_rfl, ?_⟩) hHeld ?_
                      rotate_left
                      · intro w hSw; obtain ⟨s0, s1, s3, sg, r0, r1, r3⟩ := hSw; go_simp; try with_reducible rfl
                      try simp only [Act.put, List.setIfInBounds_toArray, List.set_cons_zero, List.set_cons_succ]
                      refine wpAnyH_takeD (i := 18) 62 (v := ?_) rfl rfl (by kernel_rfl) (by kernel_rfl) (by kernel_rfl) hPF (Or.inl ⟨by kernel_rfl, ?_⟩) hHeld ?_
                      rotate_left
                      · intro w hSw; obtain ⟨s0, s1, s3, sg, r0, r1, r3⟩ := hSw; go_simp; try with_reducible rfl
                      try simp only [Act.put, List.setIfInBounds_toArray, List.set_cons_zero, List.set_cons_succ]
                      refine wpAnyH_takeD (i := 19) 63 (v := ?_) rfl rfl (by kernel_rfl) (by kernel_rfl) (by kernel_rfl) hPF (Or.inl ⟨by kernel_rfl, ?_⟩) hHeld ?_
                      rotate_left
                      · intro w hSw; obtain ⟨s0, s1, s3, sg, r0, r1, r3⟩ := hSw; go_simp; try with_reducible rfl
                      try simp only [Act.put, List.setIfInBounds_toArray, List.set_cons_zero, List.set_cons_succ]
                      refine wpAnyH_takeD (i := 20) 64 (v := ?_) rfl rfl (by kernel_rfl) (by kernel_rfl) (by kernel_rfl) hPF (Or.inl ⟨by kernel_rfl, ?_⟩) hHeld ?_
                      rotate_left
                      · intro w hSw; obtain ⟨s0, s1, s3, sg, r0, r1, r3⟩ := hSw; go_simp; try with_reducible rfl
                      try simp only [Act.put, List.setIfInBounds_toArray, List.set_cons_zero, List.set_cons_succ]
                      refine wpAnyH_takeD (i := 21) 65 (v := ?_) rfl rfl (by kernel_rfl) (by kernel_rfl) (by kernel_rfl) hPF (Or.inl ⟨by kernel_rfl, ?_⟩) hHeld ?_
                      rotate_left
                      · intro w hSw; obtain ⟨s0, s1, s3, sg, r0, r1, r3⟩ := hSw; go_simp; try with_reducible rfl
                      try simp only [Act.put, List.setIfInBounds_toArray, List.set_cons_zero, List.set_cons_succ]
                      refine wpAnyH_takeD (i := 22) 66 (v := ?_) rfl rfl (by kernel_rfl) (by kernel_rfl) (by kernel_rfl) hPF (Or.inl ⟨by kernel_rfl, ?_⟩) hHeld ?_
                      rotate_left
                      · intro w hSw; obtain ⟨s0, s1, s3, sg, r0, r1, r3⟩ := hSw; go_simp; try with_reducible rfl
                      try simp only [Act.put, List.setIfInBounds_toArray, List.set_cons_zero, List.set_cons_succ]
                      refine wpAnyH_takeD (i := 23) 67 (v := ?_) rfl rfl (by kernel_rfl) (by kernel_rfl) (by kernel_rfl) hPF (Or.inl ⟨by kernel_rfl, ?_⟩) hHeld ?_
                      rotate_left
                      · intro w hSw; obtain ⟨s0, s1, s3, sg, r0, r1, r3⟩ := hSw; go_simp; try with_reducible rfl
                      try simp only [Act.put, List.setIfInBounds_toArray, List.set_cons_zero, List.set_cons_succ]
                      refine wpAnyH_takeD (i := 24) 68 (v := ?_) rfl rfl (by kernel_rfl) (by kernel_rfl) (by kernel_rfl) hPF (Or.inl ⟨by kernel_rfl, ?_⟩) hHeld ?_
                      rotate_left
                      · intro w hSw; obtain ⟨s0, s1, s3, sg, r0, r1, r3⟩ := hSw; go_simp; try with_reducible rfl
                      try simp only [Act.put, List.setIfInBounds_toArray, List.set_cons_zero, List.set_cons_succ]
                      refine wpAnyH_takeD (i := 25) 69 (v := ?_) rfl rfl (by kernel_rfl) (by kernel_rfl) (by kernel_rfl) hPF (Or.inl ⟨by kernel_rfl, ?_⟩) hHeld ?_
                      rotate_left
                      · intro w hSw; obtain ⟨s0, s1, s3, sg, r0, r1, r3⟩ := hSw; go_simp; try with_reducible rfl
                      try simp only [Act.put, List.setIfInBounds_toArray, List.set_cons_zero, List.set_cons_succ]
                      refine wpAnyH_takeD (i := 26) 70 (v := ?_) rfl rfl (by kernel_rfl) (by kernel_rfl) (by kernel_rfl) hPF (Or.inl ⟨by kernel_rfl, ?_⟩) hHeld ?_
                      rotate_left
                      · intro w hSw; obtain ⟨s0, s1, s3, sg, r0, r1, r3⟩ := hSw; go_simp; try with_reducible rfl
                      try simp only [Act.put, List.setIfInBounds_toArray, List.set_cons_zero, List.set_cons_succ]
                      refine wpAnyH_takeD (i := 27) 71 (v := ?_) rfl rfl (by kernel_rfl) (by kernel_rfl) (by kernel_rfl) hPF (Or.inl ⟨by kernel_rfl, ?_⟩) hHeld ?_
                      rotate_left
                      · intro w hSw; obtain ⟨s0, s1, s3, sg, r0, r1, r3⟩ := hSw; go_simp; try with_reducible rfl
                      try simp only [Act.put, List.setIfInBounds_toArray, List.set_cons_zero, List.set_cons_succ]
                      refine wpAnyH_takeD (i := 28) 72 (v := undef) rfl rfl (by kernel_rfl) (by kernel_rfl) (by kernel_rfl) hPF (Or.inr ⟨by kernel_rfl, rfl⟩) hHeld ?_
                      try simp only [Act.put, List.setIfInBounds_toArray, List.set_cons_zero, List.set_cons_succ]
                      refine wpAnyH_takeD (i := 29) 73 (v := undef) rfl rfl (by kernel_rfl) (by kernel_rfl) (by kernel_rfl) hPF (Or.inr ⟨by kernel_rfl, rfl⟩) hHeld ?_
                      try simp only [Act.put, List.setIfInBounds_toArray, List.set_cons_zero, List.set_cons_succ]
                      refine wpAnyH_takeD (i := 30) 74 (v := undef) rfl rfl (by kernel_rfl) (by kernel_rfl) (by kernel_rfl) hPF (Or.inr ⟨by kernel_rfl, rfl⟩) hHeld ?_
                      try simp only [Act.put, List.setIfInBounds_toArray, List.set_cons_zero, List.set_cons_succ]
                      refine wpAnyH_takeD (i := 31) 75 (v := undef) rfl rfl (by kernel_rfl) (by kernel_rfl) (by kernel_rfl) hPF (Or.inr ⟨by kernel_rfl, rfl⟩) hHeld ?_
                      try simp only [Act.put, List.setIfInBounds_toArray, List.set_cons_zero, List.set_cons_succ]
                      refine wpAnyH_takeD (i := 32) 76 (v := undef) rfl rfl (by kernel_rfl) (by kernel_rfl) (by kernel_rfl) hPF (Or.inr ⟨by kernel_rfl, rfl⟩) hHeld ?_
                      try simp only [Act.put, List.setIfInBounds_toArray, List.set_cons_zero, List.set_cons_succ]
                      refine wpAnyH_takeD (i := 33) 77 (v := undef) rfl rfl (by kernel_rfl) (by kernel_rfl) (by kernel_rfl) hPF (Or.inr ⟨by kernel_rfl, rfl⟩) hHeld ?_
                      try simp only [Act.put, List.setIfInBounds_toArray, List.set_cons_zero, List.set_cons_succ]
                      refine wpAnyH_takeD (i := 34) 78 (v := undef) rfl rfl (by kernel_rfl) (by kernel_rfl) (by kernel_rfl) hPF (Or.inr ⟨by kernel_rfl, rfl⟩) hHeld ?_
                      try simp only [Act.put, List.setIfInBounds_toArray, List.set_cons_zero, List.set_cons_succ]
                      refine wpAnyH_takeD (i := 35) 79 (v := undef) rfl rfl (by kernel_rfl) (by kernel_rfl) (by kernel_rfl) hPF (Or.inr ⟨by kernel_rfl, rfl⟩) hHeld ?_
                      try simp only [Act.put, List.setIfInBounds_toArray, List.set_cons_zero, List.set_cons_succ]
                      refine wpAnyH_takeD (i := 36) 80 (v := undef) rfl rfl (by kernel_rfl) (by kernel_rfl) (by kernel_rfl) hPF (Or.inr ⟨by kernel_rfl, rfl⟩) hHeld ?_
                      try simp only [Act.put, List.setIfInBounds_toArray, List.set_cons_zero, List.set_cons_succ]
                      refine wpAnyH_takeD (i := 37) 81 (v := undef) rfl rfl (by kernel_rfl) (by kernel_rfl) (by kernel_rfl) hPF (Or.inr ⟨by kernel_rfl, rfl⟩) hHeld ?_
                      try simp only [Act.put, List.setIfInBounds_toArray, List.set_cons_zero, List.set_cons_succ]
                      refine wpAnyH_takeD (i := 38) 82 (v := undef) rfl rfl (by kernel_rfl) (by kernel_rfl) (by kernel_rfl) hPF (Or.inr ⟨by kernel_rfl, rfl⟩) hHeld ?_
                      try simp only [Act.put, List.setIfInBounds_toArray, List.set_cons_zero, List.set_cons_succ]
                      refine wpAnyH_takeD (i := 39) 83 (v := undef) rfl rfl (by kernel_rfl) (by kernel_rfl) (by kernel_rfl) hPF (Or.inr ⟨by kernel_rfl, rfl⟩) hHeld ?_
                      try simp only [Act.put, List.setIfInBounds_toArray, List.set_cons_zero, List.set_cons_succ]
                      refine wpAnyH_takeD (i := 40) 84 (v := undef) rfl rfl (by kernel_rfl) (by kernel_rfl) (by kernel_rfl) hPF (Or.inr ⟨by kernel_rfl, rfl⟩) hHeld ?_
                      try simp only [Act.put, List.setIfInBounds_toArray, List.set_cons_zero, List.set_cons_succ]
                      refine wpAnyH_takeD (i := 41) 85 (v := undef) rfl rfl (by kernel_rfl) (by kernel_rfl) (by kernel_rfl) hPF (Or.inr ⟨by kernel_rfl, rfl⟩) hHeld ?_
                      try simp only [Act.put, List.setIfInBounds_toArray, List.set_cons_zero, List.set_cons_succ]
                      refine wpAnyH_takeD (i := 42) 86 (v := undef) rfl rfl (by kernel_rfl) (by kernel_rfl) (by kernel_rfl) hPF (Or.inr ⟨by kernel_rfl, rfl⟩) hHeld ?_
                      try simp only [Act.put, List.setIfInBounds_toArray, List.set_cons_zero, List.set_cons_succ]
                      refine wpAnyH_takeD (i := 43) 87 (v := undef) rfl rfl (by kernel_rfl) (by kernel_rfl) (by kernel_rfl) hPF (Or.inr ⟨by kernel_rfl, rfl⟩) hHeld ?_
                      try simp only [Act.put, List.setIfInBounds_toArray, List.set_cons_zero, List.set_cons_succ]
                      refine wpAnyH_takeD (i := 44) 88 (v := undef) rfl rfl (by kernel_rfl) (by kernel_rfl) (by kernel_rfl) hPF (Or.inr ⟨by kernel_rfl, rfl⟩) hHeld ?_
                      try simp only [Act.put, List.setIfInBounds_toArray, List.set_cons_zero, List.set_cons_succ]
                      refine wpAnyH_takeD (i := 45) 89 (v := undef) rfl rfl (by kernel_rfl) (by kernel_rfl) (by kernel_rfl) hPF (Or.inr ⟨by kernel_rfl, rfl⟩) hHeld ?_
                      try simp only [Act.put, List.setIfInBounds_toArray, List.set_cons_zero, List.set_cons_succ]
                      refine wpAnyH_takeD (i := 46) 90 (v := undef) rfl rfl (by kernel_rfl) (by kernel_rfl) (by kernel_rfl) hPF (Or.inr ⟨by kernel_rfl, rfl⟩) hHeld ?_
                      try simp only [Act.put, List.setIfInBounds_toArray, List.set_cons_zero, List.set_cons_succ]
                      refine wpAnyH_takeD (i := 47) 91 (v := undef) rfl rfl (by kernel_rfl) (by kernel_rfl) (by kernel_rfl) hPF (Or.inr ⟨by kernel_rfl, rfl⟩) hHeld ?_
                      try simp only [Act.put, List.setIfInBounds_toArray, List.set_cons_zero, List.set_cons_succ]
                      refine wpAnyH_takeD (i := 48) 92 (v := undef) rfl rfl (by kernel_rfl) (by kernel_rfl) (by kernel_rfl) hPF (Or.inr ⟨by kernel_rfl, rfl⟩) hHeld ?_
                      try simp only [Act.put, List.setIfInBounds_toArray, List.set_cons_zero, List.set_cons_succ]
                      refine wpAnyH_takeD (i := 49) 93 (v := undef) rfl rfl (by kernel_rfl) (by kernel_rfl) (by kernel_rfl) hPF (Or.inr ⟨by kernel_rfl, rfl⟩) hHeld ?_
                      try simp only [Act.put, List.setIfInBounds_toArray, List.set_cons_zero, List.set_cons_succ]
                      refine wpAnyH_takeD (i := 50) 94 (v := undef) rfl rfl (by kernel_rfl) (by kernel_rfl) (by kernel_rfl) hPF (Or.inr ⟨by kernel_rfl, rfl⟩) hHeld ?_
                      try simp only [Act.put, List.setIfInBounds_toArray, List.set_cons_zero, List.set_cons_succ]
                      refine wpAnyH_takeD (i := 51) 95 (v := undef) rfl rfl (by kernel_rfl) (by kernel_rfl) (by kernel_rfl) hPF (Or.inr ⟨by kernel_rfl, rfl⟩) hHeld ?_
                      try simp only [Act.put, List.setIfInBounds_toArray, List.set_cons_zero, List.set_cons_succ]
                      refine wpAnyH_takeD (i := 52) 96 (v := undef) rfl rfl (by kernel_rfl) (by kernel_rfl) (by kernel_rfl) hPF (Or.inr ⟨by kernel_rfl, rfl⟩) hHeld ?_
                      try simp only [Act.put, List.setIfInBounds_toArray, List.set_cons_zero, List.set_cons_succ]
                      refine wpAnyH_takeD (i := 53) 97 (v := undef) rfl rfl (by kernel_rfl) (by kernel_rfl) (by kernel_rfl) hPF (Or.inr ⟨by kernel_rfl, rfl⟩) hHeld ?_
                      try simp only [Act.put, List.setIfInBounds_toArray, List.set_cons_zero, List.set_cons_succ]
                      refine wpAnyH_takeD (i := 54) 98 (v := undef) rfl rfl (by kernel_rfl) (by kernel_rfl) (by kernel_rfl) hPF (Or.inr ⟨by kernel_rfl, rfl⟩) hHeld ?_
                      try simp only [Act.put, List.setIfInBounds_toArray, List.set_cons_zero, List.set_cons_succ]
                      refine wpAnyH_takeD (i := 55) 99 (v := undef) rfl rfl (by kernel_rfl) (by kernel_rfl) (by kernel_rfl) hPF (Or.inr ⟨by kernel_rfl, rfl⟩) hHeld ?_
                      try simp only [Act.put, List.setIfInBounds_toArray, List.set_cons_zero, List.set_cons_succ]
                      refine wpAnyH_takeD (i := 56) 100 (v := undef) rfl rfl (by kernel_rfl) (by kernel_rfl) (by kernel_rfl) hPF (Or.inr ⟨by kernel_rfl, rfl⟩) hHeld ?_
                      try simp only [Act.put, List.setIfInBounds_toArray, List.set_cons_zero, List.set_cons_succ]
                      refine wpAnyH_takeD (i := 57) 101 (v := undef) rfl rfl (by kernel_rfl) (by kernel_rfl) (by kernel_rfl) hPF (Or.inr ⟨by kernel_rfl, rfl⟩) hHeld ?_
                      try simp only [Act.put, List.setIfInBounds_toArray, List.set_cons_zero, List.set_cons_succ]
                      refine wpAnyH_takeD (i := 58) 102 (v := undef) rfl rfl (by kernel_rfl) (by kernel_rfl) (by kernel_rfl) hPF (Or.inr ⟨by kernel_rfl, rfl⟩) hHeld ?_
                      try simp only [Act.put, List.setIfInBounds_toArray, List.set_cons_zero, List.set_cons_succ]
                      refine wpAnyH_takeD (i := 59) 103 (v := undef) rfl rfl (by kernel_rfl) (by kernel_rfl) (by kernel_rfl) hPF (Or.inr ⟨by kernel_rfl, rfl⟩) hHeld ?_
                      try simp only [Act.put, List.setIfInBounds_toArray, List.set_cons_zero, List.set_cons_succ]
                      refine wpAnyH_takeD (i := 60) 104 (v := undef) rfl rfl (by kernel_rfl) (by kernel_rfl) (by kernel_rfl) hPF (Or.inr ⟨by kernel_rfl, rfl⟩) hHeld ?_
                      try simp only [Act.put, List.setIfInBounds_toArray, List.set_cons_zero, List.set_cons_succ]
                      refine wpAnyH_takeD (i := 61) 105 (v := undef) rfl rfl (by kernel_rfl) (by kernel_rfl) (by kernel_rfl) hPF (Or.inr ⟨by kernel_rfl, rfl⟩) hHeld ?_
                      try simp only [Act.put, List.setIfInBounds_toArray, List.set_cons_zero, List.set_cons_succ]
                      refine wpAnyH_takeD (i := 62) 106 (v := undef) rfl rfl (by kernel_rfl) (by kernel_rfl) (by kernel_rfl) hPF (Or.inr ⟨by kernel_rfl, rfl⟩) hHeld ?_
                      try simp only [Act.put, List.setIfInBounds_toArray, List.set_cons_zero, List.set_cons_succ]
                      refine wpAnyH_takeD (i := 63) 107 (v := undef) rfl rfl (by kernel_rfl) (by kernel_rfl) (by kernel_rfl) hPF (Or.inr ⟨by kernel_rfl, rfl⟩) hHeld ?_
                      try simp only [Act.put, List.setIfInBounds_toArray, List.set_cons_zero, List.set_cons_succ]
                      refine wpAnyH_takeD (i := 64) 108 (v := undef) rfl rfl (by kernel_rfl) (by kernel_rfl) (by kernel_rfl) hPF (Or.inr ⟨by kernel_rfl, rfl⟩) hHeld ?_
                      try simp only [Act.put, List.setIfInBounds_toArray, List.set_cons_zero, List.set_cons_succ]
                      refine wpAnyH_takeD (i := 65) 109 (v := ?_) rfl rfl (by kernel_rfl) (by kernel_rfl) (by kernel_rfl) hPF (Or.inl ⟨by kernel_rfl, ?_⟩) hHeld ?_
                      rotate_left
                      · intro w hSw; obtain ⟨s0, s1, s3, sg, r0, r1, r3⟩ := hSw; go_simp; try with_reducible rfl
                      try simp only [Act.put, List.setIfInBounds_toArray, List.set_cons_zero, List.set_cons_succ]
                      refine wpAnyH_takeD (i := 66) 110 (v := ?_) rfl rfl (by kernel_rfl) (by kernel_rfl) (by kernel_rfl) hPF (Or.inl ⟨by kernel_rfl, ?_⟩) hHeld ?_
                      rotate_left
                      · intro w hSw; obtain ⟨s0, s1, s3, sg, r0, r1, r3⟩ := hSw; go_simp; try with_reducible rfl
                      try simp only [Act.put, List.setIfInBounds_toArray, List.set_cons_zero, List.set_cons_succ]
                      refine wpAnyH_done (by kernel_rfl) ?_ _
                      go_wp2_with fail
                      go_meet
                      exact ⟨by rw [HE.out], Lib.hid ⟨1, rfl⟩⟩
              case rest =>
                obtain ⟨rfl, hwc⟩ := hcut
                have HB9 := Lib.hid (show Below w1.heap.size w1 wc from by obtain ⟨q, e⟩ := hwc.out; rw [e]; exact bel_drewN HB3.out q)
                clear hwc g00 hy
                cases hres : decide (o < 0 ∨ ltS ⟨qv, qm, qp, qs, false⟩ y) with
                | true =>
                  have HE := Lib.hid (show oldTo d.l (k + 1) = k from HOLD.out.trans (if_pos ⟨rfl, of_decide_eq_true hres⟩))
                  clear hres
                  go_wp2_with fail
                  go_roundw
                  case rel =>
                    rw [HJ.out]
                    exact ⟨k + 1, HLT.out, by rw [Int.natCast_add]; rfl, by rw [HE.out], HB9⟩
                  case measure =>
                    rw [HJ.out]
                    show n - ((k : Int) + 1).toNat < n - ((k : Int)).toNat
                    have := HLT.out
                    omega
                | false =>
                  have HE := Lib.hid (show oldTo d.l (k + 1) = o from HOLD.out.trans (if_neg (fun c => of_decide_eq_false hres c.2)))
                  clear hres
                  go_wp2_with fail
                  go_roundw
                  case rel =>
                    rw [HJ.out]
                    exact ⟨k + 1, HLT.out, by rw [Int.natCast_add]; rfl, by rw [HE.out], HB9⟩
                  case measure =>
                    rw [HJ.out]
                    show n - ((k : Int) + 1).toNat < n - ((k : Int)).toNat
                    have := HLT.out
                    omega
          · obtain rfl : k = n := by omega
            clear hk hlt
            have hin := old_in d.l k
            obtain ⟨o, ho⟩ : ∃ o, oldTo d.l k = o := ⟨_, rfl⟩
            rw [ho] at hin
            rw [ho]
            have hD := HH1.out.1.below HB.out
            have hbw := HX1.out.2.trans (HB.out.mono HX1.out.2.size)
            have hbox := HX1.out.1.below HB.out HX1.out.1.lt
            by_cases hneg : o < 0
            · have HP := Lib.hid (put_full (x := ⟨xv, xm, xp, xs, xst⟩) HIX.out (by rw [HN.out]; exact HNN.out.1) (by rw [HN.out, ho]; exact hneg))
              have g1 := hD.blk.cell 1
              have f1 := hD.blk.frozen 1
              have HE := Lib.hid (show Touch F w (wr.setCell ⟨g, 1, none⟩ (.int .i64 (wrap64 (d.f + 1)))) ∧ ∃ A' c', DtAt (wr.setCell ⟨g, 1, none⟩ (.int .i64 (wrap64 (d.f + 1)))) B (grow F w (wr.setCell ⟨g, 1, none⟩ (.int .i64 (wrap64 (d.f + 1))))) g ⟨d.l, wrap64 (d.f + 1)⟩ A' c' from by
                have hsz : wr.heap.size = (wr.setCell ⟨g, 1, none⟩ (.int .i64 (wrap64 (d.f + 1)))).heap.size := by simp [World.setCell]
                refine ⟨(below_touch hbw F).set_ (fun _ => HH.out.1.fg) _, A, c, ⟨Blk.set_ hD.blk 1 _, own_heap hD.row fun q hq => ?_, .inl HH.out.1.fg, fun q hq => .inl (HH.out.1.fr q hq), fun q hq => ?_⟩⟩
                · exact Below.heap_setCell wr ⟨g, 1, none⟩ _ q (fun e => by have e : q = g := e; subst e; exact hD.ne hq)
                · rcases hq with hq | hq
                  · exact ⟨(HH.out.1.lo q hq).1, Nat.lt_of_lt_of_le (hD.lo q hq).2 (Nat.le_of_eq hsz)⟩
                  · have := (HH.out.1.lo g HH.out.1.fg).1
                    have := HG.out
                    exact ⟨by omega, hq.2⟩)
              clear hin ho hD hbw hbox
              go_wp2_with fail
              go_ret
              rw [HP.out]
              exact ⟨rfl, HE.out⟩
            · obtain ⟨i, hi⟩ : ∃ i : Nat, (i : Int) = o := ⟨o.toNat, by omega⟩
              subst hi
              have hik : i < d.l.length := by rw [HN.out]; omega
              have HP := Lib.hid (put_old (x := ⟨xv, xm, xp, xs, xst⟩) HIX.out (by rw [HN.out]; exact HNN.out.1) (by rw [HN.out]; exact ho))
              have HW := Lib.hid (dwo_any hD (by have := HH1.out.2; omega) i hik)
              have HRM := Lib.hid (show (rmP d.l i).length ≤ 1000 from by have := rm_len hik; have := HH1.out.2; omega)
              obtain ⟨rn, hrn⟩ : ∃ rn, (rmP d.l i).length = rn := ⟨_, rfl⟩
              rw [hrn] at HW
              have HRN := Lib.hid hrn
              have HBW := Lib.hid hbw
              have HBO := Lib.hid hbox
              clear hin ho hD hbw hbox hik hrn
              go_wp2_with fail
              refine HW.out.mono ?_
              rintro e w6 ⟨A6, c6, rfl, o6, b6⟩
              have hb6 := HBW.out.trans (b6.mono HBW.out.size)
              have hk6 := HH.out.1.blk.below hb6 HG.out
              have g6 := hk6.cell 0
              have f6 := hk6.frozen 0
              have HE := Lib.hid (put_fin HH.out.1 (below_touch hb6 F) hk6 (World.ownsRow.mono o6 HBW.out.size) (n := rn) HRN.out)
              have HBX := Lib.hid ((HBO.out.below b6 HBO.out.lt).far (a := ⟨g, 0, none⟩) (fun e => by have e : w.heap.size = g := e; have := HG.out; omega) (.slice A6 rn c6))
              clear b6 hb6 hk6 o6
              go_wp2_with fail
              go_meet
              exact Lib.hid ⟨rmP d.l i, A6, c6, HP.out, HE.out.1, HE.out.2, HBX.out, HRM.out⟩
      · have h24i : (n : Int) < 24 := by omega
        have HE := Lib.hid (show ∃ (l1 : List Pl) (A1 : Option Addr) (c1 : Nat), putD d ⟨xv, xm, xp, xs, xst⟩ = (⟨l1 ++ [⟨xv, xm, xp, xs, xst⟩], d.f⟩, 0) ∧ DtAt w1 B (grow F w w1) g ⟨l1, d.f⟩ A1 c1 ∧ Touch F w w1 ∧ Blk w1 w.heap.size 37 #[.int .i64 xv, .int .i64 xm, .int .i64 xp, .int .i64 xs, .bool xst] ∧ l1.length ≤ 1000 from
          ⟨d.l, A, c, put_room (x := ⟨xv, xm, xp, xs, xst⟩) HIX.out (by rw [HN.out]; exact h24), ⟨HH1.out.1.blk, HH1.out.1.row, .inl HH.out.1.fg, fun q hq => .inl (HH.out.1.fr q hq), fun q hq => by
            rcases hq with hq | hq
            · exact HH1.out.1.lo q hq
            · have := (HH.out.1.lo g HH.out.1.fg).1
              have := HG.out
              exact ⟨by omega, hq.2⟩⟩, below_touch HX1.out.2 F, HX1.out.1, HH1.out.2⟩)
        go_wp2_with fail
        go_meet
        exact Lib.hid HE.out
    case rest =>
      obtain ⟨l1, A1, c1, hp, hD, hT, hbx, hl1⟩ := hcut.out
      clear hcut g0
      obtain ⟨n1, hn1⟩ : ∃ n1, l1.length = n1 := ⟨_, rfl⟩
      have hlenx : (l1 ++ [(⟨xv, xm, xp, xs, xst⟩ : Pl)]).length = n1 + 1 := by rw [List.length_append, hn1]; rfl
      have HP := Lib.hid (And.intro hp hlenx)
      have hblk : Blk wc g 30 #[.slice A1 n1 c1, .int .i64 d.f] := by rw [← hn1]; exact hD.blk
      have HK := Lib.hid (fun (V : World) (hV : Below wc.heap.size wc V) => (show V.cell? ⟨g, 0, none⟩ = some (.slice A1 n1 c1) ∧ V.cell? ⟨w.heap.size, 0, none⟩ = some (.int .i64 xv) ∧ V.cell? ⟨w.heap.size, 1, none⟩ = some (.int .i64 xm) ∧ V.cell? ⟨w.heap.size, 2, none⟩ = some (.int .i64 xp) ∧ V.cell? ⟨w.heap.size, 3, none⟩ = some (.int .i64 xs) ∧ V.cell? ⟨w.heap.size, 4, none⟩ = some (.bool xst) from by
        have hk := hblk.below hV hblk.lt
        have hb := hbx.below hV hbx.lt
        exact ⟨hk.cell 0, hb.cell 0, hb.cell 1, hb.cell 2, hb.cell 3, hb.cell 4⟩))
      have HGC := Lib.hid (fun (V : World) (hV : Below wc.heap.size wc V) => (show (∃ u0, V.cell? ⟨g, 0, none⟩ = some u0) ∧ V.frozen? ⟨g, 0, none⟩ = false from by
        have hk := hblk.below hV hblk.lt
        exact ⟨⟨_, hk.cell 0⟩, hk.frozen 0⟩))
      have hwc : w.heap.size ≤ wc.heap.size := hT.size
      have HFIN := Lib.hid (fun (V : World) (s : Option Addr) (t : Nat) (hV : Below wc.heap.size wc V) (ho : OwnL 37 V wc.heap.size s t (l1 ++ [⟨xv, xm, xp, xs, xst⟩])) => (put_fin HH.out.1 (hT.trans (below_touch hV F)) (hblk.below hV hblk.lt) (World.ownsRow.mono ho hwc) hlenx))
      have hsrc : ∀ V, Below wc.heap.size wc V → PlsAt V wc.heap.size A1 l1 := fun V hV => hD.row.at_.below hV
      have hnone := (own_cap hD.row).2
      have bE := (bel_alloc wc (.cells #[] 37)).drew
      have bP := (bel_alloc wc (.cells #[.int .i64 xv, .int .i64 xm, .int .i64 xp, .int .i64 xs, .bool xst] 37)).drew
      have bEP := (bel_alloc2 wc (.cells #[] 37) (.cells #[.int .i64 xv, .int .i64 xm, .int .i64 xp, .int .i64 xs, .bool xst] 37)).drew
      have bPE := (bel_alloc2 wc (.cells #[.int .i64 xv, .int .i64 xm, .int .i64 xp, .int .i64 xs, .bool xst] 37) (.cells #[] 37)).drew
      -- the empty row, its append, the new one
      have oa : OwnL 37 (wc.alloc (.cells #[] 37)).drew wc.heap.size (some ⟨wc.heap.size, 0, none⟩) 0 [] := own_blank wc wc.heap.size 5 37 (Nat.le_refl _)
      obtain ⟨sa, ta, w5a, hra, o5a, ga, _⟩ := append_l (wc.alloc (.cells #[] 37)).drew wc.heap.size (some ⟨wc.heap.size, 0, none⟩) 0 0 [] rfl oa A1 c1 n1 wc.heap.size l1 hn1 hnone (hsrc _ bE) (by show 0 + l1.length ≤ 1048576; omega) bE.size
      rw [List.nil_append] at o5a
      rw [Nat.zero_add] at hra
      have b5a : Below wc.heap.size wc w5a := bE.trans (bel_own oa ga (Nat.le_refl _) bE.size)
      have b5a' := fun o => b5a.alloc b5a.size o
      obtain ⟨s6a, t6a, w6a, hr6a, o6a, b6a⟩ := app_one (V := w5a.alloc (.cells #[.int .i64 xv, .int .i64 xm, .int .i64 xp, .int .i64 xs, .bool xst] 37)) hn1 (World.ownsRow.alloc o5a _) (x := ⟨xv, xm, xp, xs, xst⟩) (Blk.new w5a _ _) (by omega) (b5a' _).size
      have l6a : Below wc.heap.size wc w6a := (b5a' _).trans b6a
      -- the empty row, the new one, the append
      have ob : OwnL 37 ((wc.alloc (.cells #[] 37)).alloc (.cells #[.int .i64 xv, .int .i64 xm, .int .i64 xp, .int .i64 xs, .bool xst] 37)).drew wc.heap.size (some ⟨wc.heap.size, 0, none⟩) 0 [] := World.ownsRow.alloc (own_blank wc wc.heap.size 5 37 (Nat.le_refl _)) _
      obtain ⟨sb, tb, w5b, hrb, o5b, gb, _⟩ := append_l ((wc.alloc (.cells #[] 37)).alloc (.cells #[.int .i64 xv, .int .i64 xm, .int .i64 xp, .int .i64 xs, .bool xst] 37)).drew wc.heap.size (some ⟨wc.heap.size, 0, none⟩) 0 0 [] rfl ob A1 c1 n1 wc.heap.size l1 hn1 hnone (hsrc _ bEP) (by show 0 + l1.length ≤ 1048576; omega) bEP.size
      rw [List.nil_append] at o5b
      rw [Nat.zero_add] at hrb
      have b5b : Below wc.heap.size wc w5b := bEP.trans (bel_own ob gb (Nat.le_refl _) bEP.size)
      have pb : Blk ((wc.alloc (.cells #[] 37)).alloc (.cells #[.int .i64 xv, .int .i64 xm, .int .i64 xp, .int .i64 xs, .bool xst] 37)).drew (wc.heap.size + 1) 37 #[.int .i64 xv, .int .i64 xm, .int .i64 xp, .int .i64 xs, .bool xst] := by
        have := Blk.new (wc.alloc (.cells #[] 37)) 37 #[.int .i64 xv, .int .i64 xm, .int .i64 xp, .int .i64 xs, .bool xst]
        rw [alloc_size] at this
        exact this
      have pb5 : Blk w5b (wc.heap.size + 1) 37 #[.int .i64 xv, .int .i64 xm, .int .i64 xp, .int .i64 xs, .bool xst] := (gb.block _ pb.lt (fun e => by have e : some (wc.heap.size + 1) = some wc.heap.size := e; injection e with e; omega)).trans pb
      obtain ⟨s6b, t6b, w6b, hr6b, o6b, b6b⟩ := app_one (V := w5b) hn1 o5b (x := ⟨xv, xm, xp, xs, xst⟩) pb5 (by omega) b5b.size
      have l6b : Below wc.heap.size wc w6b := b5b.trans b6b
      -- the new one, the empty row, the append
      have oc : OwnL 37 ((wc.alloc (.cells #[.int .i64 xv, .int .i64 xm, .int .i64 xp, .int .i64 xs, .bool xst] 37)).alloc (.cells #[] 37)).drew wc.heap.size (some ⟨wc.heap.size + 1, 0, none⟩) 0 [] := by
        have := own_blank (wc.alloc (.cells #[.int .i64 xv, .int .i64 xm, .int .i64 xp, .int .i64 xs, .bool xst] 37)) wc.heap.size 5 37 (bel_alloc wc _).size
        rw [alloc_size] at this
        exact this
      obtain ⟨sc, tc, w5c, hrc, o5c, gc, _⟩ := append_l ((wc.alloc (.cells #[.int .i64 xv, .int .i64 xm, .int .i64 xp, .int .i64 xs, .bool xst] 37)).alloc (.cells #[] 37)).drew wc.heap.size (some ⟨wc.heap.size + 1, 0, none⟩) 0 0 [] rfl oc A1 c1 n1 wc.heap.size l1 hn1 hnone (hsrc _ bPE) (by show 0 + l1.length ≤ 1048576; omega) bPE.size
      rw [List.nil_append] at o5c
      rw [Nat.zero_add] at hrc
      have b5c : Below wc.heap.size wc w5c := bPE.trans (bel_own oc gc (Nat.le_refl _) bPE.size)
      have pc : Blk ((wc.alloc (.cells #[.int .i64 xv, .int .i64 xm, .int .i64 xp, .int .i64 xs, .bool xst] 37)).alloc (.cells #[] 37)).drew wc.heap.size 37 #[.int .i64 xv, .int .i64 xm, .int .i64 xp, .int .i64 xs, .bool xst] := (Blk.new wc 37 #[.int .i64 xv, .int .i64 xm, .int .i64 xp, .int .i64 xs, .bool xst]).alloc _
      have pc5 : Blk w5c wc.heap.size 37 #[.int .i64 xv, .int .i64 xm, .int .i64 xp, .int .i64 xs, .bool xst] := (gc.block _ pc.lt (fun e => by have e : some wc.heap.size = some (wc.heap.size + 1) := e; injection e with e; omega)).trans pc
      obtain ⟨s6c, t6c, w6c, hr6c, o6c, b6c⟩ := app_one (V := w5c) hn1 o5c (x := ⟨xv, xm, xp, xs, xst⟩) pc5 (by omega) b5c.size
      have l6c : Below wc.heap.size wc w6c := b5c.trans b6c
      have k0 := HK.out _ ((Below.refl wc.heap.size wc).drew)
      have kE := HK.out _ bE
      have kP := HK.out _ bP
      have kEP := HK.out _ bEP
      have kPE := HK.out _ bPE
      have k5a := HK.out _ b5a
      have k5a' := HK.out _ (b5a' (.cells #[.int .i64 xv, .int .i64 xm, .int .i64 xp, .int .i64 xs, .bool xst] 37))
      have k6a := HK.out _ l6a
      have k5b := HK.out _ b5b
      have k6b := HK.out _ l6b
      have k5c := HK.out _ b5c
      have k6c := HK.out _ l6c
      obtain ⟨⟨ua, cga⟩, fga⟩ := HGC.out _ l6a
      obtain ⟨⟨ub, cgb⟩, fgb⟩ := HGC.out _ l6b
      obtain ⟨⟨uc, cgc⟩, fgc⟩ := HGC.out _ l6c
      have HEA := Lib.hid (HFIN.out w6a s6a t6a l6a o6a)
      have HEB := Lib.hid (HFIN.out w6b s6b t6b l6b o6b)
      have HEC := Lib.hid (HFIN.out w6c s6c t6c l6c o6c)
      have HRA := Lib.hid (And.intro hra hr6a)
      have HRB := Lib.hid (And.intro hrb hr6b)
      have HRC := Lib.hid (And.intro hrc hr6c)
      have HKK := Lib.hid (And.intro k0 (And.intro kE (And.intro kP (And.intro kEP (And.intro kPE (And.intro k5a (And.intro k5a' (And.intro k6a (And.intro k5b (And.intro k6b (And.intro k5c k6c)))))))))))
      clear hp hlenx hblk hwc hsrc hnone bE bP bEP bPE oa hra o5a ga b5a b5a' hr6a o6a b6a l6a ob hrb o5b gb b5b pb pb5 hr6b o6b b6b l6b oc hrc o5c gc b5c pc pc5 hr6c o6c b6c l6c hD hT hbx hl1 hn1 k0 kE kP kEP kPE k5a k5a' k6a k5b k6b k5c k6c
      go_wp2_with fail
      refine WalkT.startL 13 #[false, false, false, false, false, false, false, false, false, false, false, false, false] (S := fun w' => w'.cell? ⟨g, 0, none⟩ = some (.slice A1 n1 c1) ∧ w'.cell? ⟨w.heap.size, 0, none⟩ = some (.int .i64 xv) ∧ w'.cell? ⟨w.heap.size, 1, none⟩ = some (.int .i64 xm) ∧ w'.cell? ⟨w.heap.size, 2, none⟩ = some (.int .i64 xp) ∧ w'.cell? ⟨w.heap.size, 3, none⟩ = some (.int .i64 xs) ∧ w'.cell? ⟨w.heap.size, 4, none⟩ = some (.bool xst)) (st := 12) (by kernel_rfl) rfl (by kernel_rfl) ?_
      refine WalkT.takeL (i := 0) (some 128) #[true, false, false, false, false, false, false, false, false, false, false, false, false] (v := ?_) (by kernel_rfl) rfl rfl (by kernel_rfl) (by kernel_rfl) (by kernel_rfl) (by kernel_rfl) (fun _ _ _ h => h) (Or.inl ⟨by rfl, ?_⟩) HKK.out.1 ?_
      rotate_left
      · (intro w hSw; (try dsimp only at hSw); obtain ⟨t0, t1, t2, t3, t4, t5⟩ := hSw; go_simp; (try with_reducible rfl))
      try simp only [Act.put, List.setIfInBounds_toArray, List.set_cons_zero, List.set_cons_succ]
      refine WalkT.takeL (i := 2) (some 130) #[true, false, true, false, false, false, false, false, false, false, false, false, false] (v := ?_) (by kernel_rfl) rfl rfl (by kernel_rfl) (by kernel_rfl) (by kernel_rfl) (by kernel_rfl) (fun _ _ _ h => h) (Or.inl ⟨by rfl, ?_⟩) HKK.out.1 ?_
      rotate_left
      · (intro w hSw; (try dsimp only at hSw); obtain ⟨t0, t1, t2, t3, t4, t5⟩ := hSw; go_simp; (try with_reducible rfl))
      try simp only [Act.put, List.setIfInBounds_toArray, List.set_cons_zero, List.set_cons_succ]
      refine WalkT.takeL (i := 3) (some 131) #[true, false, true, true, false, false, false, false, false, false, false, false, false] (v := ?_) (by kernel_rfl) rfl rfl (by kernel_rfl) (by kernel_rfl) (by kernel_rfl) (by kernel_rfl) (fun _ _ _ h => h) (Or.inl ⟨by rfl, ?_⟩) HKK.out.1 ?_
      rotate_left
      · (intro w hSw; (try dsimp only at hSw); obtain ⟨t0, t1, t2, t3, t4, t5⟩ := hSw; go_simp; (try with_reducible rfl))
      try simp only [Act.put, List.setIfInBounds_toArray, List.set_cons_zero, List.set_cons_succ]
      refine WalkT.takeL (i := 4) (some 132) #[true, false, true, true, true, false, false, false, false, false, false, false, false] (v := ?_) (by kernel_rfl) rfl rfl (by kernel_rfl) (by kernel_rfl) (by kernel_rfl) (by kernel_rfl) (fun _ _ _ h => h) (Or.inl ⟨by rfl, ?_⟩) HKK.out.1 ?_
      rotate_left
      · (intro w hSw; (try dsimp only at hSw); obtain ⟨t0, t1, t2, t3, t4, t5⟩ := hSw; go_simp; (try with_reducible rfl))
      try simp only [Act.put, List.setIfInBounds_toArray, List.set_cons_zero, List.set_cons_succ]
      refine WalkT.takeL (i := 5) (some 133) #[true, false, true, true, true, true, false, false, false, false, false, false, false] (v := ?_) (by kernel_rfl) rfl rfl (by kernel_rfl) (by kernel_rfl) (by kernel_rfl) (by kernel_rfl) (fun _ _ _ h => h) (Or.inl ⟨by rfl, ?_⟩) HKK.out.1 ?_
      rotate_left
      · (intro w hSw; (try dsimp only at hSw); obtain ⟨t0, t1, t2, t3, t4, t5⟩ := hSw; go_simp; (try with_reducible rfl))
      try simp only [Act.put, List.setIfInBounds_toArray, List.set_cons_zero, List.set_cons_succ]
      refine WalkT.takeL (i := 7) (some 135) #[true, false, true, true, true, true, false, true, false, false, false, false, false] (v := .agg #[.int .i64 xv, .int .i64 xm, .int .i64 xp, .int .i64 xs, .bool xst]) (by kernel_rfl) rfl rfl (by kernel_rfl) (by kernel_rfl) (by kernel_rfl) (by kernel_rfl) (fun _ _ _ h => h) (Or.inl ⟨by rfl, ?_⟩) HKK.out.1 ?_
      · (intro w hSw; (try dsimp only at hSw); obtain ⟨t0, t1, t2, t3, t4, t5⟩ := hSw; go_simp; (try with_reducible rfl))
      try simp only [Act.put, List.setIfInBounds_toArray, List.set_cons_zero, List.set_cons_succ]
      refine WalkT.twoL (i := 1) (j := 8) #[true, true, true, true, true, true, false, true, false, false, false, false, false] #[true, false, true, true, true, true, false, true, true, false, false, false, false] (by kernel_rfl) (by kernel_rfl) (by kernel_rfl) rfl rfl (fun K1 hK1 => ?_) (fun K1 hK1 => ?_)
      all_goals
        have hK := Lib.hid hK1
        clear hK1
      · -- the empty row first
        go_simp
        refine hK.out _ _ (HKK.out.2.1) ?_
        clear hK
        try simp only [Act.put, List.setIfInBounds_toArray, List.set_cons_zero, List.set_cons_succ]
        refine WalkT.twoL (i := 6) (j := 8) #[true, true, true, true, true, true, true, true, false, false, false, false, false] #[true, true, true, true, true, true, false, true, true, false, false, false, false] (by kernel_rfl) (by kernel_rfl) (by kernel_rfl) rfl rfl (fun K1 hK1 => ?_) (fun K1 hK1 => ?_)
        all_goals
          have hK := Lib.hid hK1
          clear hK1
        · skip
          refine step_append_dd (dd := some 134) rfl rfl (.tmp 129) (.tmp 133) 28 28 rfl _ _ (by simp [Act.eval]) (by simp [Act.eval]) HRA.out.1 ?_
          refine hK.out _ _ (HKK.out.2.2.2.2.2.1) ?_
          clear hK
          try simp only [Act.put, List.setIfInBounds_toArray, List.set_cons_zero, List.set_cons_succ]
          refine WalkT.oneL (i := 8) #[true, true, true, true, true, true, true, true, true, false, false, false, false] (by kernel_rfl) (by kernel_rfl) rfl (fun K1 hK1 => ?_)
          have hK := Lib.hid hK1
          clear hK1
          go_simp
          refine hK.out _ _ (HKK.out.2.2.2.2.2.2.1) ?_
          clear hK
          try simp only [Act.put, List.setIfInBounds_toArray, List.set_cons_zero, List.set_cons_succ]
          refine WalkT.oneL (i := 9) #[true, true, true, true, true, true, true, true, true, true, false, false, false] (by kernel_rfl) (by kernel_rfl) rfl (fun K1 hK1 => ?_)
          have hK := Lib.hid hK1
          clear hK1
          refine step_append_dd (dd := some 137) rfl rfl (.tmp 134) (.tmp 136) 28 28 rfl _ _ (by simp [Act.eval]) (by simp [Act.eval]) HRA.out.2 ?_
          refine hK.out _ _ (HKK.out.2.2.2.2.2.2.2.1) ?_
          clear hK
          try simp only [Act.put, List.setIfInBounds_toArray, List.set_cons_zero, List.set_cons_succ]
          refine WalkT.takeL2 (i := 10) 11 (some 138) #[true, true, true, true, true, true, true, true, true, true, true, false, false] (v := ?_) (by kernel_rfl) rfl rfl (by kernel_rfl) (by kernel_rfl) (by kernel_rfl) (by kernel_rfl) (by kernel_rfl) (by kernel_rfl) (fun _ _ _ h => h) (Or.inl ⟨by rfl, ?_⟩) HKK.out.2.2.2.2.2.2.2.1 ?_
          rotate_left
          · (intro w hSw; (try dsimp only at hSw); obtain ⟨t0, t1, t2, t3, t4, t5⟩ := hSw; go_simp; (try with_reducible rfl))
          try simp only [Act.put, List.setIfInBounds_toArray, List.set_cons_zero, List.set_cons_succ]
          refine WalkT.takeL (i := 11) (some 139) #[true, true, true, true, true, true, true, true, true, true, true, true, false] (v := ?_) (by kernel_rfl) rfl rfl (by kernel_rfl) (by kernel_rfl) (by kernel_rfl) (by kernel_rfl) (fun _ _ _ h => h) (Or.inl ⟨by rfl, ?_⟩) HKK.out.2.2.2.2.2.2.2.1 ?_
          rotate_left
          · (intro w hSw; (try dsimp only at hSw); obtain ⟨t0, t1, t2, t3, t4, t5⟩ := hSw; go_simp; (try with_reducible rfl))
          try simp only [Act.put, List.setIfInBounds_toArray, List.set_cons_zero, List.set_cons_succ]
          refine WalkT.oneSt #[true, true, true, true, true, true, true, true, true, true, true, true, true] (by kernel_rfl) (by kernel_rfl) rfl (fun K1 hK1 => ?_)
          have hK := Lib.hid hK1
          clear hK1
          go_wp2_with fail
          refine hK.out _ _ ?_
          clear hK
          try simp only [Act.put, List.setIfInBounds_toArray, List.set_cons_zero, List.set_cons_succ]
          refine WalkT.done (by kernel_rfl) ?_
          go_wp2_with fail
          go_ret
          rw [HP.out.1]
          exact ⟨rfl, HEA.out.2, s6a, t6a, HEA.out.1⟩
        · skip
          go_simp
          refine hK.out _ _ (HKK.out.2.2.2.1) ?_
          clear hK
          try simp only [Act.put, List.setIfInBounds_toArray, List.set_cons_zero, List.set_cons_succ]
          refine WalkT.oneL (i := 6) #[true, true, true, true, true, true, true, true, true, false, false, false, false] (by kernel_rfl) (by kernel_rfl) rfl (fun K1 hK1 => ?_)
          have hK := Lib.hid hK1
          clear hK1
          refine step_append_dd (dd := some 134) rfl rfl (.tmp 129) (.tmp 133) 28 28 rfl _ _ (by simp [Act.eval]) (by simp [Act.eval]) HRB.out.1 ?_
          refine hK.out _ _ (HKK.out.2.2.2.2.2.2.2.2.1) ?_
          clear hK
          try simp only [Act.put, List.setIfInBounds_toArray, List.set_cons_zero, List.set_cons_succ]
          refine WalkT.oneL (i := 9) #[true, true, true, true, true, true, true, true, true, true, false, false, false] (by kernel_rfl) (by kernel_rfl) rfl (fun K1 hK1 => ?_)
          have hK := Lib.hid hK1
          clear hK1
          refine step_append_dd (dd := some 137) rfl rfl (.tmp 134) (.tmp 136) 28 28 rfl _ _ (by simp [Act.eval]) (by simp [Act.eval]) HRB.out.2 ?_
          refine hK.out _ _ (HKK.out.2.2.2.2.2.2.2.2.2.1) ?_
          clear hK
          try simp only [Act.put, List.setIfInBounds_toArray, List.set_cons_zero, List.set_cons_succ]
          refine WalkT.takeL2 (i := 10) 11 (some 138) #[true, true, true, true, true, true, true, true, true, true, true, false, false] (v := ?_) (by kernel_rfl) rfl rfl (by kernel_rfl) (by kernel_rfl) (by kernel_rfl) (by kernel_rfl) (by kernel_rfl) (by kernel_rfl) (fun _ _ _ h => h) (Or.inl ⟨by rfl, ?_⟩) HKK.out.2.2.2.2.2.2.2.2.2.1 ?_
          rotate_left
          · (intro w hSw; (try dsimp only at hSw); obtain ⟨t0, t1, t2, t3, t4, t5⟩ := hSw; go_simp; (try with_reducible rfl))
          try simp only [Act.put, List.setIfInBounds_toArray, List.set_cons_zero, List.set_cons_succ]
          refine WalkT.takeL (i := 11) (some 139) #[true, true, true, true, true, true, true, true, true, true, true, true, false] (v := ?_) (by kernel_rfl) rfl rfl (by kernel_rfl) (by kernel_rfl) (by kernel_rfl) (by kernel_rfl) (fun _ _ _ h => h) (Or.inl ⟨by rfl, ?_⟩) HKK.out.2.2.2.2.2.2.2.2.2.1 ?_
          rotate_left
          · (intro w hSw; (try dsimp only at hSw); obtain ⟨t0, t1, t2, t3, t4, t5⟩ := hSw; go_simp; (try with_reducible rfl))
          try simp only [Act.put, List.setIfInBounds_toArray, List.set_cons_zero, List.set_cons_succ]
          refine WalkT.oneSt #[true, true, true, true, true, true, true, true, true, true, true, true, true] (by kernel_rfl) (by kernel_rfl) rfl (fun K1 hK1 => ?_)
          have hK := Lib.hid hK1
          clear hK1
          go_wp2_with fail
          refine hK.out _ _ ?_
          clear hK
          try simp only [Act.put, List.setIfInBounds_toArray, List.set_cons_zero, List.set_cons_succ]
          refine WalkT.done (by kernel_rfl) ?_
          go_wp2_with fail
          go_ret
          rw [HP.out.1]
          exact ⟨rfl, HEB.out.2, s6b, t6b, HEB.out.1⟩
      · -- the new one first
        go_simp
        refine hK.out _ _ (HKK.out.2.2.1) ?_
        clear hK
        try simp only [Act.put, List.setIfInBounds_toArray, List.set_cons_zero, List.set_cons_succ]
        refine WalkT.oneL (i := 1) #[true, true, true, true, true, true, false, true, true, false, false, false, false] (by kernel_rfl) (by kernel_rfl) rfl (fun K1 hK1 => ?_)
        have hK := Lib.hid hK1
        clear hK1
        go_simp
        refine hK.out _ _ (HKK.out.2.2.2.2.1) ?_
        clear hK
        try simp only [Act.put, List.setIfInBounds_toArray, List.set_cons_zero, List.set_cons_succ]
        refine WalkT.oneL (i := 6) #[true, true, true, true, true, true, true, true, true, false, false, false, false] (by kernel_rfl) (by kernel_rfl) rfl (fun K1 hK1 => ?_)
        have hK := Lib.hid hK1
        clear hK1
        refine step_append_dd (dd := some 134) rfl rfl (.tmp 129) (.tmp 133) 28 28 rfl _ _ (by simp [Act.eval]) (by simp [Act.eval]) HRC.out.1 ?_
        refine hK.out _ _ (HKK.out.2.2.2.2.2.2.2.2.2.2.1) ?_
        clear hK
        try simp only [Act.put, List.setIfInBounds_toArray, List.set_cons_zero, List.set_cons_succ]
        refine WalkT.oneL (i := 9) #[true, true, true, true, true, true, true, true, true, true, false, false, false] (by kernel_rfl) (by kernel_rfl) rfl (fun K1 hK1 => ?_)
        have hK := Lib.hid hK1
        clear hK1
        refine step_append_dd (dd := some 137) rfl rfl (.tmp 134) (.tmp 136) 28 28 rfl _ _ (by simp [Act.eval]) (by simp [Act.eval]) HRC.out.2 ?_
        refine hK.out _ _ (HKK.out.2.2.2.2.2.2.2.2.2.2.2) ?_
        clear hK
        try simp only [Act.put, List.setIfInBounds_toArray, List.set_cons_zero, List.set_cons_succ]
        refine WalkT.takeL2 (i := 10) 11 (some 138) #[true, true, true, true, true, true, true, true, true, true, true, false, false] (v := ?_) (by kernel_rfl) rfl rfl (by kernel_rfl) (by kernel_rfl) (by kernel_rfl) (by kernel_rfl) (by kernel_rfl) (by kernel_rfl) (fun _ _ _ h => h) (Or.inl ⟨by rfl, ?_⟩) HKK.out.2.2.2.2.2.2.2.2.2.2.2 ?_
        rotate_left
        · (intro w hSw; (try dsimp only at hSw); obtain ⟨t0, t1, t2, t3, t4, t5⟩ := hSw; go_simp; (try with_reducible rfl))
        try simp only [Act.put, List.setIfInBounds_toArray, List.set_cons_zero, List.set_cons_succ]
        refine WalkT.takeL (i := 11) (some 139) #[true, true, true, true, true, true, true, true, true, true, true, true, false] (v := ?_) (by kernel_rfl) rfl rfl (by kernel_rfl) (by kernel_rfl) (by kernel_rfl) (by kernel_rfl) (fun _ _ _ h => h) (Or.inl ⟨by rfl, ?_⟩) HKK.out.2.2.2.2.2.2.2.2.2.2.2 ?_
        rotate_left
        · (intro w hSw; (try dsimp only at hSw); obtain ⟨t0, t1, t2, t3, t4, t5⟩ := hSw; go_simp; (try with_reducible rfl))
        try simp only [Act.put, List.setIfInBounds_toArray, List.set_cons_zero, List.set_cons_succ]
        refine WalkT.oneSt #[true, true, true, true, true, true, true, true, true, true, true, true, true] (by kernel_rfl) (by kernel_rfl) rfl (fun K1 hK1 => ?_)
        have hK := Lib.hid hK1
        clear hK1
        go_wp2_with fail
        refine hK.out _ _ ?_
        clear hK
        try simp only [Act.put, List.setIfInBounds_toArray, List.set_cons_zero, List.set_cons_succ]
        refine WalkT.done (by kernel_rfl) ?_
        go_wp2_with fail
        go_ret
        rw [HP.out.1]
        exact ⟨rfl, HEC.out.2, s6c, t6c, HEC.out.1⟩
end Go.Proofs.Ytocahiifeckogaa
