/- A call of the statements on both tables (layer 18): does; alive. Its condition: the program's contracts. -/
import Derived.Test.YtocahiifeckogaaFbIs
import Derived.Deep.RegionHeld3
namespace Go.Proofs.Ytocahiifeckogaa
open Go.RowKit
set_option maxRecDepth 100000

/-- Are the answers the same? -/
def ansB (s d : Dt) (c : Kc) : Bool := if c.k = 0 then decide ((learnS s c.v c.m c.p c.n).2 = (learnD d c.v c.m c.p c.n).2) else if c.k = 1 then decide ((fixS s c.v c.m c.p).2 = (fixD d c.v c.m c.p).2) else if c.k = 2 then decide ((dropD s c.v c.m).2 = (dropD d c.v c.m).2) else true
theorem ans_rel {s d : Dt} (h : Rel s d) (c : Kc) : ansB s d c = true := by
  unfold ansB
  repeat' split
  · exact decide_eq_true (h.learn _ _ _ _).2
  · exact decide_eq_true (h.fix _ _ _).2
  · exact decide_eq_true (h.drop _ _).2
  · rfl
section
variable {Pt : World → Nat → (Nat → Prop) → Nat → Dt → Prop}
/-- What a call on both leaves. -/
def Both (Pt : World → Nat → (Nat → Prop) → Nat → Dt → Prop) (w w' : World) (B : Nat) (Ft Fd : Nat → Prop) (gt gd : Nat) (s d : Dt) : Prop :=
  ∃ (Ft' Fd' : Nat → Prop) (A' : Option Addr) (c' : Nat), Pt w' B Ft' gt s ∧ DtAt w' B Fd' gd d A' c' ∧ (∀ k, Ft' k → ¬ Fd' k) ∧ Touch (fun k => Ft k ∨ Fd k) w w' ∧ (∀ k, Ft' k → Ft k ∨ w.heap.size ≤ k) ∧ (∀ k, Fd' k → Fd k ∨ w.heap.size ≤ k)
theorem touch_or_l {F G : Nat → Prop} {w w' : World} (h : Touch F w w') : Touch (fun k => F k ∨ G k) w w' := h.mono fun _ _ hk => .inl hk
theorem touch_or_r {F G : Nat → Prop} {w w' : World} (h : Touch G w w') : Touch (fun k => F k ∨ G k) w w' := h.mono fun _ _ hk => .inr hk
/-- Behind the program's call, and then behind the document's. -/
theorem both_end (H : FdbIs Pt) {w w1 w2 w3 : World} {B gt gd : Nat} {Ft Fd : Nat → Prop} {d s' d' : Dt} {A A' : Option Addr} {c c' : Nat} (hb : Below w.heap.size w w1) (hFt : ∀ k, Ft k → B ≤ k ∧ k < w.heap.size) (hd : DtAt w B Fd gd d A c) (disj : ∀ k, Ft k → ¬ Fd k)
    (t1 : Touch Ft w1 w2) (p1 : Pt w2 B (grow Ft w1 w2) gt s') (t2 : Touch Fd w2 w3) (d2 : DtAt w3 B (grow Fd w2 w3) gd d' A' c') : Both Pt w w3 B Ft Fd gt gd s' d' := by
  refine ⟨grow Ft w1 w2, grow Fd w2 w3, A', c', H.keep p1 t2 ?_, d2, ?_, ((below_touch hb (fun k => Ft k ∨ Fd k)).trans (touch_or_l t1)).trans (touch_or_r t2), ?_, ?_⟩
  · intro k hk hg
    rcases hg with hg | hg
    · exact disj k hg hk
    · have := (hd.lo k hk).2
      have := hb.size
      omega
  · intro k hk hg
    rcases hk with hk | hk
    · rcases hg with hg | hg
      · exact disj k hk hg
      · have := (hFt k hk).2
        have := hb.size
        have := t1.size
        omega
    · rcases hg with hg | hg
      · have := (hd.lo k hg).2
        have := hb.size
        omega
      · omega
  · intro k hk
    rcases hk with hk | hk
    · exact .inl hk
    · have := hb.size
      exact .inr (by omega)
  · intro k hk
    rcases hk with hk | hk
    · exact .inl hk
    · have := hb.size
      have := t1.size
      exact .inr (by omega)
theorem both_mid {w1 w2 : World} {B gd : Nat} {Ft Fd : Nat → Prop} {d : Dt} {A : Option Addr} {c : Nat} (hd : DtAt w1 B Fd gd d A c) (disj : ∀ k, Ft k → ¬ Fd k) (t1 : Touch Ft w1 w2) : DtAt w2 B Fd gd d A c := hd.keep t1 disj
/- does: -/
set_option maxHeartbeats 8000000 in
theorem does_any (H : FdbIs Pt) {w : World} {B gt gd cc : Nat} {Ft Fd : Nat → Prop} {s d : Dt} {A : Option Addr} (hp : Pt w B Ft gt s) (hd : DtAt w B Fd gd d A cc) (disj : ∀ q, Ft q → ¬ Fd q) (hs : Srt s.l) (hf : Few s) (hl : d.l.length ≤ 1000) (c : Kc) (hn : 0 ≤ c.n ∧ c.n ≤ 1099511627776) :
    Calls Try.prog 9 #[.pointer (some ⟨gt, 0, none⟩), .pointer (some ⟨gd, 0, none⟩), .agg c.cells.toArray] w fun e w' => e = .returned (.bool (ansB s d c)) ∧ Both Pt w w' B Ft Fd gt gd (doesS s c) (doesD d c) := by
  obtain ⟨k, v, m, p, n⟩ := c
  show Calls _ _ #[_, _, .agg #[.int .i64 k, .int .i64 v, .int .i64 m, .int .i64 p, .int .i64 n]] w _
  have bx := bel_alloc w (.cells #[.int .i64 k, .int .i64 v, .int .i64 m, .int .i64 p, .int .i64 n] 32)
  have kx := Blk.new w 32 #[.int .i64 k, .int .i64 v, .int .i64 m, .int .i64 p, .int .i64 n]
  have HBX := Lib.hid (show Below w.heap.size w (w.alloc (.cells #[.int .i64 k, .int .i64 v, .int .i64 m, .int .i64 p, .int .i64 n] 32)).drew from bx.drew)
  have HBX0 := Lib.hid bx
  have HKX := Lib.hid kx
  have HFT := Lib.hid (H.lo hp).2
  have HDD := Lib.hid hd
  have HDIS := Lib.hid disj
  have HSF := Lib.hid (And.intro hs hf)
  have HN := Lib.hid (show 0 ≤ n ∧ n ≤ 1099511627776 from hn)
  have HLD := Lib.hid hl
  have HPT := Lib.hid (H.keep hp (below_touch HBX.out noF) (fun q hq => hq.elim))
  have HPT0 := Lib.hid (H.keep hp (below_touch bx noF) (fun q hq => hq.elim))
  have HDW := Lib.hid (hd.below HBX.out)
  have HDW0 := Lib.hid (hd.below bx)
  have HKE := Lib.hid (fun (V : World) (hV : Touch (fun q => Ft q ∨ Fd q) (w.alloc (.cells #[.int .i64 k, .int .i64 v, .int .i64 m, .int .i64 p, .int .i64 n] 32)).drew V) => (show V.cell? ⟨w.heap.size, 0, none⟩ = some (.int .i64 k) ∧ V.cell? ⟨w.heap.size, 1, none⟩ = some (.int .i64 v) ∧ V.cell? ⟨w.heap.size, 2, none⟩ = some (.int .i64 m) ∧ V.cell? ⟨w.heap.size, 3, none⟩ = some (.int .i64 p) ∧ V.cell? ⟨w.heap.size, 4, none⟩ = some (.int .i64 n) from by
    have hk := Blk.touch (show Blk (w.alloc (.cells #[.int .i64 k, .int .i64 v, .int .i64 m, .int .i64 p, .int .i64 n] 32)).drew w.heap.size 32 #[.int .i64 k, .int .i64 v, .int .i64 m, .int .i64 p, .int .i64 n] from HKX.out) hV (by
      rintro (q | q)
      · have := (HFT.out _ q).2; omega
      · have := (HDD.out.lo _ q).2; omega)
    exact ⟨hk.cell 0, hk.cell 1, hk.cell 2, hk.cell 3, hk.cell 4⟩))
  have s0 := HKE.out _ (Touch.refl _ _)
  have z0 := kx.cell 0
  clear hp hd disj hs hf hl hn bx kx
  by_cases k0 : k = 0
  · subst k0
    go_enter Try.func9, Try.ntmps9
    have HT := Lib.hid (H.learn v m p n HPT.out HSF.out.1 HSF.out.2 HN.out)
    have HANS := Lib.hid (show ansB s d ⟨0, v, m, p, n⟩ = decide ((learnS s v m p n).2 = (learnD d v m p n).2) from if_pos rfl)
    have HS2 := Lib.hid (show doesS s ⟨0, v, m, p, n⟩ = (learnS s v m p n).1 ∧ doesD d ⟨0, v, m, p, n⟩ = (learnD d v m p n).1 from ⟨rfl, rfl⟩)
    go_wp2_with fail
    go_region_held3 (fun w' => w'.cell? ⟨w.heap.size, 0, none⟩ = some (.int .i64 0) ∧ w'.cell? ⟨w.heap.size, 1, none⟩ = some (.int .i64 v) ∧ w'.cell? ⟨w.heap.size, 2, none⟩ = some (.int .i64 m) ∧ w'.cell? ⟨w.heap.size, 3, none⟩ = some (.int .i64 p) ∧ w'.cell? ⟨w.heap.size, 4, none⟩ = some (.int .i64 n))
      (first
        | (with_reducible exact s0)
        | (with_reducible exact s1)
        | (with_reducible exact s2)
        | fail)
      (first
        | (go_at_call 16; (with_reducible (refine HT.out.mono ?_)); rintro e w1 ⟨rfl, t1, p1⟩; have s1 := HKE.out w1 (touch_or_l t1); have HD := Lib.hid (dlearn_any (both_mid HDW.out HDIS.out t1) HLD.out v m p n))
        | (go_at_call 19; (with_reducible (refine HD.out.mono ?_)); rintro e w2 ⟨rfl, t2, A2, c2, d2⟩; have s2 := HKE.out w2 ((touch_or_l t1).trans (touch_or_r t2))))
    have HE := Lib.hid (both_end H HBX.out HFT.out HDD.out HDIS.out t1 p1 t2 d2)
    clear s0 s1 s2 t1 p1 t2 d2 HD
    go_wp2_with fail
    go_ret
    rw [HS2.out.1, HS2.out.2, HANS.out]
    exact ⟨rfl, HE.out⟩
  by_cases k1 : k = 1
  · subst k1
    clear k0
    go_enter Try.func9, Try.ntmps9
    have HT := Lib.hid (H.fix v m p HPT.out HSF.out.1 HSF.out.2)
    have HANS := Lib.hid (show ansB s d ⟨1, v, m, p, n⟩ = decide ((fixS s v m p).2 = (fixD d v m p).2) from rfl)
    have HS2 := Lib.hid (show doesS s ⟨1, v, m, p, n⟩ = (fixS s v m p).1 ∧ doesD d ⟨1, v, m, p, n⟩ = (fixD d v m p).1 from ⟨rfl, rfl⟩)
    go_wp2_with fail
    go_region_held3 (fun w' => w'.cell? ⟨w.heap.size, 0, none⟩ = some (.int .i64 1) ∧ w'.cell? ⟨w.heap.size, 1, none⟩ = some (.int .i64 v) ∧ w'.cell? ⟨w.heap.size, 2, none⟩ = some (.int .i64 m) ∧ w'.cell? ⟨w.heap.size, 3, none⟩ = some (.int .i64 p) ∧ w'.cell? ⟨w.heap.size, 4, none⟩ = some (.int .i64 n))
      (first
        | (with_reducible exact s0)
        | (with_reducible exact s1)
        | (with_reducible exact s2)
        | fail)
      (first
        | (go_at_call 17; (with_reducible (refine HT.out.mono ?_)); rintro e w1 ⟨rfl, t1, p1⟩; have s1 := HKE.out w1 (touch_or_l t1); have HD := Lib.hid (dfix_any (both_mid HDW.out HDIS.out t1) HLD.out v m p))
        | (go_at_call 20; (with_reducible (refine HD.out.mono ?_)); rintro e w2 ⟨rfl, t2, A2, c2, d2⟩; have s2 := HKE.out w2 ((touch_or_l t1).trans (touch_or_r t2))))
    have HE := Lib.hid (both_end H HBX.out HFT.out HDD.out HDIS.out t1 p1 t2 d2)
    clear s0 s1 s2 t1 p1 t2 d2 HD
    go_wp2_with fail
    go_ret
    rw [HS2.out.1, HS2.out.2, HANS.out]
    exact ⟨rfl, HE.out⟩
  by_cases k2 : k = 2
  · subst k2
    clear k0 k1
    go_enter Try.func9, Try.ntmps9
    have HT := Lib.hid (H.drop v m HPT.out HSF.out.1 HSF.out.2)
    have HANS := Lib.hid (show ansB s d ⟨2, v, m, p, n⟩ = decide ((dropD s v m).2 = (dropD d v m).2) from rfl)
    have HS2 := Lib.hid (show doesS s ⟨2, v, m, p, n⟩ = (dropD s v m).1 ∧ doesD d ⟨2, v, m, p, n⟩ = (dropD d v m).1 from ⟨rfl, rfl⟩)
    go_wp2_with fail
    go_region_held3 (fun w' => w'.cell? ⟨w.heap.size, 0, none⟩ = some (.int .i64 2) ∧ w'.cell? ⟨w.heap.size, 1, none⟩ = some (.int .i64 v) ∧ w'.cell? ⟨w.heap.size, 2, none⟩ = some (.int .i64 m) ∧ w'.cell? ⟨w.heap.size, 3, none⟩ = some (.int .i64 p) ∧ w'.cell? ⟨w.heap.size, 4, none⟩ = some (.int .i64 n))
      (first
        | (with_reducible exact s0)
        | (with_reducible exact s1)
        | (with_reducible exact s2)
        | fail)
      (first
        | (go_at_call 18; (with_reducible (refine HT.out.mono ?_)); rintro e w1 ⟨rfl, t1, p1⟩; have s1 := HKE.out w1 (touch_or_l t1); have HD := Lib.hid (ddrop_any (both_mid HDW.out HDIS.out t1) HLD.out v m))
        | (go_at_call 21; (with_reducible (refine HD.out.mono ?_)); rintro e w2 ⟨rfl, t2, A2, c2, d2⟩; have s2 := HKE.out w2 ((touch_or_l t1).trans (touch_or_r t2))))
    have HE := Lib.hid (both_end H HBX.out HFT.out HDD.out HDIS.out t1 p1 t2 d2)
    clear s0 s1 s2 t1 p1 t2 d2 HD
    go_wp2_with fail
    go_ret
    rw [HS2.out.1, HS2.out.2, HANS.out]
    exact ⟨rfl, HE.out⟩
  have k0b : (k == 0) = false := by simpa using k0
  have k1b : (k == 1) = false := by simpa using k1
  have k2b : (k == 2) = false := by simpa using k2
  have HA := Lib.hid (show ansB s d ⟨k, v, m, p, n⟩ = true from by
    unfold ansB
    simp only
    rw [if_neg k0, if_neg k1, if_neg k2])
  have hds : ∀ q : Dt, doesS q ⟨k, v, m, p, n⟩ = (if k = 3 then keepD q 0 n else if k = 4 then flushK q p else q) := fun q => by
    unfold doesS
    simp only
    rw [if_neg k0, if_neg k1, if_neg k2]
  have hdd : ∀ q : Dt, doesD q ⟨k, v, m, p, n⟩ = (if k = 3 then keepD q 0 n else if k = 4 then flushK q p else q) := fun q => by
    unfold doesD
    simp only
    rw [if_neg k0, if_neg k1, if_neg k2]
  have HKE0 := Lib.hid (fun (V : World) (hV : Touch (fun q => Ft q ∨ Fd q) (w.alloc (.cells #[.int .i64 k, .int .i64 v, .int .i64 m, .int .i64 p, .int .i64 n] 32)) V) => (show V.cell? ⟨w.heap.size, 0, none⟩ = some (.int .i64 k) ∧ V.cell? ⟨w.heap.size, 1, none⟩ = some (.int .i64 v) ∧ V.cell? ⟨w.heap.size, 2, none⟩ = some (.int .i64 m) ∧ V.cell? ⟨w.heap.size, 3, none⟩ = some (.int .i64 p) ∧ V.cell? ⟨w.heap.size, 4, none⟩ = some (.int .i64 n) from by
    have hk := Blk.touch (show Blk (w.alloc (.cells #[.int .i64 k, .int .i64 v, .int .i64 m, .int .i64 p, .int .i64 n] 32)) w.heap.size 32 #[.int .i64 k, .int .i64 v, .int .i64 m, .int .i64 p, .int .i64 n] from HKX.out) hV (by
      rintro (q | q)
      · have := (HFT.out _ q).2; omega
      · have := (HDD.out.lo _ q).2; omega)
    exact ⟨hk.cell 0, hk.cell 1, hk.cell 2, hk.cell 3, hk.cell 4⟩))
  by_cases k3 : k = 3
  · have HDS := Lib.hid (And.intro ((hds s).trans (if_pos k3)) ((hdd d).trans (if_pos k3)))
    have k3b : (k == 3) = true := by simpa using k3
    have HT := Lib.hid (H.age n HPT0.out HSF.out.1 HSF.out.2 HN.out)
    obtain ⟨z0, z1, z2, z3, z4⟩ := HKE0.out _ (Touch.refl _ _)
    clear k0 k1 k2 k3 hds hdd s0
    go_enter Try.func9, Try.ntmps9
    go_wp2_with fail
    refine HT.out.mono ?_
    rintro e w1 ⟨rfl, t1, p1⟩
    obtain ⟨y0, y1, y2, y3, y4⟩ := HKE0.out w1 (touch_or_l t1)
    have HD := Lib.hid (dkeep_any (both_mid HDW0.out HDIS.out t1) HLD.out 0 n)
    have HT1 := Lib.hid (And.intro t1 p1)
    clear z0 z1 z2 z3 z4 t1 p1
    go_wp2_with fail
    refine HD.out.mono ?_
    rintro e w2 ⟨rfl, t2, A2, c2, d2⟩
    have HE := Lib.hid (both_end H HBX0.out HFT.out HDD.out HDIS.out HT1.out.1 HT1.out.2 t2 d2)
    clear y0 y1 y2 y3 y4 t2 d2
    go_wp2_with fail
    go_ret
    rw [HDS.out.1, HDS.out.2]
    exact ⟨ret_bool HA.out.symm, HE.out⟩
  · have k3b : (k == 3) = false := by simpa using k3
    by_cases k4 : k = 4
    · have HDS := Lib.hid (And.intro ((hds s).trans ((if_neg k3).trans (if_pos k4))) ((hdd d).trans ((if_neg k3).trans (if_pos k4))))
      have k4b : (k == 4) = true := by simpa using k4
      have HT := Lib.hid (H.flush p HPT0.out HSF.out.1 HSF.out.2)
      obtain ⟨z0, z1, z2, z3, z4⟩ := HKE0.out _ (Touch.refl _ _)
      clear k0 k1 k2 k3 k4 hds hdd s0
      go_enter Try.func9, Try.ntmps9
      go_wp2_with fail
      refine HT.out.mono ?_
      rintro e w1 ⟨rfl, t1, p1⟩
      obtain ⟨y0, y1, y2, y3, y4⟩ := HKE0.out w1 (touch_or_l t1)
      have HD := Lib.hid (fun kk nn => dkeep_any (both_mid HDW0.out HDIS.out t1) HLD.out kk nn)
      have HT1 := Lib.hid (And.intro t1 p1)
      clear z0 z1 z2 z3 z4 t1 p1
      by_cases hp : p < 0
      · have HFK := Lib.hid (show flushK d p = keepD d 2 0 from if_pos hp)
        go_wp2_with fail
        refine (HD.out 2 0).mono ?_
        rintro e w2 ⟨rfl, t2, A2, c2, d2⟩
        have HE := Lib.hid (both_end H HBX0.out HFT.out HDD.out HDIS.out HT1.out.1 HT1.out.2 t2 d2)
        clear y0 y1 y2 y3 y4 t2 d2
        go_wp2_with fail
        go_ret
        rw [HDS.out.1, HDS.out.2, HFK.out]
        exact ⟨ret_bool HA.out.symm, HE.out⟩
      · have HFK := Lib.hid (show flushK d p = keepD d 1 p from if_neg hp)
        go_wp2_with fail
        refine (HD.out 1 p).mono ?_
        rintro e w2 ⟨rfl, t2, A2, c2, d2⟩
        have HE := Lib.hid (both_end H HBX0.out HFT.out HDD.out HDIS.out HT1.out.1 HT1.out.2 t2 d2)
        clear y0 y1 y2 y3 y4 t2 d2
        go_wp2_with fail
        go_ret
        rw [HDS.out.1, HDS.out.2, HFK.out]
        exact ⟨ret_bool HA.out.symm, HE.out⟩
    · have HDS := Lib.hid (And.intro ((hds s).trans ((if_neg k3).trans (if_neg k4))) ((hdd d).trans ((if_neg k3).trans (if_neg k4))))
      have k4b : (k == 4) = false := by simpa using k4
      have HE := Lib.hid (show Both Pt w (w.alloc (.cells #[.int .i64 k, .int .i64 v, .int .i64 m, .int .i64 p, .int .i64 n] 32)) B Ft Fd gt gd s d from ⟨Ft, Fd, A, cc, HPT0.out, HDW0.out, HDIS.out, below_touch HBX0.out _, fun _ h => .inl h, fun _ h => .inl h⟩)
      clear k0 k1 k2 k3 k4 hds hdd s0
      go_enter Try.func9, Try.ntmps9
      go_wp2_with fail
      go_ret
      rw [HDS.out.1, HDS.out.2]
      exact ⟨ret_bool HA.out.symm, HE.out⟩
end
end Go.Proofs.Ytocahiifeckogaa
