/- With something wrong in the part of a type what the parts ahead of it say is read, and nothing else. No condition. -/
import Derived.Test.YtoigapanhbmjlaaFrame
import Derived.Test.YtoigapanhbmjlaaMPdu
import Derived.Test.YtoigapanhbmjlaaMrPush
namespace Go.Proofs.Ytoigapanhbmjlaa
open Go.RowKit Go.ChangeShapes Go.WideShapes

theorem two_blk (w : World) (g : Nat) (k : Nat) (hk : k < 256) (hb : Blk w g 5 #[.int .u8 (k : Int), .int .u8 9]) : (convert 44 9 (.slice (some ⟨g, 0, none⟩) 2 2)).run Try.prog w = .ok (.string ⟨#[UInt8.ofNat k, 9]⟩) w := by
  refine run_convert_bytes_back _ 44 9 5 ⟨g, 0, none⟩ 2 [UInt8.ofNat k, 9] Try.underlying44 Try.underlying5 Try.underlying9 fun j hj => ?_
  rw [Addr.add_lit, Nat.zero_add, hb.cell]
  have h2 : j = 0 ∨ j = 1 := by simp at hj; omega
  rcases h2 with rfl | rfl
  · show some (Value.int .u8 (k : Int)) = some (Value.int .u8 ((UInt8.ofNat k).toNat : Int))
    rw [UInt8.toNat_ofNat', Nat.mod_eq_of_lt hk]
  · rfl
theorem two_bytes (w : World) (k : Nat) (hk : k < 256) : (convert 44 9 (.slice (some ⟨w.heap.size, 0, none⟩) 2 2)).run Try.prog (w.alloc (.cells #[.int .u8 (k : Int), .int .u8 9] 5)).drew = .ok (.string ⟨#[UInt8.ofNat k, 9]⟩) (w.alloc (.cells #[.int .u8 (k : Int), .int .u8 9] 5)).drew :=
  two_blk _ _ k hk (Blk.new w 5 #[.int .u8 (k : Int), .int .u8 9]).drew
theorem two_bytes3 (w : World) (o : Obj) (k : Nat) (hk : k < 256) : (convert 44 9 (.slice (some ⟨w.heap.size, 0, none⟩) 2 2)).run Try.prog ((w.alloc (.cells #[.int .u8 (k : Int), .int .u8 9] 5)).alloc o).drew = .ok (.string ⟨#[UInt8.ofNat k, 9]⟩) ((w.alloc (.cells #[.int .u8 (k : Int), .int .u8 9] 5)).alloc o).drew :=
  two_blk _ _ k hk ((Blk.new w 5 #[.int .u8 (k : Int), .int .u8 9]).alloc o).drew
theorem two_bytes' (w : World) (o : Obj) (k : Nat) (hk : k < 256) : (convert 44 9 (.slice (some ⟨w.heap.size + 1, 0, none⟩) 2 2)).run Try.prog ((w.alloc o).alloc (.cells #[.int .u8 (k : Int), .int .u8 9] 5)).drew = .ok (.string ⟨#[UInt8.ofNat k, 9]⟩) ((w.alloc o).alloc (.cells #[.int .u8 (k : Int), .int .u8 9] 5)).drew := by
  have h := two_bytes (w.alloc o) k hk
  rw [show (w.alloc o).heap.size = w.heap.size + 1 by simp] at h
  exact h
theorem zblk (w : World) (o : Obj) (t : TypeId) (cs : Array Value) : Blk ((w.alloc o).alloc (.cells cs t)) (w.heap.size + 1) t cs := by
  have h := Blk.new (w.alloc o) t cs
  rw [show (w.alloc o).heap.size = w.heap.size + 1 by simp] at h
  exact h
theorem IntsAt.slices {w : World} {B g : Nat} {A : Option Addr} {l : List Int} {t : TypeId} {a a' : Option Addr} {n c n' c' : Nat} (h : IntsAt w B A l) (hb : Blk w g t #[.slice a n c, .slice a' n' c']) (i : Nat) (v : Value) : IntsAt (w.setCell ⟨g, i, none⟩ v) B A l := fun k hk => by
  obtain ⟨b, off, e, hl, hc⟩ := h k hk
  refine ⟨b, off, e, hl, (World.cell?_of_block (Below.heap_setCell w ⟨g, i, none⟩ v b (fun e2 => ?_))).trans hc⟩
  subst e2
  rw [hb.cell] at hc
  match hh : off + k with
  | 0 => rw [hh] at hc; cases hc
  | 1 => rw [hh] at hc; cases hc
  | z + 2 => rw [hh] at hc; simp at hc
theorem WordsAt.slices {w : World} {B g : Nat} {A : Option Addr} {l : List Wd} {t : TypeId} {a a' : Option Addr} {n c n' c' : Nat} (h : WordsAt w B A l) (hb : Blk w g t #[.slice a n c, .slice a' n' c']) (i : Nat) (v : Value) : WordsAt (w.setCell ⟨g, i, none⟩ v) B A l := fun k hk => by
  obtain ⟨b, off, e, hl, h0, h1, h2, h3⟩ := h k hk
  have hne : b ≠ g := fun e2 => by
    subst e2
    rw [hb.cell] at h0
    match hh : off + k * 4 with
    | 0 => rw [hh] at h0; cases h0
    | 1 => rw [hh] at h0; cases h0
    | z + 2 => rw [hh] at h0; simp at h0
  have hf : ∀ o, (w.setCell ⟨g, i, none⟩ v).cell? ⟨b, o, none⟩ = w.cell? ⟨b, o, none⟩ := fun o => World.cell?_of_block (Below.heap_setCell w ⟨g, i, none⟩ v b hne)
  exact ⟨b, off, e, hl, (hf _).trans h0, (hf _).trans h1, (hf _).trans h2, (hf _).trans h3⟩
theorem bel1 (u : World) (o : Obj) : Below u.heap.size u (u.alloc o).drew := ((Below.refl _ u).alloc (Nat.le_refl _) o).drew
theorem bel2 (u : World) (o o2 : Obj) : Below u.heap.size u ((u.alloc o).alloc o2).drew := (((Below.refl _ u).alloc (Nat.le_refl _) o).alloc (by simp) o2).drew
/-- What is known where a message was read into a block of its own. -/
def FinW (u7 Wf : World) (xb : Nat) (v0 v1 : Value) (R R' : Option Addr) (l : List Int) (ws : List Wd) : Prop :=
  Below u7.heap.size u7 Wf ∧ Blk Wf xb 25 #[v0, v1] ∧ IntsAt Wf Wf.heap.size R l ∧ WordsAt Wf Wf.heap.size R' ws
theorem fin_new {u7 u8 X : World} {R R' : Option Addr} {l : List Int} {ws : List Wd} (bX : Below u7.heap.size u7 X) (b8 : Below X.heap.size X u8) (hR : IntsAt u8 u8.heap.size R l) (hR' : WordsAt u8 u8.heap.size R' ws) (v0 v1 : Value) :
    ∃ Wf, Wf = u8.alloc (.cells #[v0, v1] 25) ∧ FinW u7 Wf u8.heap.size v0 v1 R R' l ws := by
  have b := bX.trans (b8.mono bX.size)
  have hb := bel_alloc u8 (.cells #[v0, v1] 25)
  exact ⟨_, rfl, b.alloc b.size _, Blk.new _ _ _, (hR.below hb).more hb.size, (hR'.below hb).more hb.size⟩
theorem fin_old {u7 u8 X : World} {R R' : Option Addr} {l : List Int} {ws : List Wd} {xb : Nat} (bX : Below u7.heap.size u7 X) (b8 : Below X.heap.size X u8) (hb8 : Blk u8 xb 25 #[.slice none 0 0, .slice none 0 0]) (hx : u7.heap.size ≤ xb) (hR : IntsAt u8 u8.heap.size R l) (hR' : WordsAt u8 u8.heap.size R' ws) (n n' r r' : Nat) :
    ∃ Wf, Wf = (u8.setCell ⟨xb, 0, none⟩ (.slice R n r)).setCell ⟨xb, 1, none⟩ (.slice R' n' r') ∧ FinW u7 Wf xb (.slice R n r) (.slice R' n' r') R R' l ws := by
  have b := bX.trans (b8.mono bX.size)
  have h1 : Blk (u8.setCell ⟨xb, 0, none⟩ (.slice R n r)) xb 25 #[.slice R n r, .slice none 0 0] := Blk.set_ hb8 0 _
  have hsz : ((u8.setCell ⟨xb, 0, none⟩ (.slice R n r)).setCell ⟨xb, 1, none⟩ (.slice R' n' r')).heap.size = u8.heap.size := by simp [World.setCell]
  refine ⟨_, rfl, (b.setCell hx _).setCell hx _, Blk.set_ h1 1 _, ?_, ?_⟩
  · rw [hsz]; exact (hR.slices hb8 0 _).slices h1 1 _
  · rw [hsz]; exact (hR'.slices hb8 0 _).slices h1 1 _
set_option maxRecDepth 100000 in
set_option maxHeartbeats 8000000 in
theorem walkMrpduWrong (A A' : Option Addr) (c c' : Nat) (m : Msg) (kd : Int) (w : World) (hA : IntsAt w w.heap.size A m.all) (hA' : WordsAt w w.heap.size A' m.ws) (_hc : m.ws.length ≤ c') (_hkd : (Lit.int .i64 kd).wf = true) :
    Calls Try.prog 6 #[.agg #[.slice A m.all.length c, .slice A' m.ws.length c'], .int .i64 kd] w fun e w' => e = .returned (.bool true) ∧ Below w.heap.size w w' := by
  have z0 := Blk.new w 25 #[.slice A m.all.length c, .slice A' m.ws.length c']
  have bel := bel_alloc w (.cells #[.slice A m.all.length c, .slice A' m.ws.length c'] 25)
  obtain ⟨a, ha⟩ : ∃ a, m.all.length = a := ⟨_, rfl⟩
  obtain ⟨b, hb⟩ : ∃ a, m.ws.length = a := ⟨_, rfl⟩
  rw [ha, hb] at z0 bel
  rw [ha, hb]
  obtain ⟨g1, hg1⟩ : ∃ g, greatB a b = g := ⟨_, rfl⟩
  have HGR : ∀ w, Calls Try.prog 10 #[.agg #[.slice A a c, .slice A' b c']] w fun e w' => e = .returned (.bool g1) ∧ Below w.heap.size w w' := fun w => by rw [← hg1]; exact great_any _ _ _ _ _ _ _
  cases g1 with
  | true =>
    clear hA hA' _hc
    go_enter Try.func6, Try.ntmps6
    go_wp2_with fail
    refine (alive_any _).mono ?_
    rintro e u1 ⟨rfl, bb⟩
    replace z0 := z0.below bb z0.lt
    replace bel := bel.trans (bb.mono bel.size)
    clear bb
    have q0 : u1.cell? ⟨w.heap.size, 0, none⟩ = some (.slice A a c) := z0.cell 0
    have q1 : u1.cell? ⟨w.heap.size, 1, none⟩ = some (.slice A' b c') := z0.cell 1
    go_wp2_with fail
    refine (HGR _).mono ?_
    rintro e u2 ⟨rfl, bb⟩
    clear q0 q1
    replace z0 := z0.below bb z0.lt
    replace bel := bel.trans (bb.mono bel.size)
    clear bb
    go_wp2_with fail
    go_ret
    exact ⟨rfl, bel⟩
  | false =>
    simp only [greatB, decide_eq_false_iff_not] at hg1
    have hGd := fun (w3 : World) (b3 : Below w.heap.size w w3) => goodr_all A A' c c' m.all m.ws w.heap.size w3 b3.size (by omega) (by omega) (hA.below b3) (hA'.below b3)
    by_cases hgood : m.Good
    · rw [show Msg.goodB ⟨m.all, m.ws⟩ = true from decide_eq_true hgood] at hGd
      rw [ha, hb] at hGd
      by_cases hk1 : kd < 1
      · have HGD := Lib.hid hGd
        have d1 : decide (kd < 1) = true := decide_eq_true hk1
        clear hGd hA hA' _hc ha hb hg1 hgood
        go_enter Try.func6, Try.ntmps6
        go_wp2_with fail
        refine (alive_any _).mono ?_
        rintro e u1 ⟨rfl, bb⟩
        replace z0 := z0.below bb z0.lt
        replace bel := bel.trans (bb.mono bel.size)
        clear bb
        have q0 : u1.cell? ⟨w.heap.size, 0, none⟩ = some (.slice A a c) := z0.cell 0
        have q1 : u1.cell? ⟨w.heap.size, 1, none⟩ = some (.slice A' b c') := z0.cell 1
        go_wp2_with fail
        refine (HGR _).mono ?_
        rintro e u2 ⟨rfl, bb⟩
        clear q0 q1
        replace z0 := z0.below bb z0.lt
        replace bel := bel.trans (bb.mono bel.size)
        clear bb
        have q0 : u2.cell? ⟨w.heap.size, 0, none⟩ = some (.slice A a c) := z0.cell 0
        have q1 : u2.cell? ⟨w.heap.size, 1, none⟩ = some (.slice A' b c') := z0.cell 1
        go_wp2_with fail
        refine (HGD.out _ bel).mono ?_
        rintro e u3 ⟨rfl, bb⟩
        clear q0 q1
        replace z0 := z0.below bb z0.lt
        replace bel := bel.trans (bb.mono bel.size)
        clear bb
        go_wp2_with fail
        go_ret
        exact ⟨rfl, bel⟩
      · by_cases hk3 : 3 < kd
        · have HGD := Lib.hid hGd
          have d1 : decide (kd < 1) = false := decide_eq_false hk1
          have d2 : decide (3 < kd) = true := decide_eq_true hk3
          clear hGd hA hA' _hc ha hb hg1 hgood
          go_enter Try.func6, Try.ntmps6
          go_wp2_with fail
          refine (alive_any _).mono ?_
          rintro e u1 ⟨rfl, bb⟩
          replace z0 := z0.below bb z0.lt
          replace bel := bel.trans (bb.mono bel.size)
          clear bb
          have q0 : u1.cell? ⟨w.heap.size, 0, none⟩ = some (.slice A a c) := z0.cell 0
          have q1 : u1.cell? ⟨w.heap.size, 1, none⟩ = some (.slice A' b c') := z0.cell 1
          go_wp2_with fail
          refine (HGR _).mono ?_
          rintro e u2 ⟨rfl, bb⟩
          clear q0 q1
          replace z0 := z0.below bb z0.lt
          replace bel := bel.trans (bb.mono bel.size)
          clear bb
          have q0 : u2.cell? ⟨w.heap.size, 0, none⟩ = some (.slice A a c) := z0.cell 0
          have q1 : u2.cell? ⟨w.heap.size, 1, none⟩ = some (.slice A' b c') := z0.cell 1
          go_wp2_with fail
          refine (HGD.out _ bel).mono ?_
          rintro e u3 ⟨rfl, bb⟩
          clear q0 q1
          replace z0 := z0.below bb z0.lt
          replace bel := bel.trans (bb.mono bel.size)
          clear bb
          go_wp2_with fail
          go_ret
          exact ⟨rfl, bel⟩
        · obtain ⟨K, hK⟩ : ∃ K : Nat, (K : Int) = kd := ⟨kd.toNat, by omega⟩
          subst hK
          have d1 : decide ((K : Int) < 1) = false := decide_eq_false hk1
          have d2 : decide ((3 : Int) < (K : Int)) = false := decide_eq_false hk3
          have d3 : decide (K < 1) = false := decide_eq_false (by omega)
          have d4 : decide (3 < K) = false := decide_eq_false (by omega)
          have HKK := Lib.hid (show 1 ≤ K ∧ K ≤ 3 by omega)
          have HGD := Lib.hid hGd
          have HA := Lib.hid hA
          have HA' := Lib.hid hA'
          have HG := Lib.hid hgood
          have HLA := Lib.hid ha
          have HLB := Lib.hid hb
          have HAB := Lib.hid (show a ≤ 20 ∧ b ≤ 500 by omega)
          clear hGd hA hA' _hc ha hb hg1 hgood hk1 hk3
          go_enter Try.func6, Try.ntmps6
          go_wp2_with fail
          refine (alive_any _).mono ?_
          rintro e u1 ⟨rfl, bb⟩
          replace z0 := z0.below bb z0.lt
          replace bel := bel.trans (bb.mono bel.size)
          clear bb
          have q0 : u1.cell? ⟨w.heap.size, 0, none⟩ = some (.slice A a c) := z0.cell 0
          have q1 : u1.cell? ⟨w.heap.size, 1, none⟩ = some (.slice A' b c') := z0.cell 1
          go_wp2_with fail
          refine (HGR _).mono ?_
          rintro e u2 ⟨rfl, bb⟩
          clear q0 q1
          replace z0 := z0.below bb z0.lt
          replace bel := bel.trans (bb.mono bel.size)
          clear bb
          have q0 : u2.cell? ⟨w.heap.size, 0, none⟩ = some (.slice A a c) := z0.cell 0
          have q1 : u2.cell? ⟨w.heap.size, 1, none⟩ = some (.slice A' b c') := z0.cell 1
          go_wp2_with fail
          refine (HGD.out _ bel).mono ?_
          rintro e u3 ⟨rfl, bb⟩
          clear q0 q1
          replace z0 := z0.below bb z0.lt
          replace bel := bel.trans (bb.mono bel.size)
          clear bb
          have zZ := Blk.new u3 25 #[.slice none 0 0, .slice none 0 0]
          have zP := z0.alloc (.cells #[.slice none 0 0, .slice none 0 0] 25)
          have bl := bel.alloc bel.size (.cells #[.slice none 0 0, .slice none 0 0] 25)
          have hZP : w.heap.size < u3.heap.size := z0.lt
          have q0 : u3.cell? ⟨w.heap.size, 0, none⟩ = some (.slice A a c) := z0.cell 0
          have q1 : u3.cell? ⟨w.heap.size, 1, none⟩ = some (.slice A' b c') := z0.cell 1
          have q2 : (u3.alloc (.cells #[.slice none 0 0, .slice none 0 0] 25)).cell? ⟨w.heap.size, 0, none⟩ = some (.slice A a c) := zP.cell 0
          have HZZ := Lib.hid zZ
          have HZP := Lib.hid zP
          have HBL := Lib.hid bl
          have HPZ := Lib.hid hZP
          clear zZ zP bl hZP z0 bel
          go_wp2_with fail
          clear q0 q1 q2
          obtain ⟨W4, hW4⟩ : ∃ W, u3.alloc (.cells #[.slice none 0 0, .slice none 0 0] 25) = W := ⟨_, rfl⟩
          rw [hW4] at HZZ HZP HBL ⊢
          clear hW4
          generalize u3.heap.size = Z at *
          go_loopw [38] (fun i wr => ∃ (j : Nat) (A1 : Option Addr) (c1 : Nat), j ≤ a ∧ i = .int .i64 j ∧ Hid (Blk wr Z 25 #[.slice A1 ((m.all.take j).filter (fun a => decide (a < (K : Int)))).length c1, .slice none 0 0] ∧ Blk wr w.heap.size 25 #[.slice A a c, .slice A' b c'] ∧ OwnI wr w.heap.size A1 c1 ((m.all.take j).filter (fun a => decide (a < (K : Int)))) ∧ Below w.heap.size w wr)) (fun i _ => a - (intOf i).toNat)
          case atStart => exact ⟨0, none, 0, Nat.zero_le _, rfl, Lib.hid ⟨HZZ.out, HZP.out, World.ownsRow_nil _ _ _ _, HBL.out⟩⟩
          case round =>
            obtain ⟨j, A1, c1, hj, rfl, hW⟩ := hrel
            by_cases hlt : j < a
            · obtain ⟨x, hx⟩ : ∃ x, m.all.getD j 0 = x := ⟨_, rfl⟩
              obtain ⟨g, o, eg, hg, p0⟩ := HA.out j (by rw [HLA.out]; exact hlt)
              subst eg
              rw [hx] at p0
              have c0 : wr.cell? ⟨g, o + j, none⟩ = some (.int .i64 x) := (hW.out.2.2.2.cell (p := ⟨g, o + j, none⟩) hg).trans p0
              have hjl : j < m.all.length := by rw [HLA.out]; exact hlt
              have hxm : m.all[j]? = some x := by rw [← hx]; simp [List.getD_eq_getElem?_getD, List.getElem?_eq_getElem hjl]
              have hst := take_filter m.all (fun a => decide (a < (K : Int))) j hjl x hxm
              have jn : (j : Int) < a := by omega
              have j0 : (0 : Int) ≤ j := by omega
              have HJW := Lib.hid (show wrap64 ((j : Int) + 1) = (j : Int) + 1 from IntWalk.wrap64_in _ (by have := HAB.out; omega))
              clear p0 hg hx hjl hxm hj
              by_cases hxk : x < (K : Int)
              · rw [if_pos (by simpa using hxk)] at hst
                have e1 : decide (x < (K : Int)) = true := decide_eq_true hxk
                have hfl : ((m.all.take j).filter (fun a => decide (a < (K : Int)))).length ≤ 100000 := Nat.le_trans (List.length_filter_le _ _) (by rw [List.length_take, HLA.out]; have := HAB.out; omega)
                obtain ⟨hz, hp, ho, hb⟩ := hW.out
                obtain ⟨a', c', w2, hr, hc2, hf2, hz3, hp3, ho3, hb3⟩ := push_int hz hp (Nat.ne_of_lt HPZ.out) ho hfl (Nat.le_of_lt HPZ.out) x
                rw [← hst] at hz3 ho3
                obtain ⟨n, hn⟩ : ∃ n, ((m.all.take j).filter (fun a => decide (a < (K : Int)))).length = n := ⟨_, rfl⟩
                rw [hn] at hz hr hc2 hz3 hp3 ho3 hb3
                have k0 : wr.cell? ⟨Z, 0, none⟩ = some (.slice A1 n c1) := hz.cell 0
                have HRUN := Lib.hid hr
                have HEND := Lib.hid (And.intro hz3 (And.intro hp3 (And.intro ho3 (hb.trans hb3))))
                have jw := HJW.out
                clear hst hfl hz hp ho hb hr hz3 hp3 ho3 hb3 hn hW hxk
                go_wp2_with (at_builtin; refine Lib.wpList_append_run _ rfl _ _ _ _ rfl _ _ rfl rfl _ _ HRUN.out ?_)
                go_roundw
                case rel =>
                  rw [jw]
                  exact ⟨j + 1, a', c', hlt, by rw [Int.natCast_add]; rfl, Lib.hid HEND.out⟩
                case measure =>
                  rw [jw]
                  exact meas_up hlt
              · rw [if_neg (by simpa using hxk), List.append_nil] at hst
                have e1 : decide (x < (K : Int)) = false := decide_eq_false hxk
                have HEND := hW
                rw [← hst] at HEND
                have jw := HJW.out
                clear hst hW hxk
                go_wp2_with fail
                go_roundw
                case rel =>
                  rw [jw]
                  exact ⟨j + 1, A1, c1, hlt, by rw [Int.natCast_add]; rfl, HEND⟩
                case measure =>
                  rw [jw]
                  exact meas_up hlt
            · obtain rfl : a = j := by omega
              obtain ⟨hz, hp, ho, hb⟩ := hW.out
              rw [show m.all.take a = m.all by rw [← HLA.out, List.take_length]] at hz ho
              have hn1 : (aheadM m (K : Int)).all = m.all.filter (fun a => decide (a < (K : Int))) := rfl
              rw [← hn1] at hz ho
              obtain ⟨n1, hn⟩ : ∃ n, (aheadM m (K : Int)).all.length = n := ⟨_, rfl⟩
              rw [hn] at hz
              have HN1 := Lib.hid hn
              have HZ5 := Lib.hid hz
              have HP5 := Lib.hid hp
              have HO5 := Lib.hid ho
              have HB5 := Lib.hid hb
              have q1 : wr.cell? ⟨w.heap.size, 1, none⟩ = some (.slice A' b c') := hp.cell 1
              clear hW hz hp ho hb hn hn1 hlt hj
              go_wp2_with fail
              clear q1
              obtain ⟨W5, hW5⟩ : ∃ z, z = wr := ⟨_, rfl⟩
              subst hW5
              go_loopw [55] (fun i wr => ∃ (j : Nat) (A2 : Option Addr) (c2 : Nat), j ≤ b ∧ i = .int .i64 j ∧ Hid (Blk wr Z 25 #[.slice A1 n1 c1, .slice A2 ((m.ws.take j).filter (fun a => decide (a.t < (K : Int)))).length c2] ∧ Blk wr w.heap.size 25 #[.slice A a c, .slice A' b c'] ∧ OwnI wr w.heap.size A1 c1 (aheadM m (K : Int)).all ∧ OwnW wr w.heap.size A2 c2 ((m.ws.take j).filter (fun a => decide (a.t < (K : Int)))) ∧ Below w.heap.size w wr)) (fun i _ => b - (intOf i).toNat)
              case atStart => exact ⟨0, none, 0, Nat.zero_le _, rfl, Lib.hid ⟨HZ5.out, HP5.out, HO5.out, World.ownsRow_nil _ _ _ _, HB5.out⟩⟩
              case round =>
                obtain ⟨j, A2, c2, hj, rfl, hW⟩ := hrel
                by_cases hlt : j < b
                · obtain ⟨x, hx⟩ : ∃ x, m.ws.getD j wd0 = x := ⟨_, rfl⟩
                  obtain ⟨g, o, eg, hg, p0, p1, p2, p3⟩ := HA'.out j (by rw [HLB.out]; exact hlt)
                  subst eg
                  rw [hx] at p0 p1 p2 p3
                  have x0 : wr.cell? ⟨g, o + j * 4, none⟩ = some (.int .i64 x.t) := (hW.out.2.2.2.2.cell (p := ⟨g, o + j * 4, none⟩) hg).trans p0
                  have x1 : wr.cell? ⟨g, o + j * 4 + 1, none⟩ = some (.int .i64 x.v) := (hW.out.2.2.2.2.cell (p := ⟨g, o + j * 4 + 1, none⟩) hg).trans p1
                  have x2 : wr.cell? ⟨g, o + j * 4 + 2, none⟩ = some (.int .i64 x.e) := (hW.out.2.2.2.2.cell (p := ⟨g, o + j * 4 + 2, none⟩) hg).trans p2
                  have x3 : wr.cell? ⟨g, o + j * 4 + 3, none⟩ = some (.int .i64 x.b) := (hW.out.2.2.2.2.cell (p := ⟨g, o + j * 4 + 3, none⟩) hg).trans p3
                  have hjl : j < m.ws.length := by rw [HLB.out]; exact hlt
                  have hxm : m.ws[j]? = some x := by rw [← hx]; simp [List.getD_eq_getElem?_getD, List.getElem?_eq_getElem hjl]
                  have hst := take_filter m.ws (fun a => decide (a.t < (K : Int))) j hjl x hxm
                  have jn : (j : Int) < b := by omega
                  have j0' : (0 : Int) ≤ j := by omega
                  have HJW := Lib.hid (show wrap64 ((j : Int) + 1) = (j : Int) + 1 from IntWalk.wrap64_in _ (by have := HAB.out; omega))
                  obtain ⟨hz, hp, hi, ho, hb⟩ := hW.out
                  have hz0 := hz.alloc (.cells #[.int .i64 x.t, .int .i64 x.v, .int .i64 x.e, .int .i64 x.b] 43)
                  have hp0 := hp.alloc (.cells #[.int .i64 x.t, .int .i64 x.v, .int .i64 x.e, .int .i64 x.b] 43)
                  have hi0 : OwnI (wr.alloc (.cells #[.int .i64 x.t, .int .i64 x.v, .int .i64 x.e, .int .i64 x.b] 43)) _ _ _ _ := World.ownsRow.alloc hi _
                  have ho0 : OwnW (wr.alloc (.cells #[.int .i64 x.t, .int .i64 x.v, .int .i64 x.e, .int .i64 x.b] 43)) _ _ _ _ := World.ownsRow.alloc ho _
                  have hb0 := hb.alloc hb.size (.cells #[.int .i64 x.t, .int .i64 x.v, .int .i64 x.e, .int .i64 x.b] 43)
                  clear p0 p1 p2 p3 hg hx hjl hxm hj hz hp hi ho hb hW
                  by_cases hxk : x.t < (K : Int)
                  · rw [if_pos (by simpa using hxk)] at hst
                    have e1 : decide (x.t < (K : Int)) = true := decide_eq_true hxk
                    have hfl : ((m.ws.take j).filter (fun a => decide (a.t < (K : Int)))).length ≤ 100000 := Nat.le_trans (List.length_filter_le _ _) (by rw [List.length_take, HLB.out]; have := HAB.out; omega)
                    rw [← HN1.out] at hz0
                    obtain ⟨a', c', w2, hr, hc2, hf2, hz3, hp3, hi3, ho3, hb3⟩ := push_word hz0 hp0 (Nat.ne_of_lt HPZ.out) hi0 ho0 hfl (Nat.le_of_lt HPZ.out) x
                    rw [← hst] at hz3 ho3
                    rw [HN1.out] at hz0 hz3
                    rw [show (wr.alloc (.cells #[.int .i64 x.t, .int .i64 x.v, .int .i64 x.e, .int .i64 x.b] 43)).heap.size = wr.heap.size + 1 by simp] at hr
                    obtain ⟨n, hn⟩ : ∃ n, ((m.ws.take j).filter (fun a => decide (a.t < (K : Int)))).length = n := ⟨_, rfl⟩
                    rw [hn] at hz0 hr hc2 hz3 hp3 hi3 ho3 hb3
                    have k1 : (wr.alloc (.cells #[.int .i64 x.t, .int .i64 x.v, .int .i64 x.e, .int .i64 x.b] 43)).cell? ⟨Z, 1, none⟩ = some (.slice A2 n c2) := hz0.cell 1
                    have HRUN := Lib.hid hr
                    have HEND := Lib.hid (And.intro hz3 (And.intro hp3 (And.intro hi3 (And.intro ho3 (hb0.trans hb3)))))
                    have jw := HJW.out
                    clear hst hfl hz0 hp0 hi0 ho0 hb0 hr hz3 hp3 hi3 ho3 hb3 hn hxk
                    go_wp2_with (at_builtin; refine Lib.wpList_append_run _ rfl _ _ _ _ rfl _ _ rfl rfl _ _ HRUN.out ?_)
                    go_roundw
                    case rel =>
                      rw [jw]
                      exact ⟨j + 1, a', c', hlt, by rw [Int.natCast_add]; rfl, Lib.hid HEND.out⟩
                    case measure =>
                      rw [jw]
                      exact meas_up hlt
                  · rw [if_neg (by simpa using hxk), List.append_nil] at hst
                    have e1 : decide (x.t < (K : Int)) = false := decide_eq_false hxk
                    have hend := And.intro hz0 (And.intro hp0 (And.intro hi0 (And.intro ho0 hb0)))
                    rw [← hst] at hend
                    have HEND := Lib.hid hend
                    have jw := HJW.out
                    clear hst hz0 hp0 hi0 ho0 hb0 hend hxk
                    go_wp2_with fail
                    go_roundw
                    case rel =>
                      rw [jw]
                      exact ⟨j + 1, A2, c2, hlt, by rw [Int.natCast_add]; rfl, HEND⟩
                    case measure =>
                      rw [jw]
                      exact meas_up hlt
                · obtain rfl : b = j := by omega
                  obtain ⟨hz, hp, hi, ho, hb⟩ := hW.out
                  rw [show m.ws.take b = m.ws by rw [← HLB.out, List.take_length]] at hz ho
                  have hn1 : (aheadM m (K : Int)).ws = m.ws.filter (fun a => decide (a.t < (K : Int))) := rfl
                  rw [← hn1] at hz ho
                  obtain ⟨n2, hn⟩ : ∃ n, (aheadM m (K : Int)).ws.length = n := ⟨_, rfl⟩
                  have hgd := ahead_good HG.out (K : Int)
                  have hl1 : (aheadM m (K : Int)).all.length ≤ 1048576 := Nat.le_trans (List.length_filter_le _ _) (by rw [HLA.out]; have := HAB.out; omega)
                  have hl2 : (aheadM m (K : Int)).ws.length ≤ 500 := Nat.le_trans (List.length_filter_le _ _) (by rw [HLB.out]; exact HAB.out.2)
                  obtain ⟨M, hM⟩ : ∃ M, aheadM m (K : Int) = M := ⟨_, rfl⟩
                  have hn1' := HN1.out
                  rw [hM] at hz hi ho hn hgd hl1 hl2 hn1'
                  have hRB := rbytes_any A1 A2 c1 c2 M wr.heap.size wr (Nat.le_refl _) hl1 hl2 hi.at_ ho.at_ hgd
                  obtain ⟨X, t, hX, ht, hmt⟩ := wrong_read hgd K HKK.out
                  have hlen := bytes_less M hl2
                  rw [hX] at hRB hlen
                  have hXl : X.length ≤ 60000 := by simp only [List.length_append] at hlen; omega
                  obtain ⟨S, hS⟩ : ∃ S, str (X ++ [0, 0]) = S := ⟨_, rfl⟩
                  obtain ⟨N, hN⟩ : ∃ N, X.length = N := ⟨_, rfl⟩
                  rw [hS] at hRB
                  have hSN : S.size = N + 2 := by rw [← hS, str_size, List.length_append, hN]; rfl
                  have hext : (S.extract 0 N).data.toList = X := by
                    have := ext_list S 0 N
                    rw [Nat.zero_add, List.drop_zero, ← hS, str_list] at this
                    rw [← hS, this, ← hN, List.take_left]
                  have hexz : (S.extract 0 N).size = N := by
                    have e : (S.extract 0 N).size = (S.extract 0 N).data.toList.length := by simp
                    rw [e, hext, hN]
                  rw [hN] at hXl
                  have hRD := read_known (S.extract 0 N ++ ⟨#[UInt8.ofNat K, 9]⟩ ++ ⟨#[0, 0, 0, 0]⟩) t M true (by simp only [ByteArray.size_append]; rw [hexz, show (⟨#[UInt8.ofNat K, 9]⟩ : ByteArray).size = 2 from rfl, show (⟨#[0, 0, 0, 0]⟩ : ByteArray).size = 4 from rfl]; omega) (by simp only [ByteArray.data_append, Array.toList_append, hext]; exact ht) hmt
                  have w1 : IntKind.i64.wrap ((S.size : Int) - 2) = (N : Int) := by rw [show (S.size : Int) - 2 = (N : Int) by omega]; exact IntWalk.i64_in _ (by omega)
                  have w2' : IntKind.u8.wrap (K : Int) = (K : Int) := by have := HKK.out; simp [IntKind.wrap, IntKind.bits, IntKind.signed]; omega
                  have w3 : N ≤ S.size := by omega
                  have w4 : (0 : Int) ≤ (N : Int) := by omega
                  have w5 : (N : Int) ≤ (S.size : Int) := by omega
                  have w6 : ¬ 9223372036854775807 < N + 2 := by omega
                  have w7 : ¬ 9223372036854775807 < N + 2 + 4 := by omega
                  rw [hn1', hn] at hRD
                  have HRD := Lib.hid hRD
                  have HSN := Lib.hid hSN
                  have HRB := Lib.hid hRB
                  rw [hn1', hn] at hRB
                  rw [hn] at hz
                  have HN2 := Lib.hid hn
                  have HN1' := Lib.hid hn1'
                  have HIO := Lib.hid (And.intro hi (And.intro ho hb))
                  have HLL := Lib.hid (And.intro hl1 hl2)
                  have HZ6 := Lib.hid hz
                  have HHRB := Lib.hid hRB
                  have q0 : wr.cell? ⟨Z, 0, none⟩ = some (.slice A1 n1 c1) := hz.cell 0
                  have q1 : wr.cell? ⟨Z, 1, none⟩ = some (.slice A2 n2 c2) := hz.cell 1
                  clear hW hz hp hi ho hb hn1 hn hn1' hgd hl1 hl2 hM hRB hlen HRB hlt hj hS hN hSN hext hexz hRD hX ht hmt hXl
                  go_wp2_with fail
                  refine HHRB.out.mono ?_
                  rintro e u7 ⟨rfl, b7⟩
                  clear q0 q1
                  have HB77 := Lib.hid b7
                  clear b7
                  have hcv := two_bytes u7 K (by have := HKK.out; omega)
                  have hcv2 := two_bytes' u7 (.cells #[.slice none 0 0, .slice none 0 0] 25) K (by have := HKK.out; omega)
                  have hcv3 := two_bytes3 u7 (.cells #[.slice none 0 0, .slice none 0 0] 25) K (by have := HKK.out; omega)
                  have HZB := Lib.hid (zblk u7 (.cells #[.int .u8 (K : Int), .int .u8 9] 5) 25 #[.slice none 0 0, .slice none 0 0])
                  have HZN := Lib.hid ((Blk.new u7 25 #[.slice none 0 0, .slice none 0 0]).alloc (.cells #[.int .u8 (K : Int), .int .u8 9] 5))
                  go_wp2_with fail
                  go_region_law ((go_simp; go_at_call 15; refine (HRD.out _).mono ?_; rintro e u8 ⟨⟨R, R', r, r', rfl, hR, hR'⟩, b8⟩; (first | (have hb8 := (Blk.drew HZB.out).below b8 (Blk.drew HZB.out).lt; have y0 := hb8.cell 0; have y1 := hb8.cell 1; have y2 := hb8.frozen 0; have y3 := hb8.frozen 1) | (have hb8 := (Blk.drew HZN.out).below b8 (Blk.drew HZN.out).lt; have y0 := hb8.cell 0; have y1 := hb8.cell 1; have y2 := hb8.frozen 0; have y3 := hb8.frozen 1) | skip)))
                  all_goals
                    first
                    | (obtain ⟨Wf, hWf, hf⟩ := fin_old (bel2 _ _ _) b8 hb8 (by omega) hR hR' n1 n2 r r'; rw [← hWf]; clear hWf y0 y1 y2 y3 hb8)
                    | (obtain ⟨Wf, hWf, hf⟩ := fin_new (bel1 _ _) b8 hR hR' (.slice R n1 r) (.slice R' n2 r'); rw [← hWf]; clear hWf)
                    obtain ⟨f1, f2, f3, f4⟩ := hf
                    have bw := HB77.out.trans (f1.mono HB77.out.size)
                    have zz := HZ6.out.below bw HZ6.out.lt
                    have hSM := sameM_any R A1 R' A2 r c1 r' c2 M.all M.all M.ws M.ws Wf.heap.size Wf (by have := HLL.out.1; omega) (by have := HLL.out.2; omega) f3 ((HIO.out.1.at_.below bw).more bw.size) f4 ((HIO.out.2.1.at_.below bw).more bw.size)
                    rw [same_refl, HN1'.out, HN2.out] at hSM
                    have HSM := Lib.hid hSM
                    have HBW := Lib.hid (HIO.out.2.2.trans (bw.mono HIO.out.2.2.size))
                    have x0 := f2.cell 0
                    have x1 := f2.cell 1
                    have x2 := zz.cell 0
                    have x3 := zz.cell 1
                    clear f1 f2 f3 f4 bw zz hSM b8 hR hR' hcv hcv2 hcv3
                    go_wp2_with fail
                    refine HSM.out.mono ?_
                    rintro e u9 ⟨rfl, nq, rfl⟩
                    go_wp2_with fail
                    go_ret
                    exact ⟨rfl, bel_drewN HBW.out nq⟩
    · rw [show Msg.goodB ⟨m.all, m.ws⟩ = false from decide_eq_false hgood] at hGd
      rw [ha, hb] at hGd
      have HGD := Lib.hid hGd
      clear hGd hA hA' _hc ha hb hg1 hgood
      go_enter Try.func6, Try.ntmps6
      go_wp2_with fail
      refine (alive_any _).mono ?_
      rintro e u1 ⟨rfl, bb⟩
      replace z0 := z0.below bb z0.lt
      replace bel := bel.trans (bb.mono bel.size)
      clear bb
      have q0 : u1.cell? ⟨w.heap.size, 0, none⟩ = some (.slice A a c) := z0.cell 0
      have q1 : u1.cell? ⟨w.heap.size, 1, none⟩ = some (.slice A' b c') := z0.cell 1
      go_wp2_with fail
      refine (HGR _).mono ?_
      rintro e u2 ⟨rfl, bb⟩
      clear q0 q1
      replace z0 := z0.below bb z0.lt
      replace bel := bel.trans (bb.mono bel.size)
      clear bb
      have q0 : u2.cell? ⟨w.heap.size, 0, none⟩ = some (.slice A a c) := z0.cell 0
      have q1 : u2.cell? ⟨w.heap.size, 1, none⟩ = some (.slice A' b c') := z0.cell 1
      go_wp2_with fail
      refine (HGD.out _ bel).mono ?_
      rintro e u3 ⟨rfl, bb⟩
      clear q0 q1
      replace z0 := z0.below bb z0.lt
      replace bel := bel.trans (bb.mono bel.size)
      clear bb
      go_wp2_with fail
      go_ret
      exact ⟨rfl, bel⟩
set_option maxRecDepth 100000 in
theorem liftedMrpduWrong (os : Os) (started : os.Started) (H : Type) (enc : TypeId × Value → H) :
    ReturnsInHanded {} Try.checked os 6 .any (Rows.mrpduWrongSpec.pre6 enc Try.prog Try.f6 Rows.mrpduWrongRow.domain false) (Rows.mrpduWrongSpec.post enc Try.prog Try.f6 false true false false) := by
  refine returnsInHanded_of_change (C := Try.checked) own started (by kernel_rfl) Try.func6
    (ChangeSpec.witness6 (enc := enc) (C := Try.checked) false ⟨#[], #[.agg #[.slice none 0 0, .slice none 0 0], .int .i64 0], []⟩ 8 (by kernel_rfl) (by kernel_rfl) (by kernel_rfl) (by kernel_rfl)) ?_
  intro W base args ds gs before hval0 hW hcnd _
  have hval : ∀ (j : Nat) t v, Try.f6.params[j]? = some t → args[j]? = some v → Value.okWide Try.prog W .any base t v := hval0
  have hW' := hW
  obtain ⟨p, q, hA0, hV, rfl, hfz, hnd⟩ := hW
  have hA : DataW.TrodAll enc Try.prog W 0 (fun _ => true) true Try.f6.params.toList args.toList ds p := hA0
  rw [Try.params6] at hA hval
  obtain ⟨v0, vs0, d0, ds0, p0, q0, hargs, rfl, rfl, h0, r0⟩ := trodAll_cons hA
  obtain ⟨v1, vs1, d1, ds1, p1, q1, rfl, rfl, rfl, h1, r1⟩ := trodAll_cons r0
  obtain ⟨rfl, rfl, rfl⟩ := trodAll_nil r1
  obtain rfl : args = #[v0, v1] := by cases args; simp_all
  obtain ⟨rfl, rfl⟩ := trodVars_none hV
  have k0 := h0
  have lt0 : ∀ x ∈ p0, x.block < W.heap.size := by obtain ⟨m, hm⟩ := k0; exact DataW.trod_lt m _ _ _ hm
  obtain ⟨A0, A0', c0, c0', m0, rfl, w0, w0', w0''⟩ := open_pdu (hval 0 25 v0 rfl rfl) h0
  obtain ⟨a1, rfl, rfl, rfl, w1⟩ := open_int Try.underlying3 (hval 1 3 v1 rfl rfl) h1
  clear hA0 hval0
  refine (walkMrpduWrong A0 A0' c0 c0' m0 a1 W w0 w0' w0'' w1).mono fun e W' ⟨he, bel⟩ => ?_
  subst he
  exact ⟨_, rfl, _, _, _, [], _, [], hW', trodAll_mk1 (shut_bool Try.underlying4 _), (trodAll_cons_mk (Below.trod laidOut (by kernel_rfl) (of_decide_eq_true (by kernel_rfl)) k0 bel lt0) (trodAll_cons_mk (shut_int Try.underlying3 w1) trodAll_mk0)), rfl, bel.frame _, fun h => by cases h⟩

theorem overMrpduWrong : Rows.mrpduWrongRow.holds Try.pinned (OpenSpec.ofChange Rows.mrpduWrongSpec) :=
  OpenClaim.holds_of_wide 6 Try.f6 rfl rfl rfl rfl rfl rfl rfl ⟨rfl, rfl, rfl, rfl, rfl⟩ rfl rfl rfl rfl rfl (by kernel_rfl) Try.func6 (by kernel_rfl)
    (of_decide_eq_true (by kernel_rfl)) (by unfold Func.isWrapper; first | (rw [if_pos (by decide +kernel)]; kernel_rfl) | (rw [if_neg (by decide +kernel)]; exact ⟨rfl, rfl⟩))
    (fun os started H enc _ => liftedMrpduWrong os started H enc)

/-- The statement. -/
theorem mrpduWrong_holds : Rows.MrpduWrongSaid := overMrpduWrong

#print axioms mrpduWrong_holds
end Go.Proofs.Ytoigapanhbmjlaa
