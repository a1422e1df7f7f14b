/- PrioSorted: for every input the law returns true. -/
import Derived.Test.YtogghcbijdljkaaVrow
import Derived.Test.YtogghcbijdljkaaVeq
namespace Go.Proofs.Ytogghcbijdljkaa
open Go.ChangeShapes Go.WideShapes Go.ChangeAt Go.RowKit

theorem cut_len (l : List Vec) {n k : Nat} (hl : l.length = n) (hk : k < n) : (l.drop k).length = n - k ∧ (l.take k).length = k := by
  rw [List.length_drop, List.length_take]
  omega
theorem cut_perm (l : List Vec) (k : Nat) : (l.drop k ++ l.take k).Perm l := by
  have h := List.perm_append_comm (l₁ := l.drop k) (l₂ := l.take k)
  rwa [List.take_append_drop] at h
/-- The argument, and two rows of the same vectors. -/
structure SSt (w wr : World) (A A1 A2 : Option Addr) (l S : List Vec) : Prop where
  arg : VecAt wr wr.heap.size A l
  one : VecAt wr wr.heap.size A1 S
  two : VecAt wr wr.heap.size A2 S
  bel : Below w.heap.size w wr
theorem SSt.go {w wr w' : World} {A A1 A2 : Option Addr} {l S : List Vec} (h : SSt w wr A A1 A2 l S) (hb : Below wr.heap.size wr w') : SSt w w' A A1 A2 l S :=
  ⟨h.arg.go hb, h.one.go hb, h.two.go hb, h.bel.trans (hb.mono h.bel.size)⟩
theorem VecAt.drew {w : World} {B : Nat} {A : Option Addr} {l : List Vec} (h : VecAt w B A l) : VecAt w.drew B A l := fun k hk => by
  obtain ⟨b, off, e, hl, hc⟩ := h k hk
  exact ⟨b, off, e, hl, hc.c0, hc.c1, hc.c2, hc.c3⟩
theorem SSt.drew {w wr : World} {A A1 A2 : Option Addr} {l S : List Vec} (h : SSt w wr A A1 A2 l S) : SSt w wr.drew A A1 A2 l S := ⟨h.arg.drew, h.one.drew, h.two.drew, h.bel.drew⟩
theorem own_empty (w : World) : OwnV (w.alloc (.cells #[] 49)) w.heap.size (some ⟨w.heap.size, 0, none⟩) 0 [] :=
  ⟨rfl, .inr ⟨w.heap.size, 0, #[], rfl, Nat.le_refl _, Blk.new w _ _, Nat.le_refl _, by decide, rfl, rfl⟩⟩
/-- The cut row, joined anew: two appends to an empty row of one's own. -/
theorem joined (w0 : World) (g : Nat) (A1 : Option Addr) (l S : List Vec) (b off c c2 n k : Nat) (hl : l.length = n) (hk : k < n) (hn : n ≤ 60) (hE : OwnV w0 g (some ⟨g, 0, none⟩) 0 []) (hg : g < w0.heap.size) (w : World)
    (hat : VecAt w0 w0.heap.size (some ⟨b, off, none⟩) l) (hb : b < g) (h1 : VecAt w0 w0.heap.size A1 S) (hd : ∀ q, A1 = some q → q.block ≠ g) (hlt : ∀ q, A1 = some q → q.block < w0.heap.size) (hbel : Below w.heap.size w w0) (hwg : w.heap.size ≤ g) :
    ∃ a2 d2 w2, (Builtin.append_ #[67, 67] 67 #[.slice (some ⟨g, 0, none⟩) 0 0, .slice (some ⟨b, off + k * 4, none⟩) (n - k) c]).run Try.prog w0 = .ok (.slice a2 (n - k) d2) w2 ∧
      ∃ a3 d3 w3, (Builtin.append_ #[67, 67] 67 #[.slice a2 (n - k) d2, .slice (some ⟨b, off, none⟩) k c2]).run Try.prog w2 = .ok (.slice a3 n d3) w3 ∧
        VecAt w3 w3.heap.size a3 (l.drop k ++ l.take k) ∧ VecAt w3 w3.heap.size (some ⟨b, off, none⟩) l ∧ VecAt w3 w3.heap.size A1 S ∧ Below w.heap.size w w3 := by
  obtain ⟨e1, e2⟩ := cut_len l hl hk
  obtain ⟨a2, d2, w2, hr2, ho2, hg2, hm2⟩ := append_vec w0 g (some ⟨g, 0, none⟩) 0 0 [] rfl hE b (off + k * 4) c (n - k) _ (l.drop k) e1 (hat.drop k) (by rw [e1]; simp; omega) (Nat.le_of_lt hg)
  rw [Nat.zero_add] at hr2 hm2
  rw [List.nil_append] at ho2
  have hE' : w0.ownsRow g 49 4 (.slice (some ⟨g, 0, none⟩) 0 0) 0 (vcL []) := hE
  have hat2 := hat.grown hg2 (fun q e h => by injection e with e; subst e; have h : some g = some b := h; injection h with h; omega)
  have h12 := h1.grown hg2 (fun q e h => by have h : some g = some q.block := h; injection h with h; exact hd q e h.symm)
  have hb2 : Below w.heap.size w w2 := hbel.trans (bel_own hE' hg2 hwg hbel.size)
  have hown2 : ∀ q : Nat, (Value.slice a2 (n - k) d2).ownBlock = some q → q = g ∨ w0.heap.size ≤ q := fun q hq => by
    rcases hm2 with h | ⟨z, hz, h⟩
    · rw [hq] at h
      have h : some q = some g := h
      injection h with h
      exact .inl h
    · rw [hq] at h
      injection h with h
      exact .inr (by omega)
  obtain ⟨a3, d3, w3, hr3, ho3, hg3, _⟩ := append_vec w2 g a2 d2 (n - k) (l.drop k) e1 ho2 b off c2 k _ (l.take k) e2 (hat2.take k) (by rw [e1, e2]; omega) (Nat.le_trans (Nat.le_of_lt hg) hg2.size)
  rw [show n - k + k = n by omega] at hr3
  have ho2' : w2.ownsRow g 49 4 (.slice a2 (n - k) d2) (n - k) (vcL (l.drop k)) := by
    have := ho2
    unfold OwnV at this
    rw [e1] at this
    exact this
  refine ⟨a2, d2, w2, hr2, a3, d3, w3, hr3, ho3.at_, hat2.grown hg3 (fun q e h => ?_), h12.grown hg3 (fun q e h => ?_), hb2.trans (bel_own ho2' hg3 hwg hb2.size)⟩
  · injection e with e
    subst e
    rcases hown2 _ h with h | h
    · have h : b = g := h
      omega
    · have h : w0.heap.size ≤ b := h
      omega
  · rcases hown2 _ h with h | h
    · exact hd q e h
    · have := hlt q e
      omega

theorem turn_in (turn : Int) (n : Nat) (hn : 0 < n) (h60 : n ≤ 60) : ∃ k : Nat, wrap64 ((IntKind.u64.wrap turn).tmod n) = k ∧ k < n := by
  have hu : 0 ≤ IntKind.u64.wrap turn := by rw [IntKind.wrap_u64]; exact Int.emod_nonneg _ (by decide)
  have h1 := Int.emod_nonneg (IntKind.u64.wrap turn) (show (n : Int) ≠ 0 by omega)
  have h2 := Int.emod_lt_of_pos (IntKind.u64.wrap turn) (show (0 : Int) < n by omega)
  refine ⟨((IntKind.u64.wrap turn).tmod n).toNat, ?_, ?_⟩
  · rw [Int.tmod_eq_emod_of_nonneg hu, IntWalk.wrap64_in _ (by omega)]
    omega
  · rw [Int.tmod_eq_emod_of_nonneg hu]
    omega
set_option maxRecDepth 100000 in
set_option maxHeartbeats 8000000 in
theorem walkPrioSorted (A : Option Addr) (c : Nat) (l : List Vec) (turn : Int) (w : World) (h0 : VecAt w w.heap.size A l ∧ (∀ x ∈ l, x.ok) ∧ l.length ≤ c) (_h1 : (Lit.int .i64 turn).wf = true) :
    Calls Try.prog 10 #[.slice A l.length c, .int .i64 turn] w fun e w' => e = .returned (.bool true) ∧ Below w.heap.size w w' := by
  have HAL := Lib.hid (alive_any w)
  have H0 := Lib.hid h0
  obtain ⟨n, hn⟩ : ∃ n, l.length = n := ⟨_, rfl⟩
  have HN := Lib.hid hn
  rw [hn]
  clear h0 hn
  by_cases hs : (60 : Int) < n
  · have d1 : decide ((60 : Int) < n) = true := decide_eq_true hs
    go_enter Try.func10, Try.ntmps10
    go_wp2_with fail
    refine HAL.out.mono ?_
    rintro e w1 ⟨rfl, b1⟩
    go_wp2_with fail
    go_ret
    exact ⟨rfl, b1⟩
  have d1 : decide ((60 : Int) < n) = false := decide_eq_false hs
  by_cases hz : n = 0
  · subst hz
    go_enter Try.func10, Try.ntmps10
    go_wp2_with fail
    refine HAL.out.mono ?_
    rintro e w1 ⟨rfl, b1⟩
    go_wp2_with fail
    go_ret
    exact ⟨rfl, b1⟩
  have d2 : ((n : Int) == 0) = false := by simpa using fun h => hz (by omega)
  have HLE := Lib.hid (show 0 < n ∧ n ≤ 60 by omega)
  obtain ⟨k, hk, hkn⟩ := turn_in turn n HLE.out.1 HLE.out.2
  have HKN := Lib.hid hkn
  obtain ⟨b, off, rfl, hb, _⟩ := H0.out.1 0 (by rw [HN.out]; exact HLE.out.1)
  have HB := Lib.hid hb
  have k0 : (0 : Int) ≤ k := by omega
  have k1 : (k : Int) ≤ n := by omega
  have n1 : ¬ (n : Int) = 0 := by omega
  have n2 : (0 : Int) < n := by omega
  have hnw : IntKind.u64.wrap (n : Int) = (n : Int) := by rw [IntKind.wrap_u64]; omega
  clear hs hz hb
  go_enter Try.func10, Try.ntmps10
  go_wp2_with fail
  refine HAL.out.mono ?_
  rintro e w1 ⟨rfl, b1⟩
  have HB1 := Lib.hid b1
  clear b1
  go_wp2_with fail
  rw [hk]
  clear hk
  have hbw1 : Below w.heap.size w w1 := HB1.out
  have harg1 : VecAt w1 w1.heap.size (some ⟨b, off, none⟩) l := (H0.out.1.below hbw1).more hbw1.size
  have hln : 0 < l.length := by rw [HN.out]; exact HLE.out.1
  have hl60 : l.length ≤ 1048576 := by have := HN.out; have := HLE.out; omega
  have hsA := sorted_any (some ⟨b, off, none⟩) c l ((w1.alloc (.cells #[] 49)).drew) (harg1.go (bel_alloc w1 (.cells #[] 49))).drew hln hl60
  have hsB := sorted_any (some ⟨b, off, none⟩) c l w1.drew harg1.drew hln hl60
  rw [HN.out] at hsA hsB
  have HSA := Lib.hid hsA
  have HSB := Lib.hid hsB
  have hSlen : 0 < (sortV l).length := by rw [sortV_length]; exact hln
  have HJA := Lib.hid (fun (w2 : World) (A1 : Option Addr) (c1 : Nat) (ho : OwnV w2 ((w1.alloc (.cells #[] 49)).drew).heap.size A1 c1 (sortV l)) (b2 : Below ((w1.alloc (.cells #[] 49)).drew).heap.size ((w1.alloc (.cells #[] 49)).drew) w2) => by
    have hs : ((w1.alloc (.cells #[] 49)).drew).heap.size = w1.heap.size + 1 := by show (w1.alloc _).heap.size = _; simp
    have hE := own_empty w1
    have hE2 : OwnV w2 w1.heap.size (some ⟨w1.heap.size, 0, none⟩) 0 [] := own_heap (w := (w1.alloc (.cells #[] 49)).drew) hE fun q hq => b2.block q (by have hq : some w1.heap.size = some q := hq; injection hq with hq; omega)
    have hkb : ∀ q : Addr, A1 = some q → w1.heap.size + 1 ≤ q.block ∧ q.block < w2.heap.size := fun q e => by
      subst e
      have := World.ownsRow.lt ho q.block rfl
      omega
    exact joined w2 w1.heap.size A1 l (sortV l) b off (c - k) c n k HN.out HKN.out HLE.out.2 hE2 (by have := b2.size; omega) w ((harg1.go (bel_alloc w1 (.cells #[] 49))).drew.go b2) (Nat.lt_of_lt_of_le HB.out hbw1.size) ho.at_ (fun q e => by have := (hkb q e).1; omega) (fun q e => (hkb q e).2)
      ((hbw1.alloc hbw1.size _).drew.trans (b2.mono (by have := hbw1.size; omega))) hbw1.size)
  have HJB := Lib.hid (fun (w2 : World) (A1 : Option Addr) (c1 : Nat) (ho : OwnV w2 w1.drew.heap.size A1 c1 (sortV l)) (b2 : Below w1.drew.heap.size w1.drew w2) => by
    have hs : (w2.alloc (.cells #[] 49)).heap.size = w2.heap.size + 1 := by simp
    have hkb : ∀ q : Addr, A1 = some q → q.block < w2.heap.size := fun q e => by
      subst e
      exact (World.ownsRow.lt ho q.block rfl).2
    have hw2 : w.heap.size ≤ w2.heap.size := Nat.le_trans hbw1.size b2.size
    exact joined (w2.alloc (.cells #[] 49)) w2.heap.size A1 l (sortV l) b off (c - k) c n k HN.out HKN.out HLE.out.2 (own_empty w2) (by omega) w ((harg1.drew.go b2).go (bel_alloc w2 _)) (Nat.lt_of_lt_of_le HB.out hw2) (ho.at_.go (bel_alloc w2 _)) (fun q e => by have := hkb q e; omega) (fun q e => by have := hkb q e; omega)
      ((hbw1.drew.trans (b2.mono hbw1.size)).alloc hw2 _) hw2)
  have HS2 := Lib.hid (fun (a3 : Option Addr) (d3 : Nat) (w4 : World) (h3 : VecAt w4 w4.heap.size a3 (l.drop k ++ l.take k)) => by
    have e := cut_len l HN.out HKN.out
    have hlen : (l.drop k ++ l.take k).length = n := by rw [List.length_append]; have := HKN.out; omega
    have h := sorted_any a3 d3 (l.drop k ++ l.take k) w4 h3 (by rw [hlen]; exact HLE.out.1) (by rw [hlen]; have := HLE.out; omega)
    rw [hlen, sortV_same (cut_perm l k)] at h
    exact h)
  have nc : (n : Int) ≤ c := by have := H0.out.2.2; have := HN.out; omega
  have nc' : n ≤ c := by omega
  have hck : ¬ c = k := by have := HKN.out; omega
  have hkc : k ≤ c := by have := HKN.out; omega
  have hkn' : k ≤ n := by have := HKN.out; omega
  clear hbw1 harg1 hln hl60 hsA hsB hSlen hkn
  go_region_law ((first
    | (go_simp; go_at_call 38; (with_reducible (refine HSA.out.mono ?_)); rintro e w2 ⟨A1, c1, rfl, ho, b2⟩; obtain ⟨a2, d2, w3, hr2, a3, d3, w4, hr3, hat3, harg4, hS4, hb4⟩ := HJA.out _ _ _ ho b2)
    | (go_simp; go_at_call 38; (with_reducible (refine HSB.out.mono ?_)); rintro e w2 ⟨A1, c1, rfl, ho, b2⟩; obtain ⟨a2, d2, w3, hr2, a3, d3, w4, hr3, hat3, harg4, hS4, hb4⟩ := HJB.out _ _ _ ho b2)
    | (refine step_append_run rfl (.tmp 31) (.tmp 34) 67 67 rfl _ _ (by simp [Act.eval]) (by simp [Act.eval]) hr2 ?_)
    | (refine step_append_run rfl (.tmp 35) (.tmp 38) 67 67 rfl _ _ (by simp [Act.eval]) (by simp [Act.eval]) hr3 ?_)
    | (go_simp; go_at_call 38; (with_reducible (refine (HS2.out _ _ _ hat3).mono ?_)); rintro e w5 ⟨A2, c2, rfl, ho5, b5⟩)))
  all_goals
    have hst : SSt w w5 (some ⟨b, off, none⟩) A1 A2 l (sortV l) := ⟨harg4.go b5, hS4.go b5, ho5.at_, hb4.trans (b5.mono hb4.size)⟩
    have hup := sortV_up l
    have hpm := sortV_perm l
    have hSl : (sortV l).length = n := by rw [sortV_length]; exact HN.out
    obtain ⟨S, hS⟩ : ∃ S, sortV l = S := ⟨_, rfl⟩
    rw [hS] at hst hup hpm hSl
    rw [hSl] at hup
    have HST := Lib.hid hst
    have HUP := Lib.hid (And.intro hup (And.intro hpm hSl))
    clear hst hup hpm hSl hr2 hr3 hat3 harg4 hS4 hb4 ho ho5 b2 b5 HSA HSB HJA HJB HS2 hnw
    go_wp2_with fail
    go_loopw [53] (fun iv wr => ∃ i : Nat, i ≤ n ∧ iv = .int .i64 i ∧ Hid (SSt w wr (some ⟨b, off, none⟩) A1 A2 l S)) (fun iv _ => n - (intOf iv).toNat)
    case atStart => exact ⟨0, Nat.zero_le _, rfl, HST⟩
    case round =>
      obtain ⟨i, hi, rfl, hR⟩ := hrel
      by_cases hlt : i < n
      · obtain ⟨v, hv⟩ : ∃ v, S.getD i vc0 = v := ⟨_, rfl⟩
        have HV := Lib.hid hv
        obtain ⟨ba, oa, eA, hla, pa⟩ := hR.out.one i (by rw [HUP.out.2.2]; exact hlt)
        obtain ⟨bb, ob, eB, hlb, pb⟩ := hR.out.two i (by rw [HUP.out.2.2]; exact hlt)
        rw [hv] at pa pb
        subst eA eB
        obtain ⟨v0, v1, v2, v3⟩ := v
        obtain ⟨pa0, pa1, pa2, pa3⟩ := pa
        obtain ⟨pb0, pb1, pb2, pb3⟩ := pb
        simp only at pa0 pa1 pa2 pa3 pb0 pb1 pb2 pb3
        have i1 : (i : Int) < n := by omega
        have i0 : (0 : Int) ≤ i := by omega
        have HI := Lib.hid (show wrap64 ((i : Int) + 1) = (i : Int) + 1 from IntWalk.wrap64_in _ (by have := HLE.out; omega))
        by_cases hz : i = 0
        · subst hz
          rw [show ((0 : Nat) : Int) = 0 from rfl]
          simp only [Nat.zero_mul, Nat.add_zero] at pa0 pa1 pa2 pa3 pb0 pb1 pb2 pb3
          have HRD := Lib.hid hR.out.drew
          clear hv hi
          go_wp2_with fail
          go_big_region
          go_wp2_with fail
          go_loopw [10, 11, 83] (fun xv yv jv wq => ∃ j : Nat, j ≤ n ∧ jv = .int .i64 j ∧ xv = .int .i64 (cntV ⟨v0, v1, v2, v3⟩ l j : Nat) ∧ yv = .int .i64 (cntV ⟨v0, v1, v2, v3⟩ S j : Nat) ∧ Hid (SSt w wq (some ⟨b, off, none⟩) (some ⟨ba, oa, none⟩) (some ⟨bb, ob, none⟩) l S)) (fun _ _ jv _ => n - (intOf jv).toNat)
          case atStart => exact ⟨0, Nat.zero_le _, rfl, rfl, rfl, HRD⟩
          case round =>
            obtain ⟨j, hj, rfl, rfl, rfl, hQ⟩ := hrel
            by_cases hjl : j < n
            · obtain ⟨b', o', e', _, pv⟩ := hQ.out.one 0 (by rw [HUP.out.2.2]; exact hlt)
              injection e' with e'
              injection e' with e1 e2
              subst e1 e2
              rw [HV.out] at pv
              obtain ⟨b', o', e', _, pu⟩ := hQ.out.arg j (by rw [HN.out]; exact hjl)
              injection e' with e'
              injection e' with e1 e2
              subst e1 e2
              obtain ⟨b', o', e', _, pt⟩ := hQ.out.one j (by rw [HUP.out.2.2]; exact hjl)
              injection e' with e'
              injection e' with e1 e2
              subst e1 e2
              obtain ⟨u, hu⟩ : ∃ u, l.getD j vc0 = u := ⟨_, rfl⟩
              obtain ⟨t, ht⟩ : ∃ t, S.getD j vc0 = t := ⟨_, rfl⟩
              have hcl := cntV_step ⟨v0, v1, v2, v3⟩ l j (by rw [HN.out]; exact hjl)
              have hcS := cntV_step ⟨v0, v1, v2, v3⟩ S j (by rw [HUP.out.2.2]; exact hjl)
              rw [hu] at pu hcl
              rw [ht] at pt hcS
              obtain ⟨u0, u1, u2, u3⟩ := u
              obtain ⟨t0, t1, t2, t3⟩ := t
              obtain ⟨pu0, pu1, pu2, pu3⟩ := pu
              obtain ⟨pt0, pt1, pt2, pt3⟩ := pt
              obtain ⟨pv0, pv1, pv2, pv3⟩ := pv
              simp only [Nat.zero_mul, Nat.add_zero] at pu0 pu1 pu2 pu3 pt0 pt1 pt2 pt3 pv0 pv1 pv2 pv3
              have j1 : (j : Int) < n := by omega
              have j0 : (0 : Int) ≤ j := by omega
              have HJ := Lib.hid (show wrap64 ((j : Int) + 1) = (j : Int) + 1 from IntWalk.wrap64_in _ (by have := HLE.out; omega))
              have HQD := Lib.hid hQ.out.drew.drew
              have hq1 := fun w => eql_vec ⟨u0, u1, u2, u3⟩ ⟨v0, v1, v2, v3⟩ w
              have hq2 := fun w => eql_vec ⟨t0, t1, t2, t3⟩ ⟨v0, v1, v2, v3⟩ w
              obtain ⟨be1, hbe1⟩ : ∃ be, decide ((⟨u0, u1, u2, u3⟩ : Vec) = ⟨v0, v1, v2, v3⟩) = be := ⟨_, rfl⟩
              obtain ⟨be2, hbe2⟩ : ∃ be, decide ((⟨t0, t1, t2, t3⟩ : Vec) = ⟨v0, v1, v2, v3⟩) = be := ⟨_, rfl⟩
              rw [hbe1] at hq1
              rw [hbe2] at hq2
              simp only [Vec.v, Vec.arr] at hq1 hq2
              have HBE := Lib.hid (And.intro hbe1 hbe2)
              have HC := Lib.hid (And.intro hcl hcS)
              have HCL := Lib.hid (show wrap64 (((cntV ⟨v0, v1, v2, v3⟩ l j : Nat) : Int) + 1) = ((cntV ⟨v0, v1, v2, v3⟩ l j : Nat) : Int) + 1 ∧ wrap64 (((cntV ⟨v0, v1, v2, v3⟩ S j : Nat) : Int) + 1) = ((cntV ⟨v0, v1, v2, v3⟩ S j : Nat) : Int) + 1 from
                ⟨IntWalk.wrap64_in _ (by have := cntV_le ⟨v0, v1, v2, v3⟩ l j; have := HLE.out; omega), IntWalk.wrap64_in _ (by have := cntV_le ⟨v0, v1, v2, v3⟩ S j; have := HLE.out; omega)⟩)
              clear hu ht hcl hcS hj hbe1 hbe2
              cases be1 <;> cases be2
              all_goals
                go_wp2_with fail
                go_big_region
                go_wp2_with fail
                go_big_region
                go_wp2_with fail
                go_roundw
                case rel =>
                  rw [HJ.out]
                  refine ⟨j + 1, hjl, by rw [Int.natCast_add]; rfl, ?_, ?_, HQD⟩
                  · first
                      | (rw [HCL.out.1, HC.out.1, if_pos (of_decide_eq_true HBE.out.1), Int.natCast_add]; rfl)
                      | rw [HC.out.1, if_neg (of_decide_eq_false HBE.out.1), Nat.add_zero]
                  · first
                      | (rw [HCL.out.2, HC.out.2, if_pos (of_decide_eq_true HBE.out.2), Int.natCast_add]; rfl)
                      | rw [HC.out.2, if_neg (of_decide_eq_false HBE.out.2), Nat.add_zero]
                case measure =>
                  rw [HJ.out]
                  show n - ((j : Int) + 1).toNat < n - ((j : Int)).toNat
                  omega
            · obtain rfl : n = j := by omega
              have hcp := cntV_perm ⟨v0, v1, v2, v3⟩ HUP.out.2.1 n HUP.out.2.2
              rw [hcp]
              clear hcp
              go_wp2_with fail
              go_roundw
              case rel =>
                exact ⟨1, hlt, rfl, hQ⟩
              case measure =>
                show n - 1 < n - 0
                omega
        · obtain ⟨im, him⟩ : ∃ im : Nat, i = im + 1 := ⟨i - 1, by omega⟩
          obtain ⟨um, hum⟩ : ∃ um, S.getD im vc0 = um := ⟨_, rfl⟩
          have hnb : decide (ltV (⟨v0, v1, v2, v3⟩ : Vec) um) = false := decide_eq_false (by
            have := HUP.out.1 im (by omega)
            rw [← him, hv, hum] at this
            exact this)
          obtain ⟨b', o', e', _, pm⟩ := hR.out.one im (by rw [HUP.out.2.2]; omega)
          injection e' with e'
          injection e' with e1 e2
          subst e1 e2
          rw [hum] at pm
          obtain ⟨m0, m1, m2, m3⟩ := um
          obtain ⟨pm0, pm1, pm2, pm3⟩ := pm
          simp only at pm0 pm1 pm2 pm3
          have hbt := fun w => rbetter_any ⟨v0, v1, v2, v3⟩ ⟨m0, m1, m2, m3⟩ w
          rw [hnb] at hbt
          simp only [Vec.v, Vec.arr] at hbt
          have HBT := Lib.hid hbt
          have hm2 : IntKind.i64.wrap ((i : Int) - 1) = (im : Int) := (IntWalk.i64_in ((i : Int) - 1) (by have := HLE.out; omega)).trans (by omega)
          have hm3 : (im : Int) < n := by omega
          have hm4 : (0 : Int) ≤ im := by omega
          have hm5 : decide ((0 : Int) < (i : Int)) = true := decide_eq_true (by omega)
          have hm6 : 0 < i := by omega
          have HRD0 := Lib.hid hR.out.drew
          have HMK := Lib.hid (fun (w' : World) (b9 : Below wr.drew.heap.size wr.drew w') => (show w'.cell? ⟨ba, oa + i * 4, none⟩ = some (.int .i64 v0) ∧ w'.cell? ⟨ba, oa + i * 4 + 1, none⟩ = some (.int .i64 v1) ∧ w'.cell? ⟨ba, oa + i * 4 + 2, none⟩ = some (.int .i64 v2) ∧ w'.cell? ⟨ba, oa + i * 4 + 3, none⟩ = some (.int .i64 v3) ∧ w'.cell? ⟨bb, ob + i * 4, none⟩ = some (.int .i64 v0) ∧ w'.cell? ⟨bb, ob + i * 4 + 1, none⟩ = some (.int .i64 v1) ∧ w'.cell? ⟨bb, ob + i * 4 + 2, none⟩ = some (.int .i64 v2) ∧ w'.cell? ⟨bb, ob + i * 4 + 3, none⟩ = some (.int .i64 v3) ∧ w'.cell? ⟨ba, oa + im * 4, none⟩ = some (.int .i64 m0) ∧ w'.cell? ⟨ba, oa + im * 4 + 1, none⟩ = some (.int .i64 m1) ∧ w'.cell? ⟨ba, oa + im * 4 + 2, none⟩ = some (.int .i64 m2) ∧ w'.cell? ⟨ba, oa + im * 4 + 3, none⟩ = some (.int .i64 m3) from ⟨(b9.cell (p := ⟨ba, oa + i * 4, none⟩) hla).trans pa0, (b9.cell (p := ⟨ba, oa + i * 4 + 1, none⟩) hla).trans pa1, (b9.cell (p := ⟨ba, oa + i * 4 + 2, none⟩) hla).trans pa2, (b9.cell (p := ⟨ba, oa + i * 4 + 3, none⟩) hla).trans pa3, (b9.cell (p := ⟨bb, ob + i * 4, none⟩) hlb).trans pb0, (b9.cell (p := ⟨bb, ob + i * 4 + 1, none⟩) hlb).trans pb1, (b9.cell (p := ⟨bb, ob + i * 4 + 2, none⟩) hlb).trans pb2, (b9.cell (p := ⟨bb, ob + i * 4 + 3, none⟩) hlb).trans pb3, (b9.cell (p := ⟨ba, oa + im * 4, none⟩) hla).trans pm0, (b9.cell (p := ⟨ba, oa + im * 4 + 1, none⟩) hla).trans pm1, (b9.cell (p := ⟨ba, oa + im * 4 + 2, none⟩) hla).trans pm2, (b9.cell (p := ⟨ba, oa + im * 4 + 3, none⟩) hla).trans pm3⟩))
          have HMS := Lib.hid (HMK.out _ (Below.refl _ _))
          clear hv hi hz him hum hnb hbt hla hlb
          go_wp2_with fail
          clear pa0 pa1 pa2 pa3 pb0 pb1 pb2 pb3 pm0 pm1 pm2 pm3
          go_region_held3 (fun w' => w'.cell? ⟨ba, oa + i * 4, none⟩ = some (.int .i64 v0) ∧ w'.cell? ⟨ba, oa + i * 4 + 1, none⟩ = some (.int .i64 v1) ∧ w'.cell? ⟨ba, oa + i * 4 + 2, none⟩ = some (.int .i64 v2) ∧ w'.cell? ⟨ba, oa + i * 4 + 3, none⟩ = some (.int .i64 v3) ∧
            w'.cell? ⟨bb, ob + i * 4, none⟩ = some (.int .i64 v0) ∧ w'.cell? ⟨bb, ob + i * 4 + 1, none⟩ = some (.int .i64 v1) ∧ w'.cell? ⟨bb, ob + i * 4 + 2, none⟩ = some (.int .i64 v2) ∧ w'.cell? ⟨bb, ob + i * 4 + 3, none⟩ = some (.int .i64 v3) ∧
            w'.cell? ⟨ba, oa + im * 4, none⟩ = some (.int .i64 m0) ∧ w'.cell? ⟨ba, oa + im * 4 + 1, none⟩ = some (.int .i64 m1) ∧ w'.cell? ⟨ba, oa + im * 4 + 2, none⟩ = some (.int .i64 m2) ∧ w'.cell? ⟨ba, oa + im * 4 + 3, none⟩ = some (.int .i64 m3))
            (first
              | exact HMS.out
              | exact HM9)
            (first
              | (go_at_call 27; (with_reducible (refine (HBT.out _).mono ?_)); rintro e w9 ⟨rfl, b9⟩; have HRD := Lib.hid (HRD0.out.go b9); have HM9 := HMK.out _ b9))
          all_goals
            clear hm2 b9 HM9
            go_wp2_with fail
            go_loopw [10, 11, 83] (fun xv yv jv wq => ∃ j : Nat, j ≤ n ∧ jv = .int .i64 j ∧ xv = .int .i64 (cntV ⟨v0, v1, v2, v3⟩ l j : Nat) ∧ yv = .int .i64 (cntV ⟨v0, v1, v2, v3⟩ S j : Nat) ∧ Hid (SSt w wq (some ⟨b, off, none⟩) (some ⟨ba, oa, none⟩) (some ⟨bb, ob, none⟩) l S)) (fun _ _ jv _ => n - (intOf jv).toNat)
            case atStart => exact ⟨0, Nat.zero_le _, rfl, rfl, rfl, HRD⟩
            case round =>
              obtain ⟨j, hj, rfl, rfl, rfl, hQ⟩ := hrel
              by_cases hjl : j < n
              · obtain ⟨b', o', e', _, pv⟩ := hQ.out.one i (by rw [HUP.out.2.2]; exact hlt)
                injection e' with e'
                injection e' with e1 e2
                subst e1 e2
                rw [HV.out] at pv
                obtain ⟨b', o', e', _, pu⟩ := hQ.out.arg j (by rw [HN.out]; exact hjl)
                injection e' with e'
                injection e' with e1 e2
                subst e1 e2
                obtain ⟨b', o', e', _, pt⟩ := hQ.out.one j (by rw [HUP.out.2.2]; exact hjl)
                injection e' with e'
                injection e' with e1 e2
                subst e1 e2
                obtain ⟨u, hu⟩ : ∃ u, l.getD j vc0 = u := ⟨_, rfl⟩
                obtain ⟨t, ht⟩ : ∃ t, S.getD j vc0 = t := ⟨_, rfl⟩
                have hcl := cntV_step ⟨v0, v1, v2, v3⟩ l j (by rw [HN.out]; exact hjl)
                have hcS := cntV_step ⟨v0, v1, v2, v3⟩ S j (by rw [HUP.out.2.2]; exact hjl)
                rw [hu] at pu hcl
                rw [ht] at pt hcS
                obtain ⟨u0, u1, u2, u3⟩ := u
                obtain ⟨t0, t1, t2, t3⟩ := t
                obtain ⟨pu0, pu1, pu2, pu3⟩ := pu
                obtain ⟨pt0, pt1, pt2, pt3⟩ := pt
                obtain ⟨pv0, pv1, pv2, pv3⟩ := pv
                simp only at pu0 pu1 pu2 pu3 pt0 pt1 pt2 pt3 pv0 pv1 pv2 pv3
                have j1 : (j : Int) < n := by omega
                have j0 : (0 : Int) ≤ j := by omega
                have HJ := Lib.hid (show wrap64 ((j : Int) + 1) = (j : Int) + 1 from IntWalk.wrap64_in _ (by have := HLE.out; omega))
                have HQD := Lib.hid hQ.out.drew.drew
                have hq1 := fun w => eql_vec ⟨u0, u1, u2, u3⟩ ⟨v0, v1, v2, v3⟩ w
                have hq2 := fun w => eql_vec ⟨t0, t1, t2, t3⟩ ⟨v0, v1, v2, v3⟩ w
                obtain ⟨be1, hbe1⟩ : ∃ be, decide ((⟨u0, u1, u2, u3⟩ : Vec) = ⟨v0, v1, v2, v3⟩) = be := ⟨_, rfl⟩
                obtain ⟨be2, hbe2⟩ : ∃ be, decide ((⟨t0, t1, t2, t3⟩ : Vec) = ⟨v0, v1, v2, v3⟩) = be := ⟨_, rfl⟩
                rw [hbe1] at hq1
                rw [hbe2] at hq2
                simp only [Vec.v, Vec.arr] at hq1 hq2
                have HBE := Lib.hid (And.intro hbe1 hbe2)
                have HC := Lib.hid (And.intro hcl hcS)
                have HCL := Lib.hid (show wrap64 (((cntV ⟨v0, v1, v2, v3⟩ l j : Nat) : Int) + 1) = ((cntV ⟨v0, v1, v2, v3⟩ l j : Nat) : Int) + 1 ∧ wrap64 (((cntV ⟨v0, v1, v2, v3⟩ S j : Nat) : Int) + 1) = ((cntV ⟨v0, v1, v2, v3⟩ S j : Nat) : Int) + 1 from
                  ⟨IntWalk.wrap64_in _ (by have := cntV_le ⟨v0, v1, v2, v3⟩ l j; have := HLE.out; omega), IntWalk.wrap64_in _ (by have := cntV_le ⟨v0, v1, v2, v3⟩ S j; have := HLE.out; omega)⟩)
                clear hu ht hcl hcS hj hbe1 hbe2
                cases be1 <;> cases be2
                all_goals
                  go_wp2_with fail
                  go_big_region
                  go_wp2_with fail
                  go_big_region
                  go_wp2_with fail
                  go_roundw
                  case rel =>
                    rw [HJ.out]
                    refine ⟨j + 1, hjl, by rw [Int.natCast_add]; rfl, ?_, ?_, HQD⟩
                    · first
                        | (rw [HCL.out.1, HC.out.1, if_pos (of_decide_eq_true HBE.out.1), Int.natCast_add]; rfl)
                        | rw [HC.out.1, if_neg (of_decide_eq_false HBE.out.1), Nat.add_zero]
                    · first
                        | (rw [HCL.out.2, HC.out.2, if_pos (of_decide_eq_true HBE.out.2), Int.natCast_add]; rfl)
                        | rw [HC.out.2, if_neg (of_decide_eq_false HBE.out.2), Nat.add_zero]
                  case measure =>
                    rw [HJ.out]
                    show n - ((j : Int) + 1).toNat < n - ((j : Int)).toNat
                    omega
              · obtain rfl : n = j := by omega
                have hcp := cntV_perm ⟨v0, v1, v2, v3⟩ HUP.out.2.1 n HUP.out.2.2
                rw [hcp]
                clear hcp
                go_wp2_with fail
                go_roundw
                case rel =>
                  rw [HI.out]
                  exact ⟨i + 1, hlt, by rw [Int.natCast_add]; rfl, hQ⟩
                case measure =>
                  rw [HI.out]
                  show n - (((i : Nat) : Int) + 1).toNat < n - (((i : Nat) : Int)).toNat
                  omega
      · obtain rfl : n = i := by omega
        go_wp2_with fail
        go_ret
        exact ⟨rfl, hR.out.bel⟩
set_option maxRecDepth 100000 in
theorem liftedPrioSorted (os : Os) (started : os.Started) (H : Type) (enc : TypeId × Value → H) :
    ReturnsInHanded {} Try.checked os 10 .any (Rows.prioSortedSpec.pre6 enc Try.prog Try.f10 Rows.prioSortedRow.domain false) (Rows.prioSortedSpec.post enc Try.prog Try.f10 false true false false) := by
  refine returnsInHanded_of_change (C := Try.checked) own started (by kernel_rfl) Try.func10
    (ChangeSpec.witness6 (enc := enc) (C := Try.checked) false ⟨#[], #[.slice none 0 0, .int .i64 0], []⟩ 8 (by kernel_rfl) (by kernel_rfl) (by kernel_rfl) (by kernel_rfl)) ?_
  intro W base args ds gs before hval0 hW hcnd _
  have hval : ∀ (j : Nat) t v, Try.f10.params[j]? = some t → args[j]? = some v → Value.okWide Try.prog W .any base t v := hval0
  have hW' := hW
  obtain ⟨p, q, hA0, hV, rfl, hfz, hnd⟩ := hW
  have hA : DataW.TrodAll enc Try.prog W 0 (fun _ => true) true Try.f10.params.toList args.toList ds p := hA0
  rw [Try.params10] at hA hval
  obtain ⟨v0, vs0, d0, ds0, p0, q0, hargs, rfl, rfl, h0, r0⟩ := trodAll_cons hA
  obtain ⟨v1, vs1, d1, ds1, p1, q1, rfl, rfl, rfl, h1, r1⟩ := trodAll_cons r0
  obtain ⟨rfl, rfl, rfl⟩ := trodAll_nil r1
  obtain rfl : args = #[v0, v1] := by cases args; simp_all
  obtain ⟨rfl, rfl⟩ := trodVars_none hV
  obtain ⟨a0', len0', cap0', rfl⟩ := okWide_slice Try.underlying67 (hval 0 67 v0 rfl rfl)
  have k0 := h0
  have lt0 : ∀ x ∈ p0, x.block < W.heap.size := by obtain ⟨m, hm⟩ := k0; exact DataW.trod_lt m _ _ _ hm
  obtain ⟨a0, cap0, l0, w0, e1, e2, e3⟩ : ∃ a cap, ∃ l : List Vec, (VecAt W W.heap.size a l ∧ (∀ x ∈ l, x.ok) ∧ l.length ≤ cap) ∧ a0' = a ∧ len0' = l.length ∧ cap0' = cap := by
    obtain ⟨fuel, hf⟩ := h0
    obtain ⟨a, cap, l, hcs, q⟩ := open_vecs hf
    simp [Value.cells] at hcs
    obtain ⟨rfl, rfl, rfl⟩ := hcs
    exact ⟨_, _, l, q, rfl, rfl, rfl⟩
  subst e1 e2 e3
  obtain ⟨a1, rfl, rfl, rfl, w1⟩ := open_int Try.underlying3 (hval 1 3 v1 rfl rfl) h1
  clear hA0 hval0
  refine (walkPrioSorted a0' cap0' l0 a1 W w0 w1).mono fun e W' ⟨he, bel⟩ => ?_
  subst he
  exact ⟨_, rfl, _, _, _, [], _, [], hW', trodAll_mk1 (shut_bool Try.underlying4 _), (trodAll_cons_mk (Below.trod laidOut (by kernel_rfl) (of_decide_eq_true (by kernel_rfl)) k0 bel lt0) (trodAll_cons_mk (shut_int Try.underlying3 w1) trodAll_mk0)), rfl, bel.frame _, fun h => by cases h⟩

theorem overPrioSorted : Rows.prioSortedRow.holds Try.pinned (OpenSpec.ofChange Rows.prioSortedSpec) :=
  OpenClaim.holds_of_wide 10 Try.f10 rfl rfl rfl rfl rfl rfl rfl ⟨rfl, rfl, rfl, rfl, rfl⟩ rfl rfl rfl rfl rfl (by kernel_rfl) Try.func10 (by kernel_rfl)
    (of_decide_eq_true (by kernel_rfl)) (by unfold Func.isWrapper; first | (rw [if_pos (by decide +kernel)]; kernel_rfl) | (rw [if_neg (by decide +kernel)]; exact ⟨rfl, rfl⟩))
    (fun os started H enc _ => liftedPrioSorted os started H enc)

/-- The statement. -/
theorem prioSorted_holds : Rows.PrioSortedSaid := overPrioSorted

#print axioms prioSorted_holds
end Go.Proofs.Ytogghcbijdljkaa
