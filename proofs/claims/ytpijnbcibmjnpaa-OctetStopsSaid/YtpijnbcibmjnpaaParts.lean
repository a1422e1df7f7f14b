/- OctetParts: what is written in two parts is one text behind the other, and read in two parts it is the same as at once. No condition. -/
import Derived.Test.YtpijnbcibmjnpaaPuts
namespace Go.Proofs.Ytpijnbcibmjnpaa
open Go.ChangeShapes Go.WideShapes Go.ChangeAt Go.RowKit
open Go.ChangeMaps (open_string shut_string)

def fours (ns : List Int) : Nat → List UInt8
  | 0 => []
  | i + 1 => fours ns i ++ be (ns.getD i 0) 4
theorem fours_len (ns : List Int) (i : Nat) : (fours ns i).length = 4 * i := by
  induction i with
  | zero => rfl
  | succ i ih => simp only [fours, List.length_append, be_length, ih]; omega
theorem fours_take (ns : List Int) {m k : Nat} (h : m ≤ k) : (fours ns k).take (4 * m) = fours ns m := by
  induction k with
  | zero =>
    obtain rfl : m = 0 := by omega
    rfl
  | succ k ih =>
    by_cases hm : m = k + 1
    · subst hm
      exact List.take_of_length_le (by rw [fours_len]; omega)
    · rw [fours, List.take_append_of_le_length (by rw [fours_len]; omega)]
      exact ih (by omega)
/-- What stands behind the first m numbers. -/
def behind (ns : List Int) (m k : Nat) : List UInt8 := (fours ns k).drop (4 * m)
theorem behind_join (ns : List Int) {m k : Nat} (h : m ≤ k) : fours ns m ++ behind ns m k = fours ns k := by
  rw [← fours_take ns h, behind, List.take_append_drop]
theorem behind_self (ns : List Int) (m : Nat) : behind ns m m = [] := List.drop_of_length_le (by rw [fours_len]; omega)
theorem behind_succ (ns : List Int) {m k : Nat} (h : m ≤ k) : behind ns m (k + 1) = behind ns m k ++ be (ns.getD k 0) 4 := by
  rw [behind, fours, List.drop_append_of_le_length (by rw [fours_len]; omega), behind]

/-- No block of the one is a block of the other. -/
def Sep (v v' : Value) : Prop := ∀ j, v.ownBlock = some j → v'.ownBlock ≠ some j
theorem Sep.symm {v v' : Value} (h : Sep v v') : Sep v' v := fun j hj hk => h j hk hj
theorem Sep.moved {w : World} {v v2 v' : Value} (h : Sep v v') (hm : Moved w v v2) (hl : ∀ j, v'.ownBlock = some j → j < w.heap.size) : Sep v2 v' := by
  intro j hj hk
  rcases hm with hm | ⟨k, hk2, hm⟩
  · exact h j (hm.symm.trans hj) hk
  · rw [hm] at hj; injection hj with hj; have := hl j hk; omega
theorem IsW.own_ne {w : World} {g g' : Nat} {v v' : Value} {l l' : List UInt8} (h : IsW w g v l) (h' : IsW w g' v' l') : v.ownBlock ≠ some g' := by
  have : IsW w g' v' l' := h'
  rcases h.own.2 with ⟨rfl, _⟩ | ⟨k, cap, cur, rfl, _, hk, _⟩
  · simp [Value.ownBlock]
  · intro he
    have : k = g' := by simpa [Value.ownBlock] using he
    subst this
    have hb := h'.blk
    unfold Blk at hb
    rw [hk] at hb
    injection hb with hb
    injection hb with _ ht
    exact absurd ht (by decide)
theorem IsW.other {w w2 : World} {g g' : Nat} {v v' : Value} {l l' : List UInt8} (h : IsW w g v l) (h' : IsW w g' v' l') (hg : g' ≠ g) (hs : Sep v v') (ht : Touch (FootW g v) w w2) : IsW w2 g' v' l' := by
  refine h'.touch ht ?_
  intro k hk hf
  rcases hk with rfl | hk
  · rcases hf with hf | hf
    · exact hg hf
    · exact h.own_ne h' hf
  · rcases hf with rfl | hf
    · exact h'.own_ne h hk
    · exact hs k hf hk

theorem IsW.new_ (w : World) (g : Nat) (hg : g = w.heap.size) : IsW (w.alloc (.cells #[.slice none 0 0] 27)) g (.slice none 0 0) [] := by
  subst hg
  exact IsW.new w
theorem IsW.alloc {w : World} {g : Nat} {v : Value} {l : List UInt8} (h : IsW w g v l) (o : Obj) : IsW (w.alloc o) g v l :=
  h.touch (p := fun _ => False) ((Touch.refl _ w).alloc o) (fun _ _ h => h)

theorem bytes_ext {a b : ByteArray} (h : a.data.toList = b.data.toList) : a = b := congrArg ByteArray.mk (Array.ext' h)
theorem ext_join (T : ByteArray) (a b : Nat) (hb : T.size = b) (h : a ≤ b) : T.extract 0 a ++ T.extract a b = T := by
  refine bytes_ext ?_
  subst hb
  have h1 := ext_list T 0 a
  have h2 := ext_list T a (T.size - a)
  rw [Nat.zero_add] at h1
  rw [show a + (T.size - a) = T.size from by omega] at h2
  rw [ByteArray.data_append, Array.toList_append, h1, h2, List.drop_zero]
  have hl : T.data.toList.length = T.size := Array.length_toList
  rw [List.take_of_length_le (i := T.size - a) (by rw [List.length_drop]; omega), List.take_append_drop]
theorem read_at (T : ByteArray) (p n : Nat) (h : p + n ≤ T.size) : (RdS.mk T p false).text (n : Int) = T.extract p (p + n) ∧ (RdS.mk T p false).take (n : Int) = ⟨T, p + n, false⟩ := by
  have hc : (RdS.mk T p false).can n = true := by
    simp only [RdS.can, Bool.not_false, Bool.true_and, Bool.and_eq_true, decide_eq_true_eq]
    omega
  exact ⟨by rw [RdS.text, if_pos hc, Int.toNat_natCast], by rw [RdS.take, if_pos hc, Int.toNat_natCast]⟩
theorem read_all (T : ByteArray) (k : Nat) (h : T.size = 4 * k) : (RdS.mk T 0 false).text (4 * (k : Int)) = T ∧ (RdS.mk T 0 false).take (4 * (k : Int)) = ⟨T, T.size, false⟩ := by
  have := read_at T 0 (4 * k) (by omega)
  rw [show ((4 * k : Nat) : Int) = 4 * (k : Int) from by omega, Nat.zero_add] at this
  refine ⟨this.1.trans (bytes_ext ?_), by rw [this.2, h]⟩
  have h1 := ext_list T 0 (4 * k)
  rw [Nat.zero_add] at h1
  rw [h1, List.drop_zero]
  have hl : T.data.toList.length = T.size := Array.length_toList
  exact List.take_of_length_le (by omega)
theorem read_front (T : ByteArray) (k c : Nat) (h : T.size = 4 * k) (hc : c ≤ k) : (RdS.mk T 0 false).text (4 * (c : Int)) = T.extract 0 (4 * c) ∧ (RdS.mk T 0 false).take (4 * (c : Int)) = ⟨T, 4 * c, false⟩ := by
  have := read_at T 0 (4 * c) (by omega)
  rw [show ((4 * c : Nat) : Int) = 4 * (c : Int) from by omega, Nat.zero_add] at this
  exact this
theorem read_rest (T : ByteArray) (k c : Nat) (h : T.size = 4 * k) (hc : c ≤ k) : (RdS.mk T (4 * c) false).text (4 * ((k : Int) - (c : Int))) = T.extract (4 * c) (4 * k) ∧ (RdS.mk T (4 * c) false).take (4 * ((k : Int) - (c : Int))) = ⟨T, T.size, false⟩ := by
  have := read_at T (4 * c) (4 * (k - c)) (by omega)
  rw [show ((4 * (k - c) : Nat) : Int) = 4 * ((k : Int) - (c : Int)) from by omega, show 4 * c + 4 * (k - c) = 4 * k from by omega] at this
  exact ⟨this.1, by rw [this.2, h]⟩

set_option maxHeartbeats 4000000 in
theorem walkOctetParts (a0 : Option Addr) (len0 cap0 : Nat) (z0 : List Int) (c : Int) (w : World) (h0 : IsRow .i64 w a0 len0 cap0 z0) (_h1 : (Lit.int .i64 c).wf = true) :
    Calls Try.prog 7 #[.slice a0 len0 cap0, .int .i64 c] w fun e w' => e = .returned (.bool true) ∧ Below w.heap.size w w' := by
  by_cases hg : len0 ≤ 100 ∧ 0 ≤ c ∧ c ≤ len0
  · obtain ⟨g1, g2, g3⟩ := hg
    obtain ⟨cut, rfl⟩ := Int.eq_ofNat_of_zero_le g2
    have g4 : cut ≤ len0 := by omega
    have d1 : decide ((100 : Int) < (len0 : Int)) = false := by simp; omega
    have d2 : decide ((cut : Int) < 0) = false := by simp
    have d3 : decide (len0 < cut) = false := by simp; omega
    clear g2 g3
    go_enter Try.func7, Try.ntmps7
    go_wp2_with fail
    refine (alive_any _).mono ?_
    rintro e w1 ⟨rfl, b1⟩
    go_wp2_with fail
    have hB : w.heap.size ≤ w1.heap.size := b1.size
    go_loopw [37] (fun i wr => ∃ (k : Nat) (va vb vc : Value), k ≤ len0 ∧ i = .int .i64 k ∧ IsW wr w1.heap.size va (fours z0 k) ∧ IsW wr (w1.heap.size + 1) vb (fours z0 (min k cut)) ∧ IsW wr (w1.heap.size + 1 + 1) vc (behind z0 (min k cut) k) ∧
      (OwnFrom w.heap.size va ∧ OwnFrom w.heap.size vb ∧ OwnFrom w.heap.size vc) ∧ (Sep va vb ∧ Sep va vc ∧ Sep vb vc) ∧ Below w.heap.size w wr) (fun i _ => len0 - (intOf i).toNat)
    case atStart =>
      refine ⟨0, .slice none 0 0, .slice none 0 0, .slice none 0 0, Nat.zero_le _, rfl, ?_, ?_, ?_, ⟨OwnFrom.none _ _ _, OwnFrom.none _ _ _, OwnFrom.none _ _ _⟩, ⟨?_, ?_, ?_⟩, ((b1.alloc hB _).alloc (by simp; omega) _).alloc (by simp; omega) _⟩
      · exact ((IsW.new w1).alloc _).alloc _
      · rw [Nat.zero_min]; exact IsW.alloc (IsW.new_ (w1.alloc _) _ (by simp)) _
      · rw [Nat.zero_min]; exact IsW.new_ ((w1.alloc _).alloc _) _ (by simp)
      all_goals (intro j hj; simp [Value.ownBlock] at hj)
    case round =>
      obtain ⟨k, va, vb, vc, hk, rfl, ha, hb, hc, ⟨oa, ob, oc⟩, ⟨sab, sac, sbc⟩, hw⟩ := hrel
      by_cases hlt : k < len0
      · obtain ⟨b, off, rfl, hbl, hce⟩ := h0.at_ hlt
        have c0 : wr.cell? ⟨b, off + k, none⟩ = some (.int .i64 (z0.getD k 0)) := (hw.cell (p := ⟨b, off + k, none⟩) hbl).trans hce
        have hs1 : fours z0 (k + 1) = fours z0 k ++ be (z0.getD k 0) (near 4 8).toNat := rfl
        have hl1 := fours_len z0 k
        have hl2 := fours_len z0 (min k cut)
        have hl3 : (behind z0 (min k cut) k).length ≤ 4 * k := by rw [behind, List.length_drop, fours_len]; omega
        have hs2 : k < cut → fours z0 (min (k + 1) cut) = fours z0 (min k cut) ++ be (z0.getD k 0) (near 4 8).toNat ∧ behind z0 (min (k + 1) cut) (k + 1) = behind z0 (min k cut) k := by
          intro h
          rw [Nat.min_eq_left (by omega), Nat.min_eq_left (by omega), behind_self, behind_self]
          exact ⟨rfl, rfl⟩
        have hs3 : ¬ k < cut → fours z0 (min (k + 1) cut) = fours z0 (min k cut) ∧ behind z0 (min (k + 1) cut) (k + 1) = behind z0 (min k cut) k ++ be (z0.getD k 0) (near 4 8).toNat := by
          intro h
          rw [Nat.min_eq_right (by omega), Nat.min_eq_right (by omega), behind_succ z0 (by omega)]
          exact ⟨rfl, rfl⟩
        generalize hnk : z0.getD k 0 = nk at *
        have H1 := Lib.hid hs1
        have H2 := Lib.hid hs2
        have H3 := Lib.hid hs3
        have L1 : (fours z0 k).length ≤ 1000 := by omega
        have L2 : (fours z0 (min k cut)).length ≤ 1000 := by omega
        have L3 : (behind z0 (min k cut) k).length ≤ 1000 := by omega
        clear hnk hs1 hs2 hs3 hl1 hl2 hl3 hce
        go_wp2_with fail
        refine (put_any _ va _ _ _ _ ha (by omega)).mono ?_
        rintro e w2 ⟨rfl, va2, ha2, t2, m2⟩
        rw [← H1.out] at ha2
        have hb2 := ha.other hb (by omega) sab t2
        have hc2 := ha.other hc (by omega) sac t2
        have oa2 := oa.moved m2 hw.size
        have hw2' := oa.below hB hw.size t2
        have hw2 := hw.trans hw2'
        have sab2 := sab.moved m2 (fun j hj => own_lt hb.own hj)
        have sac2 := sac.moved m2 (fun j hj => own_lt hc.own hj)
        clear ha hb hc t2 m2 oa sab sac hw hw2' c0
        by_cases hkc : k < cut
        · go_wp2_with fail
          refine (put_any _ vb _ _ _ _ hb2 (by omega)).mono ?_
          rintro e w3 ⟨rfl, vb3, hb3, t3, m3⟩
          rw [← (H2.out hkc).1] at hb3
          have ha3 := hb2.other ha2 (by omega) sab2.symm t3
          have hc3 := hb2.other hc2 (by omega) sbc t3
          rw [← (H2.out hkc).2] at hc3
          have ob3 := ob.moved m3 hw2.size
          have hw3 := hw2.trans (ob.below (by omega) hw2.size t3)
          have sab3 := (sab2.symm.moved m3 (fun j hj => own_lt ha2.own hj)).symm
          have sbc3 := sbc.moved m3 (fun j hj => own_lt hc2.own hj)
          clear ha2 hb2 hc2 t3 m3 ob sab2 sbc hw2
          go_wp2_with fail
          go_roundw
          case rel => exact ⟨k + 1, va2, vb3, vc, by omega, by go_num, ha3, hb3, hc3, ⟨oa2, ob3, oc⟩, ⟨sab3, sac2, sbc3⟩, hw3⟩
          case measure => simp [intOf]; omega
        · go_wp2_with fail
          refine (put_any _ vc _ _ _ _ hc2 (by omega)).mono ?_
          rintro e w3 ⟨rfl, vc3, hc3, t3, m3⟩
          rw [← (H3.out hkc).2] at hc3
          have ha3 := hc2.other ha2 (by omega) sac2.symm t3
          have hb3 := hc2.other hb2 (by omega) sbc.symm t3
          rw [← (H3.out hkc).1] at hb3
          have oc3 := oc.moved m3 hw2.size
          have hw3 := hw2.trans (oc.below (by omega) hw2.size t3)
          have sac3 := (sac2.symm.moved m3 (fun j hj => own_lt ha2.own hj)).symm
          have sbc3 := (sbc.symm.moved m3 (fun j hj => own_lt hb2.own hj)).symm
          clear ha2 hb2 hc2 t3 m3 oc sac2 sbc hw2
          go_wp2_with fail
          go_roundw
          case rel => exact ⟨k + 1, va2, vb, vc3, by omega, by go_num, ha3, hb3, hc3, ⟨oa2, ob, oc3⟩, ⟨sab2, sac3, sbc3⟩, hw3⟩
          case measure => simp [intOf]; omega
      · obtain rfl : k = len0 := by omega
        rw [Nat.min_eq_right g4] at hb hc
        clear hlt hk oa ob oc sab sac sbc
        go_wp2_with fail
        refine (wtext_any _ va _ _ ha).mono ?_
        rintro e w2 ⟨rfl, rfl⟩
        go_wp2_with fail
        refine (wtext_any _ vb _ _ hb).mono ?_
        rintro e w2 ⟨rfl, rfl⟩
        go_wp2_with fail
        refine (wtext_any _ vc _ _ hc).mono ?_
        rintro e w2 ⟨rfl, rfl⟩
        have hsz : (strOf (fours z0 cut)).size + (strOf (behind z0 cut k)).size ≤ 9000 := by
          rw [strOf_size, strOf_size, fours_len, behind, List.length_drop, fours_len]; omega
        have hj : strOf (fours z0 cut) ++ strOf (behind z0 cut k) = strOf (fours z0 k) := by rw [← strOf_append, behind_join z0 g4]
        have f1 : ∀ l : List UInt8, (⟨l.toArray⟩ : ByteArray) = strOf l := fun _ => rfl
        rw [f1, f1, f1]
        have hT : (strOf (fours z0 k)).size = 4 * k := by rw [strOf_size, fours_len]
        have hTc : (strOf (fours z0 k)).extract 0 (4 * cut) ++ (strOf (fours z0 k)).extract (4 * cut) (4 * k) = strOf (fours z0 k) := ext_join _ _ _ hT (by omega)
        generalize hT0 : strOf (fours z0 k) = T at *
        generalize strOf (fours z0 cut) = T1 at *
        generalize strOf (behind z0 cut k) = T2 at *
        have HT0 := Lib.hid hT0
        have HTc := Lib.hid hTc
        have HTs := Lib.hid hT
        have hTb : T.size ≤ 9223372036854775807 := by omega
        clear hb hc f1 hT0 hTc hT
        go_wp2_with fail
        refine (wtext_any _ va _ _ ha).mono ?_
        rintro e w2 ⟨rfl, rfl⟩
        rw [show (⟨(fours z0 k).toArray⟩ : ByteArray) = T from HT0.out]
        go_wp2_with fail
        refine (open_any _ _).mono ?_
        rintro e w2 ⟨rfl, r2, b2⟩
        have ha2 : IsW w2 w1.heap.size va (fours z0 k) := ha.touch (Below.touch b2) (by
          intro j hj hle
          change wr.heap.size ≤ j at hle
          rcases hj with rfl | hj
          · have := ha.blk.lt; omega
          · have := own_lt ha.own hj; omega)
        clear ha
        go_wp2_with fail
        refine (wtext_any _ va _ _ ha2).mono ?_
        rintro e w3 ⟨rfl, rfl⟩
        rw [show (⟨(fours z0 k).toArray⟩ : ByteArray) = T from HT0.out]
        clear ha2
        go_wp2_with fail
        refine (open_any _ _).mono ?_
        rintro e w3 ⟨rfl, r3, b3⟩
        have r2' : IsR w3 wr.heap.size ⟨T, 0, false⟩ := Blk.below r2 b3 (Blk.lt r2)
        have hlt2 : wr.heap.size < w2.heap.size := Blk.lt r2
        have hw2 := hw.trans (b2.mono hw.size)
        have hw3 := hw2.trans (b3.mono hw2.size)
        have hok0 : (RdS.mk T 0 false).ok := ⟨Nat.zero_le _, hTb⟩
        have hs2 := hw.size
        have hs3 := hw2.size
        clear r2 b2 b3 hw hw2
        go_wp2_with fail
        refine (raw_any _ _ _ _ r2' hok0 (by omega)).mono ?_
        rintro e w4 ⟨rfl, r4, t4⟩
        have r4s : IsR w4 w2.heap.size ⟨T, 0, false⟩ := Blk.touch r3 t4 (by omega)
        have hw4 := hw3.trans (t4.below hw3.size (by rintro j rfl; exact hs2))
        have e1 : (RdS.mk T 0 false).text (4 * (k : Int)) = T ∧ (RdS.mk T 0 false).take (4 * (k : Int)) = ⟨T, T.size, false⟩ := read_all T k HTs.out
        rw [e1.1]
        rw [e1.2] at r4
        clear r2' r3 t4 hw3 e1
        go_wp2_with fail
        refine (raw_any _ _ _ _ r4s hok0 (by omega)).mono ?_
        rintro e w5 ⟨rfl, r5s, t5⟩
        have r5 : IsR w5 wr.heap.size ⟨T, T.size, false⟩ := Blk.touch r4 t5 (by omega)
        have hw5 := hw4.trans (t5.below hw4.size (by rintro j rfl; exact hs3))
        have e2 : (RdS.mk T 0 false).text (4 * (cut : Int)) = T.extract 0 (4 * cut) ∧ (RdS.mk T 0 false).take (4 * (cut : Int)) = ⟨T, 4 * cut, false⟩ := read_front T k cut HTs.out g4
        rw [e2.1]
        rw [e2.2] at r5s
        have hok5 : (RdS.mk T (4 * cut) false).ok := ⟨by have := HTs.out; show 4 * cut ≤ T.size; omega, hTb⟩
        clear r4 r4s t5 hw4 e2
        go_wp2_with fail
        refine (raw_any _ _ _ _ r5s hok5 (by omega)).mono ?_
        rintro e w6 ⟨rfl, r6s, t6⟩
        have r6 : IsR w6 wr.heap.size ⟨T, T.size, false⟩ := Blk.touch r5 t6 (by omega)
        have hw6 := hw5.trans (t6.below hw5.size (by rintro j rfl; exact hs3))
        have e3 : (RdS.mk T (4 * cut) false).text (4 * ((k : Int) - (cut : Int))) = T.extract (4 * cut) (4 * k) ∧ (RdS.mk T (4 * cut) false).take (4 * ((k : Int) - (cut : Int))) = ⟨T, T.size, false⟩ := read_rest T k cut HTs.out g4
        rw [e3.1]
        rw [e3.2] at r6s
        have hokE : (RdS.mk T T.size false).ok := ⟨Nat.le_refl _, hTb⟩
        have heE : (RdS.mk T T.size false).end_ = 0 := by simp [RdS.end_]
        have hsz2 : (T.extract 0 (4 * cut)).size + (T.extract (4 * cut) (4 * k)).size ≤ 9000 := by
          have := HTs.out
          rw [ByteArray.size_extract, ByteArray.size_extract]
          omega
        have hTc := HTc.out
        generalize T.extract 0 (4 * cut) = X at *
        generalize T.extract (4 * cut) (4 * k) = Y at *
        clear r5 r5s t6 hw5 e3
        go_wp2_with fail
        refine (end_any _ _ _ r6 hokE).mono ?_
        rintro e w7 ⟨rfl, n7, rfl⟩
        rw [heE]
        have r7 : IsR (w6.drewN n7) w2.heap.size ⟨T, T.size, false⟩ := r6s
        go_wp2_with fail
        refine (end_any _ _ _ r7 hokE).mono ?_
        rintro e w8 ⟨rfl, n8, rfl⟩
        rw [heE]
        go_wp2_with fail
        go_ret
        exact ⟨rfl, bel_drewN hw6 _⟩
  · by_cases g1 : len0 ≤ 100
    · have d1 : decide ((100 : Int) < (len0 : Int)) = false := by simp; omega
      by_cases g2 : 0 ≤ c
      · have d2 : decide (c < 0) = false := by simp; omega
        have d3 : decide ((len0 : Int) < c) = true := by simp; omega
        go_enter Try.func7, Try.ntmps7
        go_wp2_with fail
        refine (alive_any _).mono ?_
        rintro e w1 ⟨rfl, b1⟩
        go_wp2_with fail
        go_ret
        exact ⟨rfl, b1⟩
      · have d2 : decide (c < 0) = true := by simp; omega
        go_enter Try.func7, Try.ntmps7
        go_wp2_with fail
        refine (alive_any _).mono ?_
        rintro e w1 ⟨rfl, b1⟩
        go_wp2_with fail
        go_ret
        exact ⟨rfl, b1⟩
    · have d1 : decide ((100 : Int) < (len0 : Int)) = true := by simp; omega
      go_enter Try.func7, Try.ntmps7
      go_wp2_with fail
      refine (alive_any _).mono ?_
      rintro e w1 ⟨rfl, b1⟩
      go_wp2_with fail
      go_ret
      exact ⟨rfl, b1⟩

set_option maxRecDepth 100000 in
theorem liftedOctetParts (os : Os) (started : os.Started) (H : Type) (enc : TypeId × Value → H) :
    ReturnsInHanded {} Try.checked os 7 .any (Rows.octetPartsSpec.pre6 enc Try.prog Try.f7 Rows.octetPartsRow.domain false) (Rows.octetPartsSpec.post enc Try.prog Try.f7 false true false false) := by
  refine returnsInHanded_of_change (C := Try.checked) own started (by kernel_rfl) Try.func7
    (ChangeSpec.witness6 (enc := enc) (C := Try.checked) false ⟨#[], #[.slice none 0 0, .int .i64 0], []⟩ 8 (by kernel_rfl) (by kernel_rfl) (by kernel_rfl) (by kernel_rfl)) ?_
  intro W base args ds gs before hval0 hW hcnd _
  have hval : ∀ (j : Nat) t v, Try.f7.params[j]? = some t → args[j]? = some v → Value.okWide Try.prog W .any base t v := hval0
  have hW' := hW
  obtain ⟨p, q, hA0, hV, rfl, hfz, hnd⟩ := hW
  have hA : DataW.TrodAll enc Try.prog W 0 (fun _ => true) true Try.f7.params.toList args.toList ds p := hA0
  rw [Try.params7] at hA hval
  obtain ⟨v0, vs0, d0, ds0, p0, q0, hargs, rfl, rfl, h0, r0⟩ := trodAll_cons hA
  obtain ⟨v1, vs1, d1, ds1, p1, q1, rfl, rfl, rfl, h1, r1⟩ := trodAll_cons r0
  obtain ⟨rfl, rfl, rfl⟩ := trodAll_nil r1
  obtain rfl : args = #[v0, v1] := by cases args; simp_all
  obtain ⟨rfl, rfl⟩ := trodVars_none hV
  obtain ⟨a0, len0, cap0, rfl⟩ := okWide_slice Try.underlying22 (hval 0 22 v0 rfl rfl)
  have k0 := h0
  have lt0 : ∀ x ∈ p0, x.block < W.heap.size := by obtain ⟨m, hm⟩ := k0; exact DataW.trod_lt m _ _ _ hm
  obtain ⟨z0, w0⟩ : ∃ zs, IsRow .i64 W a0 len0 cap0 zs := by
    obtain ⟨fuel, hf⟩ := h0
    rcases open_ints Try.underlying22 Try.underlying3 (by kernel_rfl) hf with ⟨hcs, _⟩ | ⟨x, l, c, zs, hcs, _, hl, hm, hz, _, hcell, hwz⟩
    · simp [Value.cells] at hcs
      obtain ⟨rfl, rfl, rfl⟩ := hcs
      exact ⟨[], .inl ⟨rfl, rfl, rfl, rfl⟩⟩
    · simp [Value.cells] at hcs
      obtain ⟨rfl, rfl, rfl⟩ := hcs
      exact ⟨zs, .inr ⟨_, rfl, hl, hm, by simpa using hz, cell_lt hcell (by simpa using hz), hcell, hwz⟩⟩
  obtain ⟨a1, rfl, rfl, rfl, w1⟩ := open_int Try.underlying3 (hval 1 3 v1 rfl rfl) h1
  clear hA0 hval0
  refine (walkOctetParts a0 len0 cap0 z0 a1 W w0 w1).mono fun e W' ⟨he, bel⟩ => ?_
  subst he
  exact ⟨_, rfl, _, _, _, [], _, [], hW', trodAll_mk1 (shut_bool Try.underlying4 _), (trodAll_cons_mk (Below.trod laidOut (by kernel_rfl) (of_decide_eq_true (by kernel_rfl)) k0 bel lt0) (trodAll_cons_mk (shut_int Try.underlying3 w1) trodAll_mk0)), rfl, bel.frame _, fun h => by cases h⟩

theorem overOctetParts : Rows.octetPartsRow.holds Try.pinned (OpenSpec.ofChange Rows.octetPartsSpec) :=
  OpenClaim.holds_of_wide 7 Try.f7 rfl rfl rfl rfl rfl rfl rfl ⟨rfl, rfl, rfl, rfl, rfl⟩ rfl rfl rfl rfl rfl (by kernel_rfl) Try.func7 (by kernel_rfl)
    (of_decide_eq_true (by kernel_rfl)) (by unfold Func.isWrapper; first | (rw [if_pos (by decide +kernel)]; kernel_rfl) | (rw [if_neg (by decide +kernel)]; exact ⟨rfl, rfl⟩))
    (fun os started H enc _ => liftedOctetParts os started H enc)

/-- The statement. -/
theorem octetParts_holds : Rows.OctetPartsSaid := overOctetParts
end Go.Proofs.Ytpijnbcibmjnpaa
