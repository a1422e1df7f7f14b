/- mrpdu.Bytes' contract. Its conditions: at most 1000 words and 1000 types, which lie below what is made anew. -/
import Derived.Test.YthghedlgeceepaaMrPutB
import Derived.Deep.RegionHeld3
namespace Go.Proofs.Ythghedlgeceepaa
open Go.RowKit
set_option maxRecDepth 100000

set_option maxHeartbeats 1000000 in
theorem mbytes_bad (A A' : Option Addr) (c c' : Nat) (m : Msg) (B : Nat) (w : World) (hB : B ≤ w.heap.size) (hl : m.all.length ≤ 400000) (hw : m.ws.length ≤ 400000) (hA : IntsAt w B A m.all) (hA' : WordsAt w B A' m.ws) (hg : ¬ m.Good) :
    Calls Try.prog 13 #[.agg #[.slice A m.all.length c, .slice A' m.ws.length c']] w fun e w' => e = .returned (.tuple #[.string ⟨#[]⟩, .int .i64 1]) ∧ Below w.heap.size w w' := by
  have hb0 := bel_alloc w (.cells #[.slice A m.all.length c, .slice A' m.ws.length c'] 32)
  have HG := fun w1 (hb : Below w.heap.size w w1) => good_all A A' c c' m.all m.ws B w1 (Nat.le_trans hB hb.size) (by omega) (by omega) (hA.below (hb.mono hB)) (hA'.below (hb.mono hB))
  have e1 : Msg.goodB ⟨m.all, m.ws⟩ = false := decide_eq_false hg
  rw [e1] at HG
  have HG' := Lib.hid HG
  clear HG e1 hl hw hA hA' hg hB
  generalize m.all.length = a at *
  generalize m.ws.length = b at *
  go_enter Try.func13, Try.ntmps13
  go_wp2_with fail
  refine (HG'.out _ hb0).mono ?_
  rintro e w1 ⟨rfl, b1⟩
  go_wp2_with fail
  go_ret2
  exact ⟨rfl, hb0.trans (b1.mono hb0.size)⟩

set_option maxRecDepth 100000 in
set_option maxHeartbeats 4000000 in
theorem mbytes_good (A A' : Option Addr) (c c' : Nat) (m : Msg) (B : Nat) (w : World) (hB : B ≤ w.heap.size) (hl : m.all.length ≤ 400000) (hw : m.ws.length ≤ 400000) (hA : IntsAt w B A m.all) (hA' : WordsAt w B A' m.ws) (hc' : m.ws.length ≤ c') (hg : m.Good) :
    Calls Try.prog 13 #[.agg #[.slice A m.all.length c, .slice A' m.ws.length c']] w fun e w' => e = .returned (if 400 < m.bytes.length then .tuple #[.string ⟨#[]⟩, .int .i64 3] else .tuple #[.string (str m.bytes), .int .i64 0]) ∧ Below w.heap.size w w' := by
  have hbx := Blk.new w 32 #[.slice A m.all.length c, .slice A' m.ws.length c']
  have hb0 := bel_alloc w (.cells #[.slice A m.all.length c, .slice A' m.ws.length c'] 32)
  have HG := fun w1 (hb : Below w.heap.size w w1) => good_all A A' c c' m.all m.ws B w1 (Nat.le_trans hB hb.size) (by omega) (by omega) (hA.below (hb.mono hB)) (hA'.below (hb.mono hB))
  have e1 : Msg.goodB ⟨m.all, m.ws⟩ = true := decide_eq_true hg
  rw [e1] at HG
  have HG' := Lib.hid HG
  have hstart : ∀ (w1 w2 w3 : World) (v : Value), Blk w1 w.heap.size 32 #[.slice A m.all.length c, .slice A' m.ws.length c'] → Below w.heap.size w w1 → IsW w2 w1.heap.size v ([] ++ be 0 1) → Touch (FootW w1.heap.size (.slice none 0 0)) (w1.alloc (.cells #[.slice none 0 0] 81)) w2 → Moved (w1.alloc (.cells #[.slice none 0 0] 81)) (.slice none 0 0) v → w3 = w2.alloc (.cells #[.int .i64 1, .int .i64 2, .int .i64 3] 3) → BLoop m A A' c c' w w3 w1.heap.size w2.heap.size 0 A' c' v ([] ++ be 0 1) := by
    intro w1 w2 w3 v hb hbl hi ht hm e3
    subst e3
    have hlt := hb.lt
    have es : (w1.alloc (.cells #[.slice none 0 0] 81)).heap.size = w1.heap.size + 1 := by simp
    have ho : OwnFrom w1.heap.size v := (OwnFrom.none w1.heap.size 0 0).moved hm (by omega)
    have hts := ht.size
    have hbl2 : Below w.heap.size w w2 := (hbl.alloc hbl.size _).trans (((OwnFrom.none w1.heap.size 0 0).below (Nat.le_refl _) (by omega) ht).mono (by omega))
    have hbl3 := hbl2.alloc hbl2.size (.cells #[.int .i64 1, .int .i64 2, .int .i64 3] 3)
    refine ⟨((hb.alloc _).touch ht ?_).alloc _, Blk.new _ _ _, (hA.below (hbl3.mono hB)).more hB, ((hA'.below (hbl3.mono hB)).more hB).more (by omega), hc', ⟨hi.blk.alloc _, World.ownsRow.alloc hi.own _⟩, ho, ?_, ⟨hlt, by omega⟩, hbl3, rfl⟩
    · rintro (e | e)
      · omega
      · simp [Value.ownBlock] at e
    · intro e
      have := (World.ownsRow.lt hi.own _ e).2
      omega
  have HST := Lib.hid hstart
  have HWL := Lib.hid hw
  have HLL := Lib.hid hl
  have HGD := Lib.hid hg
  clear HG e1 hA hA' hB hstart hl hw hc' hg
  obtain ⟨V, hV⟩ : ∃ V, (if 400 < m.bytes.length then Value.tuple #[.string ⟨#[]⟩, .int .i64 3] else .tuple #[.string (str m.bytes), .int .i64 0]) = V := ⟨_, rfl⟩
  rw [hV]
  have HVV := Lib.hid hV
  clear hV
  obtain ⟨a, ha⟩ : ∃ a, m.all.length = a := ⟨_, rfl⟩
  obtain ⟨b, hb⟩ : ∃ b, m.ws.length = b := ⟨_, rfl⟩
  rw [ha, hb] at hbx hb0 HG'
  have HAA := Lib.hid ha
  have HBB := Lib.hid hb
  rw [ha, hb]
  rw [ha, hb] at HST
  clear ha hb
  go_enter Try.func13, Try.ntmps13
  go_wp2_with fail
  refine (HG'.out _ hb0).mono ?_
  rintro e w1 ⟨rfl, b1⟩
  have hbx1 := hbx.below b1 hbx.lt
  have hb1 := hb0.trans (b1.mono hb0.size)
  clear hbx hb0 b1
  go_wp2_with fail
  refine (put_any w1.heap.size (.slice none 0 0) [] 1 0 _ (IsW.new w1) (by simp)).mono ?_
  rw [near_l1]
  rintro e w2 ⟨rfl, v2, i2, t2, m2⟩
  have hS := HST.out w1 w2 _ v2 hbx1 hb1 i2 t2 m2 rfl
  have es : (w1.alloc (.cells #[.slice none 0 0] 81)).heap.size = w1.heap.size + 1 := by simp
  have k1 : w2.cell? ⟨w.heap.size, 1, none⟩ = some (.slice A' b c') := ((hbx1.alloc (.cells #[.slice none 0 0] 81)).touch t2 (by
    have := hbx1.lt
    rintro (e | e)
    · omega
    · simp [Value.ownBlock] at e)).cell 1
  clear hbx1 hb1 i2 t2 m2 es
  go_wp2_with fail
  clear k1
  go_loopw [5, 21] (fun u i wr => ∃ (j : Nat) (A1 : Option Addr) (c1 : Nat) (v : Value) (X : List UInt8), j ≤ 3 ∧ u = .slice A1 (leftW m j).length c1 ∧ i = .int .i64 j ∧ BLoop m A A' c c' w wr w1.heap.size w2.heap.size j A1 c1 v X) (fun _ i _ => 3 - (intOf i).toNat)
  case atStart => exact ⟨0, A', c', v2, _, by omega, by rw [show leftW m 0 = m.ws from rfl, HBB.out], rfl, hS⟩
  case round =>
    obtain ⟨j, A1, c1, v, X, hj, rfl, rfl, hQ⟩ := hrel
    clear hS
    have hcap := hQ.cap
    obtain ⟨ll, hll⟩ : ∃ ll, (leftW m j).length = ll := ⟨_, rfl⟩
    rw [hll] at hcap
    have hle := left_length HGD.out j
    have hwl := HWL.out
    by_cases hlt : j < 3
    · obtain ⟨s1, s2, s3, s4⟩ := left_step HGD.out j hlt
      obtain ⟨n, hn⟩ : ∃ n, kindLen ((j : Int) + 1) (leftW m j) = n := ⟨_, rfl⟩
      have hnl : ll = n + (leftW m (j + 1)).length := by rw [← hll, s1, List.length_append, ← s2, hn]
      have hcon := contains_any A c m.all ((j : Int) + 1) w.heap.size wr.drew (by have := HLL.out; omega) hQ.drew.ia
      obtain ⟨d, hd⟩ : ∃ d, decide (((j : Int) + 1) ∈ m.all) = d := ⟨_, rfl⟩
      have hpart := hQ.drew.part HGD.out hwl hlt hn
      have hok := ofKind_any A1 c1 (leftW m j) ((j : Int) + 1) w1.heap.size wr (by omega) hQ.at_
      rw [hll, hn] at hok
      rw [HAA.out, hd] at hcon
      rw [hd] at hpart
      have c0 : wr.cell? ⟨w.heap.size, 0, none⟩ = some (.slice A a c) := by rw [← HAA.out]; exact hQ.box.cell 0
      have q0 : wr.cell? ⟨w2.heap.size, j, none⟩ = some (.int .i64 ((j : Int) + 1)) := by
        have : j = 0 ∨ j = 1 ∨ j = 2 := by omega
        rcases this with rfl | rfl | rfl
        · exact hQ.ints.cell 0
        · exact hQ.ints.cell 1
        · exact hQ.ints.cell 2
      have HCON := Lib.hid hcon
      have HPART := Lib.hid hpart
      have HOK := Lib.hid hok
      have hnext : (leftW m (j + 1)).length = ll - n := by omega
      have HNX := Lib.hid hnext
      have n0 : (0 : Int) ≤ n := by omega
      have n1 : (n : Int) ≤ c1 := by omega
      have n2 : (n : Int) ≤ ll := by omega
      have j0 : (0 : Int) ≤ j := by omega
      have j3 : (j : Int) < 3 := by omega
      rw [hll]
      clear hcon hpart hok hnext hnl s1 s2 s3 s4 hn hd hQ hll hcap hle hwl hj
      go_wp2_with fail
      with_reducible refine HOK.out.mono ?_
      rintro e w3 ⟨rfl, rfl⟩
      go_wp2_with fail
      go_region_held3 (fun w' => w'.cell? ⟨w.heap.size, 0, none⟩ = some (.slice A a c))
        (first | exact c0 | (rw [← HAA.out]; exact hQ2.box.cell 0))
        (first
          | (go_at_call 41; (with_reducible (refine HCON.out.mono ?_)); rintro e w4 ⟨rfl, rfl⟩)
          | (go_at_call 40; (with_reducible (refine HPART.out.mono ?_)); rintro e w5 ⟨rfl, v5, hQ2⟩))
      go_wp2_with fail
      go_roundw
      case rel => exact ⟨j + 1, _, _, v5, _, by omega, by rw [HNX.out], by go_num, hQ2⟩
      case measure =>
        show 3 - ((j : Int) + 1).toNat < 3 - ((j : Int)).toNat
        omega
    · obtain rfl : j = 3 := by omega
      have hX : X ++ [0, 0] = m.bytes := hQ.rest
      have hml := mbytes_length m
      have hXl : X.length + 2 = m.bytes.length := by rw [← hX]; simp
      have HX := Lib.hid hX
      obtain ⟨S, hS⟩ : ∃ S, str m.bytes = S := ⟨_, rfl⟩
      have hSs : S.size = m.bytes.length := by rw [← hS, str_size]
      obtain ⟨q, hq⟩ : ∃ q, m.bytes.length = q := ⟨_, rfl⟩
      have hvv := HVV.out
      rw [hS, hq] at hvv
      rw [hq] at hSs
      have HS := Lib.hid hS
      have hXb : X.length ≤ 130000000 := by omega
      clear hX hml hXl hS hq hcap hll hle hwl hlt hj
      by_cases h4 : 400 < q
      · rw [if_pos h4] at hvv
        subst hvv
        go_wp2_with fail
        refine (put_any w1.heap.size v X 2 0 wr hQ.isw (by omega)).mono ?_
        rw [near_l2]
        rintro e w5 ⟨rfl, v5, i5, t5, m5⟩
        have b5 := hQ.bel.trans ((hQ.own.below (Nat.le_refl _) (Nat.le_of_lt hQ.isw.blk.lt) t5).mono (Nat.le_of_lt hQ.lt.1))
        go_wp2_with fail
        refine (wtext_any w1.heap.size v5 _ w5 i5).mono ?_
        rw [show (⟨(X ++ be 0 2).toArray⟩ : ByteArray) = S by rw [← HS.out, ← HX.out]; rfl]
        rintro e w6 ⟨rfl, rfl⟩
        go_wp2_with fail
        go_ret2
        exact ⟨rfl, b5⟩
      · rw [if_neg h4] at hvv
        subst hvv
        go_wp2_with fail
        refine (put_any w1.heap.size v X 2 0 wr hQ.isw (by omega)).mono ?_
        rw [near_l2]
        rintro e w5 ⟨rfl, v5, i5, t5, m5⟩
        have b5 := hQ.bel.trans ((hQ.own.below (Nat.le_refl _) (Nat.le_of_lt hQ.isw.blk.lt) t5).mono (Nat.le_of_lt hQ.lt.1))
        go_wp2_with fail
        refine (wtext_any w1.heap.size v5 _ w5 i5).mono ?_
        rw [show (⟨(X ++ be 0 2).toArray⟩ : ByteArray) = S by rw [← HS.out, ← HX.out]; rfl]
        rintro e w6 ⟨rfl, rfl⟩
        go_wp2_with fail
        go_ret2
        exact ⟨rfl, b5⟩
end Go.Proofs.Ythghedlgeceepaa
