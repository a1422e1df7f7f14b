/- The document's Bytes: what frame.Bytes answers too. Its condition: the frame can be. -/
import Derived.Test.YthbnadohldiifaaDoorFgood
import Derived.Test.YthbnadohldiifaaDoorNumb
import Derived.Test.YthbnadohldiifaaDoorSeal
namespace Go.Proofs.YthbnadohldiifaaDoor
open Go.RowKit

theorem cat_list (a b : ByteArray) : (a ++ b).data.toList = a.data.toList ++ b.data.toList := by simp
theorem numb6 (n : Int) (w : World) : Calls Tryd.prog 26 #[.int .i64 6, .int .i64 n] w fun e w' => e = .returned (.string (strOf (be n 6))) ∧ Below w.heap.size w w' := number_any 6 n w
theorem numb2 (n : Int) (w : World) : Calls Tryd.prog 26 #[.int .i64 2, .int .i64 n] w fun e w' => e = .returned (.string (strOf (be n 2))) ∧ Below w.heap.size w w' := number_any 2 n w
theorem size3' : (⟨#[66, 66, 3]⟩ : ByteArray).size = 3 := rfl
theorem size2' : (⟨#[129, 0]⟩ : ByteArray).size = 2 := rfl
theorem tag2' : be 33024 2 = [129, 0] := by decide
theorem strOf_list (l : List UInt8) : (strOf l).data.toList = l := by simp [strOf]

set_option maxHeartbeats 4000000 in
theorem rbytes_any (f : Fr) (w : World) (hf : f.good = true) :
    Calls Tryd.prog 13 #[f.v] w fun e w' => e = .returned (.string (str (Crc.sealed f.raw))) ∧ Below w.heap.size w w' := by
  obtain ⟨dst, src, tagged, vid, prio, typ, data⟩ := f
  have hraw := Lib.hid (show Fr.raw ⟨dst, src, tagged, vid, prio, typ, data⟩ = be dst 6 ++ be src 6 ++ (if tagged then be 33024 2 ++ be (prio * 8192 + vid) 2 else []) ++ (if typ = 0 then be (3 + data.size) 2 ++ [66, 66, 3] else be typ 2) ++ data.data.toList from rfl)
  simp only [Fr.good, Bool.and_eq_true, decide_eq_true_eq, goodB, tagB] at hf
  obtain ⟨⟨⟨⟨_, _⟩, ht⟩, _⟩, hz⟩ := hf
  have hblk : Blk (w.alloc (.cells #[.int .i64 dst, .int .i64 src, .bool tagged, .int .i64 vid, .int .i64 prio, .int .i64 typ, .string data] 23)) w.heap.size 23 #[.int .i64 dst, .int .i64 src, .bool tagged, .int .i64 vid, .int .i64 prio, .int .i64 typ, .string data] := Blk.new w _ _
  have hb0 := bel_alloc w (.cells #[.int .i64 dst, .int .i64 src, .bool tagged, .int .i64 vid, .int .i64 prio, .int .i64 typ, .string data] 23)
  obtain ⟨A, HA⟩ : ∃ A, Hid (strOf (be dst 6) = A) := ⟨_, Lib.hid rfl⟩
  obtain ⟨B, HB⟩ : ∃ B, Hid (strOf (be src 6) = B) := ⟨_, Lib.hid rfl⟩
  have hA : A.size ≤ 6 := by rw [← HA.out, strOf_size, be_length]; omega
  have hB : B.size ≤ 6 := by rw [← HB.out, strOf_size, be_length]; omega
  have hAB : ¬ 9223372036854775807 < A.size + B.size := by omega
  simp only [Fr.v, Fr.cells]
  go_enter Tryd.func13, Tryd.ntmps13
  go_wp2_with fail
  go_region_law ((first
    | (go_simp; go_at_call 26; (with_reducible refine (numb6 dst (World.drew (w.alloc (.cells #[.int .i64 dst, .int .i64 src, .bool tagged, .int .i64 vid, .int .i64 prio, .int .i64 typ, .string data] 23)))).mono ?_); rw [HA.out]; rintro e wa ⟨rfl, ba⟩; have ka := hblk.drew.below ba (by simp); have ka1 : wa.cell? ⟨w.heap.size, 1, none⟩ = some (.int .i64 src) := ka.cell 1; have hba := hb0.drew.trans (ba.mono (by simp)))
    | (go_simp; go_at_call 26; (with_reducible refine (numb6 src (World.drew (w.alloc (.cells #[.int .i64 dst, .int .i64 src, .bool tagged, .int .i64 vid, .int .i64 prio, .int .i64 typ, .string data] 23)))).mono ?_); rw [HB.out]; rintro e wb ⟨rfl, bb⟩; have kb := hblk.drew.below bb (by simp); have kb0 : wb.cell? ⟨w.heap.size, 0, none⟩ = some (.int .i64 dst) := kb.cell 0; have hbb := hb0.drew.trans (bb.mono (by simp)))
    | (go_simp; go_at_call 26; (with_reducible refine (numb6 dst wb).mono ?_); rw [HA.out]; rintro e wz ⟨rfl, bz⟩; have hbz := hbb.trans (bz.mono (by have := hbb.size; exact this)); have kz := kb.below bz (Nat.lt_of_lt_of_le kb.lt (Nat.le_refl _)))
    | (go_simp; go_at_call 26; (with_reducible refine (numb6 src wa).mono ?_); rw [HB.out]; rintro e wz ⟨rfl, bz⟩; have hbz := hba.trans (bz.mono (by have := hba.size; exact this)); have kz := ka.below bz (Nat.lt_of_lt_of_le ka.lt (Nat.le_refl _)))))
  all_goals
    obtain ⟨S, HS⟩ : ∃ S, Hid (A ++ B = S) := ⟨_, Lib.hid rfl⟩
    have hS : S.size ≤ 12 := by rw [← HS.out, ByteArray.size_append]; omega
    have eS : S.data.toList = be dst 6 ++ be src 6 := by rw [← HS.out, cat_list, ← HA.out, ← HB.out, strOf_list, strOf_list]
    replace eS := Lib.hid eS
    rw [HS.out]
    have kwz := kz
    have wz5 : wz.cell? ⟨w.heap.size, 5, none⟩ = some (.int .i64 typ) := kz.cell 5
    have wz2 : wz.cell? ⟨w.heap.size, 2, none⟩ = some (.bool tagged) := kz.cell 2
    have wz3 : wz.cell? ⟨w.heap.size, 3, none⟩ = some (.int .i64 vid) := kz.cell 3
    have wz4 : wz.cell? ⟨w.heap.size, 4, none⟩ = some (.int .i64 prio) := kz.cell 4
    have wz6 : wz.cell? ⟨w.heap.size, 6, none⟩ = some (.string data) := kz.cell 6
    clear hAB hA hB HA HB HS hblk hb0
    cases tagged
    · clear ht wz3 wz4
      by_cases ht0 : typ = 0
      · subst ht0
        obtain ⟨D, HD⟩ : ∃ D, Hid (strOf (be (3 + data.size) 2) = D) := ⟨_, Lib.hid rfl⟩
        have hD : D.size ≤ 2 := by rw [← HD.out, strOf_size, be_length]; omega
        go_wp2_with fail
        refine (numb2 (3 + data.size) _).mono ?_
        rw [HD.out]
        rintro e wd ⟨rfl, bd⟩
        have kd := kz.below bd kz.lt
        have hbd := hbz.trans (bd.mono hbz.size)
        have wd6 : wd.cell? ⟨w.heap.size, 6, none⟩ = some (.string data) := kd.cell 6
        obtain ⟨E, HE⟩ : ∃ E, Hid (S ++ D ++ ⟨#[66, 66, 3]⟩ = E) := ⟨_, Lib.hid rfl⟩
        have hE : E.size ≤ 21 := by rw [← HE.out, ByteArray.size_append, ByteArray.size_append, size3']; omega
        have eE := Lib.hid (show (E ++ data).data.toList = Fr.raw ⟨dst, src, false, vid, prio, 0, data⟩ by rw [hraw.out, cat_list, ← HE.out, cat_list, cat_list, eS.out, ← HD.out, strOf_list]; simp)
        have hEs : (E ++ data).size ≤ 1048576 := by rw [ByteArray.size_append]; omega
        go_wp2_with fail
        rw [HE.out]
        refine (ref_seal_any _ _ hEs).mono ?_
        rw [eE.out]
        rintro e wf ⟨rfl, bf⟩
        go_wp2
        go_ret
        exact ⟨rfl, hbd.trans (bf.mono hbd.size)⟩
      · have et0 : (typ == 0) = false := by simpa using ht0
        obtain ⟨D, HD⟩ : ∃ D, Hid (strOf (be typ 2) = D) := ⟨_, Lib.hid rfl⟩
        have hD : D.size ≤ 2 := by rw [← HD.out, strOf_size, be_length]; omega
        have hk := Lib.hid (if_neg ht0 : (if typ = 0 then be (3 + data.size) 2 ++ [66, 66, 3] else be typ 2) = be typ 2)
        clear ht0
        go_wp2_with fail
        refine (numb2 typ _).mono ?_
        rw [HD.out]
        rintro e wd ⟨rfl, bd⟩
        have kd := kz.below bd kz.lt
        have hbd := hbz.trans (bd.mono hbz.size)
        have wd6 : wd.cell? ⟨w.heap.size, 6, none⟩ = some (.string data) := kd.cell 6
        obtain ⟨E, HE⟩ : ∃ E, Hid (S ++ D = E) := ⟨_, Lib.hid rfl⟩
        have hE : E.size ≤ 21 := by rw [← HE.out, ByteArray.size_append]; omega
        have eE := Lib.hid (show (E ++ data).data.toList = Fr.raw ⟨dst, src, false, vid, prio, typ, data⟩ by rw [hraw.out, hk.out, cat_list, ← HE.out, cat_list, eS.out, ← HD.out, strOf_list]; simp)
        have hEs : (E ++ data).size ≤ 1048576 := by rw [ByteArray.size_append]; omega
        go_wp2_with fail
        rw [HE.out]
        refine (ref_seal_any _ _ hEs).mono ?_
        rw [eE.out]
        rintro e wf ⟨rfl, bf⟩
        go_wp2
        go_ret
        exact ⟨rfl, hbd.trans (bf.mono hbd.size)⟩
    · simp only [if_true, decide_eq_true_eq] at ht
      obtain ⟨hv0, hv1, hp0, hp1⟩ := ht
      obtain ⟨C, HC⟩ : ∃ C, Hid (strOf (be (prio * 8192 + vid) 2) = C) := ⟨_, Lib.hid rfl⟩
      have hC : C.size ≤ 2 := by rw [← HC.out, strOf_size, be_length]; omega
      go_wp2_with fail
      refine (numb2 (prio * 8192 + vid) _).mono ?_
      rw [HC.out]
      rintro e wc ⟨rfl, bc⟩
      have kc := kz.below bc kz.lt
      have hbc := hbz.trans (bc.mono hbz.size)
      have wc5 : wc.cell? ⟨w.heap.size, 5, none⟩ = some (.int .i64 typ) := kc.cell 5
      have wc6 : wc.cell? ⟨w.heap.size, 6, none⟩ = some (.string data) := kc.cell 6
      obtain ⟨T, HT⟩ : ∃ T, Hid (S ++ ⟨#[129, 0]⟩ ++ C = T) := ⟨_, Lib.hid rfl⟩
      have hT : T.size ≤ 16 := by rw [← HT.out, ByteArray.size_append, ByteArray.size_append, size2']; omega
      have eT : T.data.toList = (be dst 6 ++ be src 6) ++ (be 33024 2 ++ be (prio * 8192 + vid) 2) := by rw [← HT.out, cat_list, cat_list, eS.out, ← HC.out, strOf_list]; simp [tag2']
      replace eT := Lib.hid eT
      clear wz2 wz3 wz4 hv0 hv1 hp0 hp1 HC eS
      by_cases ht0 : typ = 0
      · subst ht0
        obtain ⟨D, HD⟩ : ∃ D, Hid (strOf (be (3 + data.size) 2) = D) := ⟨_, Lib.hid rfl⟩
        have hD : D.size ≤ 2 := by rw [← HD.out, strOf_size, be_length]; omega
        go_wp2_with fail
        rw [HT.out]
        refine (numb2 (3 + data.size) _).mono ?_
        rw [HD.out]
        rintro e wd ⟨rfl, bd⟩
        have kd := kc.below bd kc.lt
        have hbd := hbc.trans (bd.mono hbc.size)
        have wd6 : wd.cell? ⟨w.heap.size, 6, none⟩ = some (.string data) := kd.cell 6
        obtain ⟨E, HE⟩ : ∃ E, Hid (T ++ D ++ ⟨#[66, 66, 3]⟩ = E) := ⟨_, Lib.hid rfl⟩
        have hE : E.size ≤ 21 := by rw [← HE.out, ByteArray.size_append, ByteArray.size_append, size3']; omega
        have eE := Lib.hid (show (E ++ data).data.toList = Fr.raw ⟨dst, src, true, vid, prio, 0, data⟩ by rw [hraw.out, cat_list, ← HE.out, cat_list, cat_list, eT.out, ← HD.out, strOf_list]; simp)
        have hEs : (E ++ data).size ≤ 1048576 := by rw [ByteArray.size_append]; omega
        go_wp2_with fail
        rw [HE.out]
        refine (ref_seal_any _ _ hEs).mono ?_
        rw [eE.out]
        rintro e wf ⟨rfl, bf⟩
        go_wp2
        go_ret
        exact ⟨rfl, hbd.trans (bf.mono hbd.size)⟩
      · have et0 : (typ == 0) = false := by simpa using ht0
        obtain ⟨D, HD⟩ : ∃ D, Hid (strOf (be typ 2) = D) := ⟨_, Lib.hid rfl⟩
        have hD : D.size ≤ 2 := by rw [← HD.out, strOf_size, be_length]; omega
        have hk := Lib.hid (if_neg ht0 : (if typ = 0 then be (3 + data.size) 2 ++ [66, 66, 3] else be typ 2) = be typ 2)
        clear ht0
        go_wp2_with fail
        rw [HT.out]
        refine (numb2 typ _).mono ?_
        rw [HD.out]
        rintro e wd ⟨rfl, bd⟩
        have kd := kc.below bd kc.lt
        have hbd := hbc.trans (bd.mono hbc.size)
        have wd6 : wd.cell? ⟨w.heap.size, 6, none⟩ = some (.string data) := kd.cell 6
        obtain ⟨E, HE⟩ : ∃ E, Hid (T ++ D = E) := ⟨_, Lib.hid rfl⟩
        have hE : E.size ≤ 21 := by rw [← HE.out, ByteArray.size_append]; omega
        have eE := Lib.hid (show (E ++ data).data.toList = Fr.raw ⟨dst, src, true, vid, prio, typ, data⟩ by rw [hraw.out, hk.out, cat_list, ← HE.out, cat_list, eT.out, ← HD.out, strOf_list]; simp)
        have hEs : (E ++ data).size ≤ 1048576 := by rw [ByteArray.size_append]; omega
        go_wp2_with fail
        rw [HE.out]
        refine (ref_seal_any _ _ hEs).mono ?_
        rw [eE.out]
        rintro e wf ⟨rfl, bf⟩
        go_wp2
        go_ret
        exact ⟨rfl, hbd.trans (bf.mono hbd.size)⟩
end Go.Proofs.YthbnadohldiifaaDoor
