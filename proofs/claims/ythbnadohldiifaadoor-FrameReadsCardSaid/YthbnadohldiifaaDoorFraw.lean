/- frame.unsealed: a frame's bytes without the sum. Its condition: the frame can be. -/
import Derived.Test.YthbnadohldiifaaDoorFgood
namespace Go.Proofs.YthbnadohldiifaaDoor
open Go.RowKit

/-- In the midst of the bytes' making: the frame's box stands at B, the writer at B + 1, and what is there of it lies behind B. -/
structure WAt (w wk : World) (f : Fr) (v : Value) (l : List UInt8) : Prop where
  blk : Blk wk w.heap.size 23 f.cells
  isw : IsW wk (w.heap.size + 1) v l
  own : OwnFrom (w.heap.size + 1) v
  bel : Below w.heap.size w wk
  size : w.heap.size + 1 ≤ wk.heap.size
theorem WAt.step {w wk w' : World} {f : Fr} {v v' : Value} {l l' : List UInt8} (h : WAt w wk f v l) (hw : IsW w' (w.heap.size + 1) v' l') (ht : Touch (FootW (w.heap.size + 1) v) wk w') (hm : Moved wk v v') : WAt w w' f v' l' := by
  have hb := h.own.below (Nat.le_refl _) h.size ht
  exact ⟨h.blk.below hb (by omega), hw, h.own.moved hm h.size, h.bel.trans (hb.mono (by omega)), Nat.le_trans h.size ht.size⟩
theorem WAt.start (w : World) (f : Fr) : WAt w ((w.alloc (.cells f.cells 23)).alloc (.cells #[.slice none 0 0] 50)) f (.slice none 0 0) [] := by
  have e : (w.alloc (.cells f.cells 23)).heap.size = w.heap.size + 1 := by simp
  refine ⟨(Blk.new w _ _).alloc _, ?_, OwnFrom.none _ _ _, bel_alloc2 _ _ _, by simp⟩
  have := IsW.new (w.alloc (.cells f.cells 23))
  rw [e] at this
  exact this

theorem join_tag {p v : Int} (h1 : 0 ≤ v) (h2 : v ≤ 4094) (h3 : 0 ≤ p) (h4 : p ≤ 7) : bits .or .i64 (p * 8192) v = p * 8192 + v := by
  obtain ⟨a, rfl⟩ := Int.eq_ofNat_of_zero_le h1
  obtain ⟨b, rfl⟩ := Int.eq_ofNat_of_zero_le h3
  have ha : (BitVec.ofInt 64 ((b : Int) * 8192)).toNat = b * 8192 := by
    rw [show ((b : Int) * 8192) = ((b * 8192 : Nat) : Int) by omega, BitVec.ofInt_natCast, BitVec.toNat_ofNat]; exact Nat.mod_eq_of_lt (by omega)
  have hb : (BitVec.ofInt 64 (a : Int)).toNat = a := by
    rw [BitVec.ofInt_natCast, BitVec.toNat_ofNat]; exact Nat.mod_eq_of_lt (by omega)
  show IntKind.i64.wrap ((BitVec.ofInt 64 ((b : Int) * 8192) ||| BitVec.ofInt 64 (a : Int)).toNat : Int) = _
  have hj : b * 8192 ||| a = b * 8192 + a := by
    have := nat_join 13 (b * 8192) a (by omega) (by omega)
    exact this
  rw [BitVec.toNat_or, ha, hb, hj, IntKind.wrap_i64]
  omega

theorem size3 : (⟨#[66, 66, 3]⟩ : ByteArray).size = 3 := rfl
set_option maxHeartbeats 4000000 in
theorem unsealed_any (f : Fr) (w : World) (hf : f.good = true) :
    Calls Tryd.prog 19 #[f.v] w fun e w' => e = .returned (.string ⟨f.raw.toArray⟩) ∧ Below w.heap.size w w' := by
  have hraw := Lib.hid (show f.raw = f.head ++ f.mark ++ f.kind ++ f.data.data.toList from rfl)
  have h0 := WAt.start w f
  have hhead : f.head = be f.dst 6 ++ be f.src 6 := rfl
  have hmark : f.mark = if f.tagged then be 33024 2 ++ be (f.prio * 8192 + f.vid) 2 else [] := rfl
  have hkind : f.kind = if f.typ = 0 then be (3 + f.data.size) 2 ++ [66, 66, 3] else be f.typ 2 := rfl
  have near6 : (near 6 8).toNat = 6 := by decide
  have near2 : (near 2 8).toNat = 2 := by decide
  obtain ⟨dst, src, tagged, vid, prio, typ, data⟩ := f
  simp only [Fr.good, Bool.and_eq_true, decide_eq_true_eq, goodB, tagB] at hf
  obtain ⟨⟨⟨⟨_, _⟩, ht⟩, _⟩, hz⟩ := hf
  simp only [Fr.v, Fr.cells] at h0 hhead hmark hkind ⊢
  go_enter Tryd.func19, Tryd.ntmps19
  go_wp2_with fail
  refine (put_any (w.heap.size + 1) _ _ _ _ _ h0.isw (by simp)).mono ?_
  rw [near6]
  rintro e w1 ⟨rfl, v1, i1, t1, m1⟩
  have h1 := h0.step i1 t1 m1
  have k1_1 : w1.cell? ⟨w.heap.size, 1, none⟩ = some (.int .i64 src) := h1.blk.cell 1
  clear h0 i1 t1 m1
  go_wp2_with fail
  refine (put_any (w.heap.size + 1) _ _ _ _ _ h1.isw (by simp [be_length])).mono ?_
  rw [near6]
  rintro e w2 ⟨rfl, v2, i2, t2, m2⟩
  have h2 := h1.step i2 t2 m2
  have k2_2 : w2.cell? ⟨w.heap.size, 2, none⟩ = some (.bool tagged) := h2.blk.cell 2
  have k2_3 : w2.cell? ⟨w.heap.size, 3, none⟩ = some (.int .i64 vid) := h2.blk.cell 3
  have k2_4 : w2.cell? ⟨w.heap.size, 4, none⟩ = some (.int .i64 prio) := h2.blk.cell 4
  have k2_5 : w2.cell? ⟨w.heap.size, 5, none⟩ = some (.int .i64 typ) := h2.blk.cell 5
  have k2_6 : w2.cell? ⟨w.heap.size, 6, none⟩ = some (.string data) := h2.blk.cell 6
  clear h1 i2 t2 m2
  cases tagged
  · simp only [Bool.false_eq_true, if_false] at hmark
    by_cases ht0 : typ = 0
    · subst ht0
      go_wp2_with fail
      refine (put_any (w.heap.size + 1) _ _ _ _ _ h2.isw (by simp [be_length])).mono ?_
      rw [near2]
      rintro e w3 ⟨rfl, v3, i3, t3, m3⟩
      have h3 := h2.step i3 t3 m3
      have k3_6 : w3.cell? ⟨w.heap.size, 6, none⟩ = some (.string data) := h3.blk.cell 6
      clear h2 i3 t3 m3
      go_wp2_with fail
      refine (wraw_any (w.heap.size + 1) _ _ _ _ h3.isw (by simp [be_length, size3] <;> omega)).mono ?_
      rintro e w4 ⟨rfl, v4, i4, t4, m4⟩
      have h4 := h3.step i4 t4 m4
      have k4_6 : w4.cell? ⟨w.heap.size, 6, none⟩ = some (.string data) := h4.blk.cell 6
      clear h3 i4 t4 m4
      go_wp2_with fail
      refine (wraw_any (w.heap.size + 1) _ _ _ _ h4.isw (by simp [be_length] <;> omega)).mono ?_
      rintro e w5 ⟨rfl, v5, i5, t5, m5⟩
      have h5 := h4.step i5 t5 m5
      clear h4 i5 t5 m5
      go_wp2_with fail
      refine (wtext_any (w.heap.size + 1) _ _ _ h5.isw).mono ?_
      rintro e w' ⟨rfl, rfl⟩
      go_wp2
      go_ret
      refine ⟨?_, h5.bel⟩
      rw [hraw.out, hhead, hmark, hkind]
      simp
    · have et0 : (typ == 0) = false := by simpa using ht0
      go_wp2_with fail
      refine (put_any (w.heap.size + 1) _ _ _ _ _ h2.isw (by simp [be_length])).mono ?_
      rw [near2]
      rintro e w3 ⟨rfl, v3, i3, t3, m3⟩
      have h3 := h2.step i3 t3 m3
      have k3_6 : w3.cell? ⟨w.heap.size, 6, none⟩ = some (.string data) := h3.blk.cell 6
      clear h2 i3 t3 m3
      go_wp2_with fail
      refine (wraw_any (w.heap.size + 1) _ _ _ _ h3.isw (by simp [be_length] <;> omega)).mono ?_
      rintro e w4 ⟨rfl, v4, i4, t4, m4⟩
      have h4 := h3.step i4 t4 m4
      clear h3 i4 t4 m4
      go_wp2_with fail
      refine (wtext_any (w.heap.size + 1) _ _ _ h4.isw).mono ?_
      rintro e w' ⟨rfl, rfl⟩
      go_wp2
      go_ret
      refine ⟨?_, h4.bel⟩
      rw [hraw.out, hhead, hmark, hkind]
      simp [ht0]
  · simp only [if_true, decide_eq_true_eq] at hmark ht
    have hjoin := join_tag ht.1 ht.2.1 ht.2.2.1 ht.2.2.2
    obtain ⟨hv0, hv1, hp0, hp1⟩ := ht
    go_wp2_with fail
    refine (put_any (w.heap.size + 1) _ _ _ _ _ h2.isw (by simp [be_length])).mono ?_
    rw [near2]
    rintro e w3 ⟨rfl, v3, i3, t3, m3⟩
    have h3 := h2.step i3 t3 m3
    have k3_3 : w3.cell? ⟨w.heap.size, 3, none⟩ = some (.int .i64 vid) := h3.blk.cell 3
    have k3_4 : w3.cell? ⟨w.heap.size, 4, none⟩ = some (.int .i64 prio) := h3.blk.cell 4
    have k3_5 : w3.cell? ⟨w.heap.size, 5, none⟩ = some (.int .i64 typ) := h3.blk.cell 5
    have k3_6 : w3.cell? ⟨w.heap.size, 6, none⟩ = some (.string data) := h3.blk.cell 6
    clear h2 i3 t3 m3
    go_wp2_with fail
    refine (put_any (w.heap.size + 1) _ _ _ _ _ h3.isw (by simp [be_length])).mono ?_
    rw [near2]
    rintro e w4 ⟨rfl, v4, i4, t4, m4⟩
    have h4 := h3.step i4 t4 m4
    have k4_5 : w4.cell? ⟨w.heap.size, 5, none⟩ = some (.int .i64 typ) := h4.blk.cell 5
    have k4_6 : w4.cell? ⟨w.heap.size, 6, none⟩ = some (.string data) := h4.blk.cell 6
    clear h3 i4 t4 m4
    by_cases ht0 : typ = 0
    · subst ht0
      go_wp2_with fail
      refine (put_any (w.heap.size + 1) _ _ _ _ _ h4.isw (by simp [be_length])).mono ?_
      rw [near2]
      rintro e w5 ⟨rfl, v5, i5, t5, m5⟩
      have h5 := h4.step i5 t5 m5
      have k5_6 : w5.cell? ⟨w.heap.size, 6, none⟩ = some (.string data) := h5.blk.cell 6
      clear h4 i5 t5 m5
      go_wp2_with fail
      refine (wraw_any (w.heap.size + 1) _ _ _ _ h5.isw (by simp [be_length, size3] <;> omega)).mono ?_
      rintro e w6 ⟨rfl, v6, i6, t6, m6⟩
      have h6 := h5.step i6 t6 m6
      have k6_6 : w6.cell? ⟨w.heap.size, 6, none⟩ = some (.string data) := h6.blk.cell 6
      clear h5 i6 t6 m6
      go_wp2_with fail
      refine (wraw_any (w.heap.size + 1) _ _ _ _ h6.isw (by simp [be_length] <;> omega)).mono ?_
      rintro e w7 ⟨rfl, v7, i7, t7, m7⟩
      have h7 := h6.step i7 t7 m7
      clear h6 i7 t7 m7
      go_wp2_with fail
      refine (wtext_any (w.heap.size + 1) _ _ _ h7.isw).mono ?_
      rintro e w' ⟨rfl, rfl⟩
      go_wp2
      go_ret
      refine ⟨?_, h7.bel⟩
      rw [hraw.out, hhead, hmark, hkind]
      simp
    · have et0 : (typ == 0) = false := by simpa using ht0
      go_wp2_with fail
      refine (put_any (w.heap.size + 1) _ _ _ _ _ h4.isw (by simp [be_length])).mono ?_
      rw [near2]
      rintro e w5 ⟨rfl, v5, i5, t5, m5⟩
      have h5 := h4.step i5 t5 m5
      have k5_6 : w5.cell? ⟨w.heap.size, 6, none⟩ = some (.string data) := h5.blk.cell 6
      clear h4 i5 t5 m5
      go_wp2_with fail
      refine (wraw_any (w.heap.size + 1) _ _ _ _ h5.isw (by simp [be_length] <;> omega)).mono ?_
      rintro e w6 ⟨rfl, v6, i6, t6, m6⟩
      have h6 := h5.step i6 t6 m6
      clear h5 i6 t6 m6
      go_wp2_with fail
      refine (wtext_any (w.heap.size + 1) _ _ _ h6.isw).mono ?_
      rintro e w' ⟨rfl, rfl⟩
      go_wp2
      go_ret
      refine ⟨?_, h6.bel⟩
      rw [hraw.out, hhead, hmark, hkind]
      simp [ht0]
end Go.Proofs.YthbnadohldiifaaDoor
