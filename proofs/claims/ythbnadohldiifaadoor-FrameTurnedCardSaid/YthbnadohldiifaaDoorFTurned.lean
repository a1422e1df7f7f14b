/- FrameTurned: with one bit, two, or up to two bytes in a row turned the bytes of a frame that can be aren't read: ErrForm, and the zero frame; of a frame that can't be, and of a turn of two bytes that turns nothing nothing is asked. Condition: the table check.turns reads as the program's text lays it (the card ties that). -/
import Derived.Test.YthbnadohldiifaaDoorLaid
import Derived.Test.YthbnadohldiifaaDoorFalive
import Derived.Test.YthbnadohldiifaaDoorFref
import Derived.Test.YthbnadohldiifaaDoorFopen
import Derived.Test.YthbnadohldiifaaDoorTurn
import Derived.Test.YthbnadohldiifaaDoorSpoilt
import Derived.Test.YthbnadohldiifaaDoorTie
import Derived.Test.YthbnadohldiifaaDoorCards
namespace Go.Proofs.YthbnadohldiifaaDoor
open Go.ChangeShapes Go.WideShapes Go.ChangeAt Go.RowKit
open Go.ChangeMaps (open_string shut_string)

theorem wrap_u16 (n : Int) : IntKind.u16.wrap n = n % 65536 := by simp [IntKind.wrap, IntKind.bits, IntKind.signed]
theorem byte_wrap (n : Int) : ∃ b : UInt8, IntKind.u8.wrap n = (b.toNat : Int) := by
  rw [IntKind.wrap_u8]
  refine ⟨UInt8.ofNat (n % 256).toNat, ?_⟩
  simp
  omega
theorem bit_of : ∀ i, i < 8 → ∃ b : UInt8, b.toNat = 2 ^ i ∧ (2 : Int) ^ i % 256 = (b.toNat : Int) := by
  intro i hi
  have : i = 0 ∨ i = 1 ∨ i = 2 ∨ i = 3 ∨ i = 4 ∨ i = 5 ∨ i = 6 ∨ i = 7 := by omega
  rcases this with rfl | rfl | rfl | rfl | rfl | rfl | rfl | rfl
  · exact ⟨1, rfl, rfl⟩
  · exact ⟨2, rfl, rfl⟩
  · exact ⟨4, rfl, rfl⟩
  · exact ⟨8, rfl, rfl⟩
  · exact ⟨16, rfl, rfl⟩
  · exact ⟨32, rfl, rfl⟩
  · exact ⟨64, rfl, rfl⟩
  · exact ⟨128, rfl, rfl⟩
/-- A text whose sum isn't right isn't read. -/
theorem read_spoilt (s : ByteArray) (w : World) (hs : s.size ≤ 1048576) (ht : Tab w) (h : Crc.of s.data.toList ≠ 0) :
    Calls Tryd.prog 12 #[.string s] w fun e w' => e = .returned (.tuple #[.agg #[.int .i64 0, .int .i64 0, .bool false, .int .i64 0, .int .i64 0, .int .i64 0, .string ⟨#[]⟩], .int .i64 4]) ∧ Below w.heap.size w w' := read_unsealed s w hs ht (.inr h)

set_option maxHeartbeats 4000000 in
theorem walkFrameTurned (f : Fr) (a b x : Int) (row : Bool) (w : World) (ht : Tab w) (_ha : (Lit.int .i64 a).wf = true) (_hb : (Lit.int .i64 b).wf = true) (_hx : (Lit.int .i64 x).wf = true) :
    Calls Tryd.prog 5 #[f.v, .int .i64 a, .int .i64 b, .int .i64 x, .bool row] w fun e w' => e = .returned (.bool true) ∧ Below w.heap.size w w' := by
  obtain ⟨good, HB⟩ : ∃ b, Hid (f.good = b) := ⟨_, Lib.hid rfl⟩
  have hb0 := bel_alloc w (.cells f.cells 23)
  have hblk := Blk.new w 23 f.cells
  have ht0 := ht.alloc (.cells f.cells 23)
  obtain ⟨L, hLd⟩ : ∃ L, Crc.sealed f.raw = L := ⟨_, rfl⟩
  have hL0 : Crc.of L = 0 := by rw [← hLd]; exact Crc.sealed_zero _
  have hLl : L.length = f.raw.length + 2 := by rw [← hLd, Crc.sealed_length]
  have hraw := raw_le f
  have hrawl := raw_length f
  have hsm := @fr_small f
  obtain ⟨dst, src, tagged, vid, prio, typ, data⟩ := f
  simp only [Fr.v, Fr.cells] at hb0 hblk ht0 ⊢
  cases good
  · clear hLd hL0 hLl hraw hrawl hsm
    go_enter Tryd.func5, Tryd.ntmps5
    go_wp2_with fail
    refine (alive_any _ ht0).mono ?_
    rintro e w1 ⟨rfl, b1⟩
    have ht1 := ht0.below b1 ht0.lt
    have k1 := hblk.below b1 hblk.lt
    have hb1 := hb0.trans (b1.mono hb0.size)
    have l0 : w1.cell? ⟨w.heap.size, 0, none⟩ = some (.int .i64 dst) := k1.cell 0
    have l1 : w1.cell? ⟨w.heap.size, 1, none⟩ = some (.int .i64 src) := k1.cell 1
    have l2 : w1.cell? ⟨w.heap.size, 2, none⟩ = some (.bool tagged) := k1.cell 2
    have l3 : w1.cell? ⟨w.heap.size, 3, none⟩ = some (.int .i64 vid) := k1.cell 3
    have l4 : w1.cell? ⟨w.heap.size, 4, none⟩ = some (.int .i64 prio) := k1.cell 4
    have l5 : w1.cell? ⟨w.heap.size, 5, none⟩ = some (.int .i64 typ) := k1.cell 5
    have l6 : w1.cell? ⟨w.heap.size, 6, none⟩ = some (.string data) := k1.cell 6
    go_wp2_with fail
    refine (rgood_any ⟨dst, src, tagged, vid, prio, typ, data⟩ _).mono ?_
    rw [HB.out]
    rintro e w2 ⟨rfl, b2⟩
    have ht2 := ht1.below b2 ht1.lt
    have k2 := k1.below b2 k1.lt
    have hb2 := hb1.trans (b2.mono hb1.size)
    clear l0 l1 l2 l3 l4 l5 l6 k1 hb1 ht1 b1 b2
    go_wp2
    go_ret
    exact ⟨rfl, hb2⟩
  have hsm := hsm HB.out
  obtain ⟨N, hN⟩ : ∃ N, Hid (L.length = N) := ⟨_, Lib.hid rfl⟩
  have hN16 : 14 ≤ N := by have := hN.out; omega
  have hNlt : N ≤ 423 := by have := hN.out; simp only at hraw hsm; omega
  have HD := Lib.hid (show str (Crc.sealed (Fr.raw ⟨dst, src, tagged, vid, prio, typ, data⟩)) = str L by rw [hLd])
  clear hLd hLl hraw hrawl hsm
  cases row
  · obtain ⟨n1, hn1⟩ : ∃ n1, Hid (n1 = 8 * N) := ⟨_, Lib.hid rfl⟩
    obtain ⟨X, hX, hXlt⟩ := near_of a n1 (by have := hn1.out; omega) (by have := hn1.out; omega)
    obtain ⟨Y, hY, hYlt⟩ := near_of b n1 (by have := hn1.out; omega) (by have := hn1.out; omega)
    have hXs : X < 8 * N := by have := hn1.out; omega
    have hYs : Y < 8 * N := by have := hn1.out; omega
    obtain ⟨c0, hc0⟩ : ∃ c, L[X / 8]? = some c := ⟨_, List.getElem?_eq_getElem (by rw [hN.out]; omega)⟩
    obtain ⟨p, hp, hpw⟩ := bit_of (X % 8) (by omega)
    obtain ⟨q, hq, hqw⟩ := bit_of (Y % 8) (by omega)
    have e8 := xor8 c0 p
    rw [← hpw] at e8
    have hdx : X = 8 * (X / 8) + X % 8 := by omega
    have hdy : Y = 8 * (Y / 8) + Y % 8 := by omega
    have hone := Crc.one_turned hL0 hc0 (i := X % 8) (by omega) hp
    obtain ⟨d0, hd0⟩ : ∃ d, c0 ^^^ p = d := ⟨_, rfl⟩
    rw [hd0] at e8 hone
    obtain ⟨c1, hc1⟩ : ∃ c, (L.set (X / 8) d0)[Y / 8]? = some c := ⟨_, List.getElem?_eq_getElem (by rw [List.length_set, hN.out]; omega)⟩
    have e9 := xor8 c1 q
    rw [← hqw] at e9
    have htwo : X ≠ Y → Crc.of ((L.set (X / 8) d0).set (Y / 8) (c1 ^^^ q)) ≠ 0 := by
      intro hne
      rw [← hd0] at hc1 ⊢
      exact Crc.two_turned hL0 (by rw [hN.out]; omega) hc0 (i := X % 8) (j := Y % 8) (by omega) (by omega) hp hq hc1 (by omega)
    generalize c1 ^^^ q = d1 at e9 htwo
    clear hdx hdy hp hq hpw hqw hd0
    go_enter Tryd.func5, Tryd.ntmps5
    go_wp2_with fail
    refine (alive_any _ ht0).mono ?_
    rintro e w1 ⟨rfl, b1⟩
    have ht1 := ht0.below b1 ht0.lt
    have k1 := hblk.below b1 hblk.lt
    have hb1 := hb0.trans (b1.mono hb0.size)
    have l0 : w1.cell? ⟨w.heap.size, 0, none⟩ = some (.int .i64 dst) := k1.cell 0
    have l1 : w1.cell? ⟨w.heap.size, 1, none⟩ = some (.int .i64 src) := k1.cell 1
    have l2 : w1.cell? ⟨w.heap.size, 2, none⟩ = some (.bool tagged) := k1.cell 2
    have l3 : w1.cell? ⟨w.heap.size, 3, none⟩ = some (.int .i64 vid) := k1.cell 3
    have l4 : w1.cell? ⟨w.heap.size, 4, none⟩ = some (.int .i64 prio) := k1.cell 4
    have l5 : w1.cell? ⟨w.heap.size, 5, none⟩ = some (.int .i64 typ) := k1.cell 5
    have l6 : w1.cell? ⟨w.heap.size, 6, none⟩ = some (.string data) := k1.cell 6
    go_wp2_with fail
    refine (rgood_any ⟨dst, src, tagged, vid, prio, typ, data⟩ _).mono ?_
    rw [HB.out]
    rintro e w2 ⟨rfl, b2⟩
    have ht2 := ht1.below b2 ht1.lt
    have k2 := k1.below b2 k1.lt
    have hb2 := hb1.trans (b2.mono hb1.size)
    clear l0 l1 l2 l3 l4 l5 l6 k1 hb1 ht1 b1 b2
    have l0 : w2.cell? ⟨w.heap.size, 0, none⟩ = some (.int .i64 dst) := k2.cell 0
    have l1 : w2.cell? ⟨w.heap.size, 1, none⟩ = some (.int .i64 src) := k2.cell 1
    have l2 : w2.cell? ⟨w.heap.size, 2, none⟩ = some (.bool tagged) := k2.cell 2
    have l3 : w2.cell? ⟨w.heap.size, 3, none⟩ = some (.int .i64 vid) := k2.cell 3
    have l4 : w2.cell? ⟨w.heap.size, 4, none⟩ = some (.int .i64 prio) := k2.cell 4
    have l5 : w2.cell? ⟨w.heap.size, 5, none⟩ = some (.int .i64 typ) := k2.cell 5
    have l6 : w2.cell? ⟨w.heap.size, 6, none⟩ = some (.string data) := k2.cell 6
    go_wp2_with fail
    refine (rbytes_any ⟨dst, src, tagged, vid, prio, typ, data⟩ _ HB.out).mono ?_
    rw [HD.out]
    rintro e w3 ⟨rfl, b3⟩
    have ht3 := ht2.below b3 ht2.lt
    have hb3 := hb2.trans (b3.mono hb2.size)
    clear l0 l1 l2 l3 l4 l5 l6 k2 hb2 ht2 b3
    have hpos := ht3.lt
    obtain ⟨C, cap, hconv, hrow⟩ := BRow.of_text w3 (str L)
    have hz : (str L).size = N := by rw [str_size]; exact hN.out
    rw [str_list] at hrow
    obtain ⟨T, hTd⟩ : ∃ T, Hid (str L = T) := ⟨_, Lib.hid rfl⟩
    rw [hTd.out] at hz
    rw [hTd.out, hz] at hconv
    rw [hTd.out]
    have hn : 8 * (N : Int) = (n1 : Int) := by have := hn1.out; omega
    have hN0 : 0 < n1 := by have := hn1.out; omega
    go_wp2_with fail
    go_quiet (fail)
    have hcell : (w3.alloc (.cells C 5 (C.size, C.size + 1))).cell? ⟨w3.heap.size, X / 8, none⟩ = some (.int .u8 (c0.toNat : Int)) := hrow.cell hc0
    have hfz : (w3.alloc (.cells C 5 (C.size, C.size + 1))).frozen? ⟨w3.heap.size, X / 8, none⟩ = false := hrow.frozen (by rw [hN.out]; omega)
    have hrow1 : BRow (((w3.alloc (.cells C 5 (C.size, C.size + 1))).drewN (1 + nq)).setCell ⟨w3.heap.size, X / 8, none⟩ (.int .u8 (d0.toNat : Int))) w3.heap.size (L.set (X / 8) d0) := hrow.set_ (X / 8) d0
    have ht4 : Tab (((w3.alloc (.cells C 5 (C.size, C.size + 1))).drewN (1 + nq)).setCell ⟨w3.heap.size, X / 8, none⟩ (.int .u8 (d0.toNat : Int))) :=
      ((ht3.alloc _).drewN _).set_ (by show _ ≠ w3.heap.size; omega) _
    have hbz : Below w3.heap.size w3 ((w3.alloc (.cells C 5 (C.size, C.size + 1))).drewN (1 + nq)) := by
      have h := (Below.refl w3.heap.size w3).alloc (Nat.le_refl _) (.cells C 5 (C.size, C.size + 1))
      exact ⟨h.os, h.tape, h.output, h.size, h.block⟩
    have hb4 := hbz.setCell (p := ⟨w3.heap.size, X / 8, none⟩) (Nat.le_refl _) (.int .u8 (d0.toNat : Int))
    by_cases hXY : X = Y
    · obtain rfl := hXY
      obtain ⟨M, hM⟩ : ∃ M, L.set (X / 8) d0 = M := ⟨_, rfl⟩
      have hMl : M.length = N := by rw [← hM, List.length_set]; exact hN.out
      rw [hM] at hrow1 hone
      have hback := hrow1.text cap
      rw [hMl] at hback
      have hMz : (str M).size = N := by rw [str_size]; exact hMl
      have hun' : Crc.of (str M).data.toList ≠ 0 := by rw [str_list]; exact hone
      clear hrow hrow1 hone hM htwo hc1 e9
      generalize str M = U at *
      have hun2 := Lib.hid hun'
      clear hun'
      go_wp2_with fail
      refine (read_spoilt U _ (by omega) ht4 hun2.out).mono ?_
      rintro e w6 ⟨rfl, b6⟩
      have hb6 := hb3.trans ((hb4.mono hb3.size).trans (b6.mono (Nat.le_trans hb3.size hb4.size)))
      go_wp2
      go_ret
      exact ⟨rfl, hb6.alloc hb6.size _⟩
    · have dne : ((X : Int) != (Y : Int)) = true := by rw [bne_iff_ne]; omega
      have htwo' := htwo hXY
      have hcell1 : (((w3.alloc (.cells C 5 (C.size, C.size + 1))).drewN (1 + nq)).setCell ⟨w3.heap.size, X / 8, none⟩ (.int .u8 (d0.toNat : Int))).cell? ⟨w3.heap.size, Y / 8, none⟩ = some (.int .u8 (c1.toNat : Int)) := hrow1.cell hc1
      have hfz1 : (((w3.alloc (.cells C 5 (C.size, C.size + 1))).drewN (1 + nq)).setCell ⟨w3.heap.size, X / 8, none⟩ (.int .u8 (d0.toNat : Int))).frozen? ⟨w3.heap.size, Y / 8, none⟩ = false := hrow1.frozen (by rw [List.length_set, hN.out]; omega)
      have hrow2 := hrow1.set_ (Y / 8) d1
      have ht5 := ht4.set_ (a := ⟨w3.heap.size, Y / 8, none⟩) (by show _ ≠ w3.heap.size; omega) (.int .u8 (d1.toNat : Int))
      have hb5 := hb4.setCell (p := ⟨w3.heap.size, Y / 8, none⟩) (Nat.le_refl _) (.int .u8 (d1.toNat : Int))
      obtain ⟨M, hM⟩ : ∃ M, (L.set (X / 8) d0).set (Y / 8) d1 = M := ⟨_, rfl⟩
      have hMl : M.length = N := by rw [← hM, List.length_set, List.length_set]; exact hN.out
      rw [hM] at hrow2 htwo'
      have hback := hrow2.text cap
      rw [hMl] at hback
      have hMz : (str M).size = N := by rw [str_size]; exact hMl
      have hun' : Crc.of (str M).data.toList ≠ 0 := by rw [str_list]; exact htwo'
      clear hrow hrow1 hrow2 hone hM htwo htwo' hc1 hXY
      generalize str M = U at *
      have hun2 := Lib.hid hun'
      clear hun'
      go_wp2_with fail
      refine (read_spoilt U _ (by omega) ht5 hun2.out).mono ?_
      rintro e w6 ⟨rfl, b6⟩
      have hb6 := hb3.trans ((hb5.mono hb3.size).trans (b6.mono (Nat.le_trans hb3.size hb5.size)))
      go_wp2
      go_ret
      exact ⟨rfl, hb6.alloc hb6.size _⟩
  · by_cases hx0 : IntKind.u16.wrap x = 0
    · have d2 : (IntKind.u16.wrap x == 0) = true := by rw [beq_iff_eq]; exact hx0
      clear hx0
      go_enter Tryd.func5, Tryd.ntmps5
      go_wp2_with fail
      refine (alive_any _ ht0).mono ?_
      rintro e w1 ⟨rfl, b1⟩
      have ht1 := ht0.below b1 ht0.lt
      have k1 := hblk.below b1 hblk.lt
      have hb1 := hb0.trans (b1.mono hb0.size)
      have l0 : w1.cell? ⟨w.heap.size, 0, none⟩ = some (.int .i64 dst) := k1.cell 0
      have l1 : w1.cell? ⟨w.heap.size, 1, none⟩ = some (.int .i64 src) := k1.cell 1
      have l2 : w1.cell? ⟨w.heap.size, 2, none⟩ = some (.bool tagged) := k1.cell 2
      have l3 : w1.cell? ⟨w.heap.size, 3, none⟩ = some (.int .i64 vid) := k1.cell 3
      have l4 : w1.cell? ⟨w.heap.size, 4, none⟩ = some (.int .i64 prio) := k1.cell 4
      have l5 : w1.cell? ⟨w.heap.size, 5, none⟩ = some (.int .i64 typ) := k1.cell 5
      have l6 : w1.cell? ⟨w.heap.size, 6, none⟩ = some (.string data) := k1.cell 6
      go_wp2_with fail
      refine (rgood_any ⟨dst, src, tagged, vid, prio, typ, data⟩ _).mono ?_
      rw [HB.out]
      rintro e w2 ⟨rfl, b2⟩
      have ht2 := ht1.below b2 ht1.lt
      have k2 := k1.below b2 k1.lt
      have hb2 := hb1.trans (b2.mono hb1.size)
      clear l0 l1 l2 l3 l4 l5 l6 k1 hb1 ht1 b1 b2
      go_wp2
      go_ret
      exact ⟨rfl, hb2⟩
    · have d2 : (IntKind.u16.wrap x == 0) = false := by rw [beq_eq_false_iff_ne]; exact hx0
      obtain ⟨bh, hbh⟩ := byte_wrap (x / 256)
      obtain ⟨bl, hbl⟩ := byte_wrap x
      have hbb : bh.toNat ≠ 0 ∨ bl.toNat ≠ 0 := by
        rw [IntKind.wrap_u8] at hbh hbl
        rw [wrap_u16] at hx0
        omega
      obtain ⟨n1, hn1⟩ : ∃ n1, Hid (n1 + 1 = N) := ⟨N - 1, Lib.hid (by omega)⟩
      obtain ⟨K, hK, hKlt⟩ := near_of a n1 (by have := hn1.out; omega) (by have := hn1.out; omega)
      have hKN : K + 1 < N := by have := hn1.out; omega
      obtain ⟨c0, hc0⟩ : ∃ c, L[K]? = some c := ⟨_, List.getElem?_eq_getElem (by rw [hN.out]; omega)⟩
      obtain ⟨c1, hc1⟩ : ∃ c, L[K + 1]? = some c := ⟨_, List.getElem?_eq_getElem (by rw [hN.out]; omega)⟩
      have hun := Crc.row_turned hL0 hc0 hc1 hbb
      have e8 := xor8 c0 bh
      have e9 := xor8 c1 bl
      generalize c0 ^^^ bh = d0 at e8 hun
      generalize c1 ^^^ bl = d1 at e9 hun
      clear hx0
      go_enter Tryd.func5, Tryd.ntmps5
      go_wp2_with fail
      refine (alive_any _ ht0).mono ?_
      rintro e w1 ⟨rfl, b1⟩
      have ht1 := ht0.below b1 ht0.lt
      have k1 := hblk.below b1 hblk.lt
      have hb1 := hb0.trans (b1.mono hb0.size)
      have l0 : w1.cell? ⟨w.heap.size, 0, none⟩ = some (.int .i64 dst) := k1.cell 0
      have l1 : w1.cell? ⟨w.heap.size, 1, none⟩ = some (.int .i64 src) := k1.cell 1
      have l2 : w1.cell? ⟨w.heap.size, 2, none⟩ = some (.bool tagged) := k1.cell 2
      have l3 : w1.cell? ⟨w.heap.size, 3, none⟩ = some (.int .i64 vid) := k1.cell 3
      have l4 : w1.cell? ⟨w.heap.size, 4, none⟩ = some (.int .i64 prio) := k1.cell 4
      have l5 : w1.cell? ⟨w.heap.size, 5, none⟩ = some (.int .i64 typ) := k1.cell 5
      have l6 : w1.cell? ⟨w.heap.size, 6, none⟩ = some (.string data) := k1.cell 6
      go_wp2_with fail
      refine (rgood_any ⟨dst, src, tagged, vid, prio, typ, data⟩ _).mono ?_
      rw [HB.out]
      rintro e w2 ⟨rfl, b2⟩
      have ht2 := ht1.below b2 ht1.lt
      have k2 := k1.below b2 k1.lt
      have hb2 := hb1.trans (b2.mono hb1.size)
      clear l0 l1 l2 l3 l4 l5 l6 k1 hb1 ht1 b1 b2
      have l0 : w2.cell? ⟨w.heap.size, 0, none⟩ = some (.int .i64 dst) := k2.cell 0
      have l1 : w2.cell? ⟨w.heap.size, 1, none⟩ = some (.int .i64 src) := k2.cell 1
      have l2 : w2.cell? ⟨w.heap.size, 2, none⟩ = some (.bool tagged) := k2.cell 2
      have l3 : w2.cell? ⟨w.heap.size, 3, none⟩ = some (.int .i64 vid) := k2.cell 3
      have l4 : w2.cell? ⟨w.heap.size, 4, none⟩ = some (.int .i64 prio) := k2.cell 4
      have l5 : w2.cell? ⟨w.heap.size, 5, none⟩ = some (.int .i64 typ) := k2.cell 5
      have l6 : w2.cell? ⟨w.heap.size, 6, none⟩ = some (.string data) := k2.cell 6
      go_wp2_with fail
      refine (rbytes_any ⟨dst, src, tagged, vid, prio, typ, data⟩ _ HB.out).mono ?_
      rw [HD.out]
      rintro e w3 ⟨rfl, b3⟩
      have ht3 := ht2.below b3 ht2.lt
      have hb3 := hb2.trans (b3.mono hb2.size)
      clear l0 l1 l2 l3 l4 l5 l6 k2 hb2 ht2 b3
      have hpos := ht3.lt
      obtain ⟨C, cap, hconv, hrow⟩ := BRow.of_text w3 (str L)
      have hz : (str L).size = N := by rw [str_size]; exact hN.out
      rw [str_list] at hrow
      obtain ⟨T, hTd⟩ : ∃ T, Hid (str L = T) := ⟨_, Lib.hid rfl⟩
      rw [hTd.out] at hz
      rw [hTd.out, hz] at hconv
      rw [hTd.out]
      have hn : (N : Int) - 1 = (n1 : Int) := by have := hn1.out; omega
      have hcell : (w3.alloc (.cells C 5 (C.size, C.size + 1))).cell? ⟨w3.heap.size, K, none⟩ = some (.int .u8 (c0.toNat : Int)) := hrow.cell hc0
      have hfz : (w3.alloc (.cells C 5 (C.size, C.size + 1))).frozen? ⟨w3.heap.size, K, none⟩ = false := hrow.frozen (by rw [hN.out]; omega)
      have hrow1 := hrow.set_ K d0
      have hc1' : (L.set K d0)[K + 1]? = some c1 := by rw [List.getElem?_set_ne (by omega)]; exact hc1
      have hcell1 : ((w3.alloc (.cells C 5 (C.size, C.size + 1))).setCell ⟨w3.heap.size, K, none⟩ (.int .u8 (d0.toNat : Int))).cell? ⟨w3.heap.size, K + 1, none⟩ = some (.int .u8 (c1.toNat : Int)) := hrow1.cell hc1'
      have hfz1 : ((w3.alloc (.cells C 5 (C.size, C.size + 1))).setCell ⟨w3.heap.size, K, none⟩ (.int .u8 (d0.toNat : Int))).frozen? ⟨w3.heap.size, K + 1, none⟩ = false := hrow1.frozen (by rw [List.length_set, hN.out]; omega)
      have hrow2 : BRow (((w3.alloc (.cells C 5 (C.size, C.size + 1))).setCell ⟨w3.heap.size, K, none⟩ (.int .u8 (d0.toNat : Int))).setCell ⟨w3.heap.size, K + 1, none⟩ (.int .u8 (d1.toNat : Int))).drew w3.heap.size ((L.set K d0).set (K + 1) d1) := hrow1.set_ (K + 1) d1
      have ht4 : Tab (((w3.alloc (.cells C 5 (C.size, C.size + 1))).setCell ⟨w3.heap.size, K, none⟩ (.int .u8 (d0.toNat : Int))).setCell ⟨w3.heap.size, K + 1, none⟩ (.int .u8 (d1.toNat : Int))).drew :=
        (((ht3.alloc _).set_ (by show _ ≠ w3.heap.size; omega) _).set_ (by show _ ≠ w3.heap.size; omega) _).drew
      have hb4 : Below w3.heap.size w3 (((w3.alloc (.cells C 5 (C.size, C.size + 1))).setCell ⟨w3.heap.size, K, none⟩ (.int .u8 (d0.toNat : Int))).setCell ⟨w3.heap.size, K + 1, none⟩ (.int .u8 (d1.toNat : Int))).drew :=
        ((((Below.refl _ _).alloc (Nat.le_refl _) _).setCell (Nat.le_refl _) _).setCell (Nat.le_refl _) _).drew
      obtain ⟨M, hM⟩ : ∃ M, (L.set K d0).set (K + 1) d1 = M := ⟨_, rfl⟩
      have hMl : M.length = N := by rw [← hM, List.length_set, List.length_set]; exact hN.out
      rw [hM] at hrow2 hun
      have hback := hrow2.text cap
      rw [hMl] at hback
      have hMz : (str M).size = N := by rw [str_size]; exact hMl
      have hun' : Crc.of (str M).data.toList ≠ 0 := by rw [str_list]; exact hun
      clear hrow hrow1 hrow2 hun hM
      generalize str M = U at *
      have hun2 := Lib.hid hun'
      clear hun'
      go_wp2_with fail
      refine (read_spoilt U _ (by omega) ht4 hun2.out).mono ?_
      rintro e w6 ⟨rfl, b6⟩
      have hb6 := hb3.trans ((hb4.mono hb3.size).trans (b6.mono (Nat.le_trans hb3.size hb4.size)))
      go_wp2
      go_ret
      exact ⟨rfl, hb6.alloc hb6.size _⟩

set_option maxRecDepth 100000 in
theorem liftedFrameTurned (os : Os) (started : os.Started) (H : Type) (enc : TypeId × Value → H) :
    ReturnsInHanded {} Tryd.checked os 5 .any (fun w args => (Rows.frameTurnedSpec.pre enc Tryd.prog Tryd.f5 [] false w args ∧ laidMetH Tryd.prog laidL w) ∧ sizedMet enc Tryd.prog Tryd.f5 (OpenSpec.ofChange Rows.frameTurnedSpec) false w args) (Rows.frameTurnedSpec.post enc Tryd.prog Tryd.f5 false true false false) := by
  refine returnsInHanded_of_change_and (C := Tryd.checked) (X := fun w _ => laidMetH Tryd.prog laidL w) (fun _ _ _ hh h => h.of_heap hh) own started (by kernel_rfl) Tryd.func5
    (ChangeSpec.witness_shaped (enc := enc) (C := Tryd.checked) (os := os) (X := fun w _ => laidMetH Tryd.prog laidL w) false (World.doorLaid Tryd.prog 400 os) #[.agg #[.int .i64 0, .int .i64 0, .bool false, .int .i64 0, .int .i64 0, .int .i64 0, .string ⟨#[]⟩], .int .i64 0, .int .i64 0, .int .i64 0, .bool false] 8 rfl (World.shaped_of_RefB (by kernel_rfl) (by kernel_rfl)) (by kernel_rfl) (by kernel_rfl) (by kernel_rfl) (door_met os _)) ?_
  intro W base args ds gs before hval0 hW _ hsz0 hL _
  have hval : ∀ (j : Nat) t v, Tryd.f5.params[j]? = some t → args[j]? = some v → Value.okWide Tryd.prog W .any base t v := hval0
  have hsz : (DataW.weightsEach Tryd.prog (Tryd.f5.params.toList ++ Rows.frameTurnedSpec.plain.varTypes Tryd.prog) (ds ++ gs)).all (· ≤ reachBytes) = true := hsz0
  clear hsz0
  have hW' := hW
  obtain ⟨p, q, hA0, hV, rfl, hfz, hnd⟩ := hW
  have hA : DataW.TrodAll enc Tryd.prog W 0 (fun _ => true) true Tryd.f5.params.toList args.toList ds p := hA0
  rw [Tryd.params5] at hA hval hsz
  obtain ⟨v0, vs0, d0, ds0, p0, q0, hargs, rfl, rfl, h0, r0⟩ := trodAll_cons hA
  obtain ⟨v1, vs1, d1, ds1, p1, q1, rfl, rfl, rfl, h1, r1⟩ := trodAll_cons r0
  obtain ⟨v2, vs2, d2, ds2, p2, q2, rfl, rfl, rfl, h2, r2⟩ := trodAll_cons r1
  obtain ⟨v3, vs3, d3, ds3, p3, q3, rfl, rfl, rfl, h3, r3⟩ := trodAll_cons r2
  obtain ⟨v4, vs4, d4, ds4, p4, q4, rfl, rfl, rfl, h4, r4⟩ := trodAll_cons r3
  obtain ⟨rfl, rfl, rfl⟩ := trodAll_nil r4
  obtain rfl : args = #[v0, v1, v2, v3, v4] := by cases args; simp_all
  obtain ⟨rfl, rfl⟩ := trodVars_none hV
  have k0 := h0
  have lt0 : ∀ x ∈ p0, x.block < W.heap.size := by obtain ⟨m, hm⟩ := k0; exact DataW.trod_lt m _ _ _ hm
  obtain ⟨f0, rfl⟩ := open_fr (hval 0 23 v0 rfl rfl) h0
  obtain ⟨a1, rfl, rfl, rfl, w1⟩ := open_int Tryd.underlying3 (hval 1 3 v1 rfl rfl) h1
  obtain ⟨a2, rfl, rfl, rfl, w2⟩ := open_int Tryd.underlying3 (hval 2 3 v2 rfl rfl) h2
  obtain ⟨a3, rfl, rfl, rfl, w3⟩ := open_int Tryd.underlying3 (hval 3 3 v3 rfl rfl) h3
  obtain ⟨a4, rfl, rfl, rfl⟩ := open_bool Tryd.underlying4 (hval 4 4 v4 rfl rfl) h4
  clear hA0 hval0
  refine (walkFrameTurned f0 a1 a2 a3 a4 W (tab_of_laid hL) w1 w2 w3).mono fun e W' ⟨he, bel⟩ => ?_
  subst he
  exact ⟨_, rfl, _, _, _, [], _, [], hW', trodAll_mk1 (shut_bool Tryd.underlying4 _), (trodAll_cons_mk (Below.trod laidOut (by kernel_rfl) (of_decide_eq_true (by kernel_rfl)) k0 bel lt0) (trodAll_cons_mk (shut_int Tryd.underlying3 w1) (trodAll_cons_mk (shut_int Tryd.underlying3 w2) (trodAll_cons_mk (shut_int Tryd.underlying3 w3) (trodAll_cons_mk (shut_bool Tryd.underlying4 a4) trodAll_mk0))))), rfl, bel.frame _, fun h => by cases h⟩

theorem overFrameTurned : Rows.frameTurnedRow.holds Tryd.pinned (OpenSpec.ofChange Rows.frameTurnedSpec) :=
  OpenClaim.holds_of_wide 5 Tryd.f5 rfl rfl rfl rfl rfl rfl rfl ⟨rfl, rfl, rfl, rfl, rfl⟩ rfl rfl rfl rfl rfl (by kernel_rfl) Tryd.func5 (by kernel_rfl)
    (of_decide_eq_true (by kernel_rfl)) (by unfold Func.isWrapper; first | (rw [if_pos (by decide +kernel)]; kernel_rfl) | (rw [if_neg (by decide +kernel)]; exact ⟨rfl, rfl⟩))
    (fun os started H enc _ => liftedFrameTurned os started H enc)

theorem frameTurned_said : Rows.FrameTurnedSaid := overFrameTurned

/-- The statement: the card. -/
theorem frameTurned_holds : Rows.FrameTurnedCardSaid :=
  Claim7.holds_tied_plain_at .later [] [.data] true Rows.frameTurnedCard.stood.harness false
    frameTurned_said (fun _ h => by cases h) (by kernel_rfl) (fun _ h => by cases h) frameTurned_row_tie rfl ⟨rfl, rfl⟩ (by kernel_rfl) rfl
    (fun f fn hf hfn => by
      obtain rfl : f = 5 := Option.some.inj ((show Tryd.prog.funcNamed "kissgate/kissgatelaw05.FrameTurned" = some 5 by kernel_rfl).symm.trans hf) |>.symm
      obtain rfl : fn = Tryd.f5 := (Option.some.inj (Tryd.func5.symm.trans hfn)).symm
      exact ⟨by kernel_rfl, fun j t ht => by
        rw [Tryd.params5] at ht
        have hm : t ∈ [23, 3, 3, 3, 4] := by simpa using Array.mem_of_getElem? ht
        have hall : ([23, 3, 3, 3, 4].all fun u => !Tryd.prog.wantsStandIn u) = true := by kernel_rfl
        exact (show Tryd.prog.wantsStandIn t = false by simpa using List.all_eq_true.1 hall t hm)⟩)
    (by kernel_rfl)

#print axioms frameTurned_holds
end Go.Proofs.YthbnadohldiifaaDoor
