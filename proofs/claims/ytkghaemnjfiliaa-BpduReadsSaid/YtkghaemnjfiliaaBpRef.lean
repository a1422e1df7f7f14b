/- The document's bytes of a message: what bpdu.Bytes answers too. Its condition: the message can be. -/
import Derived.Test.YtkghaemnjfiliaaBpBytes
import Derived.Test.YtkghaemnjfiliaaNumb
import Derived.Deep.RegionHeld3
namespace Go.Proofs.Ytkghaemnjfiliaa
open Go.RowKit

theorem bp_cat_list (a b : ByteArray) : (a ++ b).data.toList = a.data.toList ++ b.data.toList := by simp
theorem bp_strOf_list (l : List UInt8) : (strOf l).data.toList = l := by simp [strOf]

theorem bnumb (k : Int) (K : Nat) (hk : (near k 8).toNat = K) (n : Int) (w : World) : Calls Try.prog 25 #[.int .i64 k, .int .i64 n] w fun e w' => e = .returned (.string (strOf (be n K))) ∧ Below w.heap.size w w' := by
  have := number_any k n w
  rw [hk] at this
  exact this

set_option maxHeartbeats 400000 in
theorem rname_any (a : Int) (h : nameB a = true) (w : World) :
    Calls Try.prog 26 #[.int .i64 a] w fun e w' => e = .returned (.string (strOf (nameL a))) ∧ Below w.heap.size w w' := by
  simp only [nameB, decide_eq_true_eq] at h
  obtain ⟨a0, a1, _⟩ := h
  obtain ⟨A, HA⟩ : ∃ A, Hid (strOf (be (a / 281474976710656 * 4096) 2) = A) := ⟨_, Lib.hid rfl⟩
  obtain ⟨B, HB⟩ : ∃ B, Hid (strOf (be (a % 281474976710656) 6) = B) := ⟨_, Lib.hid rfl⟩
  have hA : A.size ≤ 2 := by rw [← HA.out, strOf_size, be_length]; omega
  have hB : B.size ≤ 6 := by rw [← HB.out, strOf_size, be_length]; omega
  have HN := Lib.hid (show nameL a = be (a / 281474976710656 * 4096) 2 ++ be (a % 281474976710656) 6 from rfl)
  go_enter Try.func26, Try.ntmps26
  go_wp2_with fail
  with_reducible refine (bnumb 2 2 (by decide) (a / 281474976710656 * 4096) _).mono ?_
  rw [HA.out]
  rintro e w1 ⟨rfl, b1⟩
  go_wp2_with fail
  with_reducible refine (bnumb 6 6 (by decide) (a % 281474976710656) _).mono ?_
  rw [HB.out]
  rintro e w2 ⟨rfl, b2⟩
  go_wp2_with fail
  go_ret
  refine ⟨?_, b1.trans (b2.mono b1.size)⟩
  refine congrArg (fun s => Ending.returned (.string s)) ?_
  rw [HN.out, ← HA.out, ← HB.out]
  exact (ByteArray.ext (Array.ext' (by simp [strOf])))
set_option maxHeartbeats 4000000 in
theorem rbytes_any (b : Bp) (h : b.good = true) (w : World) :
    Calls Try.prog 13 #[b.v] w fun e w' => e = .returned (.string ⟨b.raw.toArray⟩) ∧ Below w.heap.size w w' := by
  have hraw := Lib.hid (show b.raw = be 0 2 ++ be 2 1 ++ be 2 1 ++ be b.flags 1 ++ nameL b.root ++ be b.cost 4 ++ nameL b.bridge ++ be (b.port + 1) 2 ++ be (b.age * 256) 2 ++ be 2560 2 ++ be 512 2 ++ be 1024 2 ++ be 0 1 from rfl)
  obtain ⟨root, cost, bridge, port, age, role, change⟩ := b
  simp only [Bp.good, vecB, costB, portB, ageB, roleB, Bool.and_eq_true, decide_eq_true_eq] at h
  obtain ⟨⟨⟨⟨⟨hnr, hng⟩, _⟩, p0, p1⟩, a0, a1⟩, r0, r1⟩ := h
  have HNR := Lib.hid hnr
  have HNG := Lib.hid hng
  clear hnr hng
  have hblk : Blk (w.alloc (.cells #[.int .i64 root, .int .i64 cost, .int .i64 bridge, .int .i64 port, .int .i64 age, .int .i64 role, .bool change] 25)) w.heap.size 25 #[.int .i64 root, .int .i64 cost, .int .i64 bridge, .int .i64 port, .int .i64 age, .int .i64 role, .bool change] := Blk.new w _ _
  have hb0 := bel_alloc w (.cells #[.int .i64 root, .int .i64 cost, .int .i64 bridge, .int .i64 port, .int .i64 age, .int .i64 role, .bool change] 25)
  have hfl : Bp.flags ⟨root, cost, bridge, port, age, role, change⟩ = role * 4 + if change then 1 else 0 := rfl
  rw [hfl] at hraw
  clear hfl
  obtain ⟨A, HA⟩ : ∃ A, Hid (strOf (be (role * 4 + if change then 1 else 0) 1) = A) := ⟨_, Lib.hid rfl⟩
  obtain ⟨B, HB⟩ : ∃ A, Hid (strOf (nameL root) = A) := ⟨_, Lib.hid rfl⟩
  obtain ⟨C, HC⟩ : ∃ A, Hid (strOf (be cost 4) = A) := ⟨_, Lib.hid rfl⟩
  obtain ⟨D, HD⟩ : ∃ A, Hid (strOf (nameL bridge) = A) := ⟨_, Lib.hid rfl⟩
  have hA : A.size ≤ 1 := by rw [← HA.out, strOf_size, be_length]; omega
  have hB : B.size ≤ 8 := by rw [← HB.out, strOf_size, nameL_length]; omega
  have hC : C.size ≤ 4 := by rw [← HC.out, strOf_size, be_length]; omega
  have hD : D.size ≤ 8 := by rw [← HD.out, strOf_size, nameL_length]; omega
  have hZ : (⟨#[0, 0, 2, 2]⟩ : ByteArray).size = 4 := rfl
  have s1 : ¬ 9223372036854775807 < (⟨#[0, 0, 2, 2]⟩ : ByteArray).size + A.size := by rw [hZ]; omega
  have s2 : ¬ 9223372036854775807 < ((⟨#[0, 0, 2, 2]⟩ : ByteArray) ++ A).size + B.size := by rw [ByteArray.size_append, hZ]; omega
  have s3 : ¬ 9223372036854775807 < ((⟨#[0, 0, 2, 2]⟩ : ByteArray) ++ A ++ B).size + C.size := by rw [ByteArray.size_append, ByteArray.size_append, hZ]; omega
  have s4 : ¬ 9223372036854775807 < ((⟨#[0, 0, 2, 2]⟩ : ByteArray) ++ A ++ B ++ C).size + D.size := by rw [ByteArray.size_append, ByteArray.size_append, ByteArray.size_append, hZ]; omega
  have s5 : ¬ 9223372036854775807 < 4 + A.size := by omega
  have s6 : ¬ 9223372036854775807 < 4 + A.size + B.size := by omega
  have s7 : ¬ 9223372036854775807 < 4 + A.size + B.size + C.size := by omega
  have s8 : ¬ 9223372036854775807 < 4 + A.size + B.size + C.size + D.size := by omega
  clear hZ
  simp only [Bp.v, Bp.cells]
  cases change
  · have hz : role * 4 + (if false = true then 1 else 0) = 4 * role := by simp; omega
    rw [hz] at HA hraw
    clear hz
    go_enter Try.func13, Try.ntmps13
    go_wp2_with fail
    go_region_held3 (fun w' => w'.cell? ⟨w.heap.size, 0, none⟩ = some (.int .i64 root) ∧ w'.cell? ⟨w.heap.size, 1, none⟩ = some (.int .i64 cost) ∧ w'.cell? ⟨w.heap.size, 2, none⟩ = some (.int .i64 bridge))
      (first | exact ⟨hblk.cell 0, hblk.cell 1, hblk.cell 2⟩ | exact ⟨k4.cell 0, k4.cell 1, k4.cell 2⟩ | exact ⟨k3.cell 0, k3.cell 1, k3.cell 2⟩ | exact ⟨k2.cell 0, k2.cell 1, k2.cell 2⟩ | exact ⟨k1.cell 0, k1.cell 1, k1.cell 2⟩)
      (first
        | (go_at_call 25; (with_reducible (refine (bnumb 1 1 near_lit1 (4 * role) _).mono ?_)); rw [HA.out]; rintro e w1 ⟨rfl, b1⟩; have k1 := hblk.drew.below b1 (by simp))
        | (go_at_call 26; (with_reducible (refine (rname_any root HNR.out w1).mono ?_)); rw [HB.out]; rintro e w2 ⟨rfl, b2⟩; have k2 := k1.below b2 k1.lt)
        | (go_at_call 25; (with_reducible (refine (bnumb 4 4 near_lit4 cost w2).mono ?_)); rw [HC.out]; rintro e w3 ⟨rfl, b3⟩; have k3 := k2.below b3 k2.lt)
        | (go_at_call 26; (with_reducible (refine (rname_any bridge HNG.out w3).mono ?_)); rw [HD.out]; rintro e w4 ⟨rfl, b4⟩; have k4 := k3.below b4 k3.lt))
    have bel4 : Below w.heap.size w w4 := (hb0.drew).trans ((b1.mono (by simp)).trans ((b2.mono (by have := b1.size; simp at this; omega)).trans ((b3.mono (by have := b1.size; have := b2.size; simp at *; omega)).trans (b4.mono (by have := b1.size; have := b2.size; have := b3.size; simp at *; omega)))))
    have e3 : w4.cell? ⟨w.heap.size, 3, none⟩ = some (.int .i64 port) := k4.cell 3
    have e4 : w4.cell? ⟨w.heap.size, 4, none⟩ = some (.int .i64 age) := k4.cell 4
    obtain ⟨S, HS⟩ : ∃ S, Hid ((⟨#[0, 0, 2, 2]⟩ : ByteArray) ++ A ++ B ++ C ++ D = S) := ⟨_, Lib.hid rfl⟩
    rw [HS.out]
    have hS : S.size ≤ 25 := by rw [← HS.out]; simp only [ByteArray.size_append]; rw [show (⟨#[0, 0, 2, 2]⟩ : ByteArray).size = 4 from rfl]; omega
    obtain ⟨E, HE⟩ : ∃ A, Hid (strOf (be (port + 1) 2) = A) := ⟨_, Lib.hid rfl⟩
    obtain ⟨F, HF⟩ : ∃ A, Hid (strOf (be (age * 256) 2) = A) := ⟨_, Lib.hid rfl⟩
    have hE : E.size ≤ 2 := by rw [← HE.out, strOf_size, be_length]; omega
    have hF : F.size ≤ 2 := by rw [← HF.out, strOf_size, be_length]; omega
    clear s1 s2 s3 s4 s5 s6 s7 s8 hA hB hC hD b1 b2 b3 b4 k1 k2 k3 hb0 hblk
    have s1 : ¬ 9223372036854775807 < S.size + E.size := by omega
    have x1 : IntKind.i64.wrap (port + 1) = port + 1 := IntWalk.i64_in _ (by omega)
    have x2 : IntKind.i64.wrap (age * 256) = age * 256 := IntWalk.i64_in _ (by omega)
    have s2 : ¬ 9223372036854775807 < S.size + E.size + F.size := by omega
    have s3 : ¬ 9223372036854775807 < S.size + E.size + F.size + 7 := by omega
    go_wp2_with fail
    go_region_held3 (fun w' => w'.cell? ⟨w.heap.size, 3, none⟩ = some (.int .i64 port) ∧ w'.cell? ⟨w.heap.size, 4, none⟩ = some (.int .i64 age))
      (first | exact ⟨e3, e4⟩ | exact ⟨k5.cell 3, k5.cell 4⟩ | exact ⟨k6.cell 3, k6.cell 4⟩)
      (first
        | (go_at_call 25; (with_reducible (refine (bnumb 2 2 near_lit2 (port + 1) _).mono ?_)); rw [HE.out]; rintro e w5 ⟨rfl, b5⟩; have k5 := k4.drew.below b5 k4.lt)
        | (go_at_call 25; (with_reducible (refine (bnumb 2 2 near_lit2 (age * 256) w5).mono ?_)); rw [HF.out]; rintro e w6 ⟨rfl, b6⟩; have k6 := k5.below b6 k5.lt))
    go_wp2_with fail
    go_ret
    refine ⟨congrArg (fun s => Ending.returned (.string s)) ?_, bel4.drew.trans ((b5.mono bel4.size).trans (b6.mono (Nat.le_trans bel4.size b5.size)))⟩
    rw [hraw.out, ← HS.out, ← HA.out, ← HB.out, ← HC.out, ← HD.out, ← HE.out, ← HF.out]
    have z1 : be 0 2 ++ be 2 1 ++ be 2 1 = [0, 0, 2, 2] := by decide
    have z2 : be 2560 2 ++ be 512 2 ++ be 1024 2 ++ be 0 1 = [10, 0, 2, 0, 4, 0, 0] := by decide
    refine ByteArray.ext (Array.ext' ?_)
    rw [z1]
    simp only [List.append_assoc] at z2 ⊢
    rw [z2]
    simp [strOf]
  · have hz : role * 4 + (if true = true then 1 else 0) = 4 * role + 1 := by simp; omega
    rw [hz] at HA hraw
    clear hz
    go_enter Try.func13, Try.ntmps13
    go_wp2_with fail
    go_region_held3 (fun w' => w'.cell? ⟨w.heap.size, 0, none⟩ = some (.int .i64 root) ∧ w'.cell? ⟨w.heap.size, 1, none⟩ = some (.int .i64 cost) ∧ w'.cell? ⟨w.heap.size, 2, none⟩ = some (.int .i64 bridge))
      (first | exact ⟨hblk.cell 0, hblk.cell 1, hblk.cell 2⟩ | exact ⟨k4.cell 0, k4.cell 1, k4.cell 2⟩ | exact ⟨k3.cell 0, k3.cell 1, k3.cell 2⟩ | exact ⟨k2.cell 0, k2.cell 1, k2.cell 2⟩ | exact ⟨k1.cell 0, k1.cell 1, k1.cell 2⟩)
      (first
        | (go_at_call 25; (with_reducible (refine (bnumb 1 1 near_lit1 (4 * role + 1) _).mono ?_)); rw [HA.out]; rintro e w1 ⟨rfl, b1⟩; have k1 := hblk.drew.below b1 (by simp))
        | (go_at_call 26; (with_reducible (refine (rname_any root HNR.out w1).mono ?_)); rw [HB.out]; rintro e w2 ⟨rfl, b2⟩; have k2 := k1.below b2 k1.lt)
        | (go_at_call 25; (with_reducible (refine (bnumb 4 4 near_lit4 cost w2).mono ?_)); rw [HC.out]; rintro e w3 ⟨rfl, b3⟩; have k3 := k2.below b3 k2.lt)
        | (go_at_call 26; (with_reducible (refine (rname_any bridge HNG.out w3).mono ?_)); rw [HD.out]; rintro e w4 ⟨rfl, b4⟩; have k4 := k3.below b4 k3.lt))
    have bel4 : Below w.heap.size w w4 := (hb0.drew).trans ((b1.mono (by simp)).trans ((b2.mono (by have := b1.size; simp at this; omega)).trans ((b3.mono (by have := b1.size; have := b2.size; simp at *; omega)).trans (b4.mono (by have := b1.size; have := b2.size; have := b3.size; simp at *; omega)))))
    have e3 : w4.cell? ⟨w.heap.size, 3, none⟩ = some (.int .i64 port) := k4.cell 3
    have e4 : w4.cell? ⟨w.heap.size, 4, none⟩ = some (.int .i64 age) := k4.cell 4
    obtain ⟨S, HS⟩ : ∃ S, Hid ((⟨#[0, 0, 2, 2]⟩ : ByteArray) ++ A ++ B ++ C ++ D = S) := ⟨_, Lib.hid rfl⟩
    rw [HS.out]
    have hS : S.size ≤ 25 := by rw [← HS.out]; simp only [ByteArray.size_append]; rw [show (⟨#[0, 0, 2, 2]⟩ : ByteArray).size = 4 from rfl]; omega
    obtain ⟨E, HE⟩ : ∃ A, Hid (strOf (be (port + 1) 2) = A) := ⟨_, Lib.hid rfl⟩
    obtain ⟨F, HF⟩ : ∃ A, Hid (strOf (be (age * 256) 2) = A) := ⟨_, Lib.hid rfl⟩
    have hE : E.size ≤ 2 := by rw [← HE.out, strOf_size, be_length]; omega
    have hF : F.size ≤ 2 := by rw [← HF.out, strOf_size, be_length]; omega
    clear s1 s2 s3 s4 s5 s6 s7 s8 hA hB hC hD b1 b2 b3 b4 k1 k2 k3 hb0 hblk
    have s1 : ¬ 9223372036854775807 < S.size + E.size := by omega
    have x1 : IntKind.i64.wrap (port + 1) = port + 1 := IntWalk.i64_in _ (by omega)
    have x2 : IntKind.i64.wrap (age * 256) = age * 256 := IntWalk.i64_in _ (by omega)
    have s2 : ¬ 9223372036854775807 < S.size + E.size + F.size := by omega
    have s3 : ¬ 9223372036854775807 < S.size + E.size + F.size + 7 := by omega
    go_wp2_with fail
    go_region_held3 (fun w' => w'.cell? ⟨w.heap.size, 3, none⟩ = some (.int .i64 port) ∧ w'.cell? ⟨w.heap.size, 4, none⟩ = some (.int .i64 age))
      (first | exact ⟨e3, e4⟩ | exact ⟨k5.cell 3, k5.cell 4⟩ | exact ⟨k6.cell 3, k6.cell 4⟩)
      (first
        | (go_at_call 25; (with_reducible (refine (bnumb 2 2 near_lit2 (port + 1) _).mono ?_)); rw [HE.out]; rintro e w5 ⟨rfl, b5⟩; have k5 := k4.drew.below b5 k4.lt)
        | (go_at_call 25; (with_reducible (refine (bnumb 2 2 near_lit2 (age * 256) w5).mono ?_)); rw [HF.out]; rintro e w6 ⟨rfl, b6⟩; have k6 := k5.below b6 k5.lt))
    go_wp2_with fail
    go_ret
    refine ⟨congrArg (fun s => Ending.returned (.string s)) ?_, bel4.drew.trans ((b5.mono bel4.size).trans (b6.mono (Nat.le_trans bel4.size b5.size)))⟩
    rw [hraw.out, ← HS.out, ← HA.out, ← HB.out, ← HC.out, ← HD.out, ← HE.out, ← HF.out]
    have z1 : be 0 2 ++ be 2 1 ++ be 2 1 = [0, 0, 2, 2] := by decide
    have z2 : be 2560 2 ++ be 512 2 ++ be 1024 2 ++ be 0 1 = [10, 0, 2, 0, 4, 0, 0] := by decide
    refine ByteArray.ext (Array.ext' ?_)
    rw [z1]
    simp only [List.append_assoc] at z2 ⊢
    rw [z2]
    simp [strOf]
end Go.Proofs.Ytkghaemnjfiliaa
