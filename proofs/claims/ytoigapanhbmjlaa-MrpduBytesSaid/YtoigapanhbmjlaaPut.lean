/- octet's Writer.Put: a number's lowest bytes, the highest first. No condition but that the writer stands in its place, and that there is room. -/
import Derived.Test.YtoigapanhbmjlaaWrite
import Derived.Test.YtoigapanhbmjlaaRead
import Derived.Deep.RegionLaw
import Derived.Deep.AppendLies
namespace Go.Proofs.Ytoigapanhbmjlaa
open Go.RowKit

/-- The j-th byte of a number, from below. -/
def byteAt (n : Int) (j : Nat) : UInt8 := UInt8.ofNat (n / (256 ^ j : Nat) % 256).toNat
/-- The lowest k bytes of a number, the highest first. -/
def be (n : Int) : Nat → List UInt8
  | 0 => []
  | k + 1 => byteAt n k :: be n k
theorem be_length (n : Int) (k : Nat) : (be n k).length = k := by induction k with | zero => rfl | succ k ih => simp [be, ih]
theorem be_take (n : Int) (K k : Nat) (h : k < K) : (be n K).take (k + 1) = (be n K).take k ++ [byteAt n (K - 1 - k)] := by
  induction K generalizing k with
  | zero => omega
  | succ K ih =>
    cases k with
    | zero => simp [be]
    | succ k =>
      have := ih k (by omega)
      simp only [be, List.take_succ_cons, List.cons_append] at this ⊢
      rw [this]
      have e : K + 1 - 1 - (k + 1) = K - 1 - k := by omega
      rw [e]

theorem step_foot {w wr w2 : World} {g : Nat} {v v1 : Value} (ht : Touch (FootW g v) w wr) (hm : Moved w v v1) (hT : Touch (fun k => v1.ownBlock = some k) wr w2) : Touch (FootW g v) w w2 :=
  ⟨hT.os.trans ht.os, hT.tape.trans ht.tape, hT.output.trans ht.output, Nat.le_trans ht.size hT.size, fun k hk hp => (hT.block k (Nat.lt_of_lt_of_le hk ht.size) (fun e => hp (FootW.moved hm hk (.inr e)))).trans (ht.block k hk hp)⟩
theorem byte_shr (n : Int) (J : Nat) (hJ : J < 8) : IntKind.u8.wrap (n / 2 ^ min (8 * (J : Int)).toNat 64) = ((byteAt n J).toNat : Int) := by
  have h1 : min (8 * (J : Int)).toNat 64 = 8 * J := by omega
  have h2 : (2 : Int) ^ (8 * J) = ((256 ^ J : Nat) : Int) := by
    rw [show (256 : Nat) ^ J = 2 ^ (8 * J) from by rw [Nat.pow_mul]]
    exact (Int.natCast_pow 2 (8 * J)).symm
  rw [h1, h2, IntKind.wrap_u8']
  unfold byteAt
  have h3 : 0 ≤ n / ((256 ^ J : Nat) : Int) % 256 ∧ n / ((256 ^ J : Nat) : Int) % 256 < 256 := by omega
  generalize n / ((256 ^ J : Nat) : Int) % 256 = m at *
  simp
  omega

set_option maxHeartbeats 1000000 in
theorem put_any (g : Nat) (v : Value) (l : List UInt8) (size n : Int) (w : World) (h : IsW w g v l) (hl : l.length ≤ 1000000000) :
    Calls Try.prog 22 #[.pointer (some ⟨g, 0, none⟩), .int .i64 size, .int .i64 n] w fun e w' => e = .returned (.tuple #[]) ∧ ∃ v', IsW w' g v' (l ++ be n (near size 8).toNat) ∧ Touch (FootW g v) w w' ∧ Moved w v v' := by
  obtain ⟨K, hK⟩ : ∃ K : Nat, near size 8 = K := ⟨(near size 8).toNat, by have := near_is size 8; omega⟩
  have hK8 : K ≤ 8 := by have := near_is size 8; omega
  have hK1 : 1 ≤ K := by have := near_is size 8; omega
  have hk2 : (near size 8).toNat = K := by omega
  rw [hk2]
  have HK := Lib.hid hK
  clear hk2 hK
  obtain ⟨i0, hi0, hz0, hz1, hz2⟩ := info_parts u8_info
  go_enter Try.func22, Try.ntmps22
  go_wp2_with (go_at_call 43; refine (near_any _ _ _).mono ?_; rw [HK.out]; rintro e w' ⟨rfl, rfl⟩)
  go_loopw [6, 12] (fun _ i wr => ∃ (k : Nat) (v1 : Value), k ≤ K ∧ i = .int .i64 k ∧ IsW wr g v1 (l ++ (be n K).take k) ∧ Touch (FootW g v) w wr ∧ Moved w v v1) (fun _ i _ => K - (intOf i).toNat)
  case atStart => exact ⟨0, v, Nat.zero_le _, rfl, by simpa using h, Touch.refl _ _, Moved.refl _ _⟩
  case round =>
    obtain ⟨k, v1, hk, rfl, hw, ht, hm⟩ := hrel
    by_cases hlt : k < K
    · have c0 : wr.cell? ⟨g, 0, none⟩ = some v1 := hw.blk.cell 0
      have f0 := hw.blk.frozen 0
      obtain ⟨J, hJ⟩ : ∃ J : Nat, (K : Int) - 1 - k = J := ⟨K - 1 - k, by omega⟩
      have e1 : IntKind.i64.wrap ((K : Int) - 1) = (K : Int) - 1 := by exact IntWalk.i64_in _ (by omega)
      have e2 : IntKind.i64.wrap ((K : Int) - 1 - k) = J := by rw [IntWalk.i64_in _ (by omega), hJ]
      have e3 : IntKind.i64.wrap (8 * (J : Int)) = 8 * (J : Int) := by exact IntWalk.i64_in _ (by omega)
      have e4 : (0 : Int) ≤ 8 * (J : Int) := by omega
      have HB := Lib.hid (byte_shr n J (by omega))
      have hL1 : l ++ (be n K).take (k + 1) = l ++ (be n K).take k ++ [byteAt n J] := by
        rw [be_take n K k hlt, List.append_assoc]
        have : K - 1 - k = J := by omega
        rw [this]
      have hlen : (l ++ (be n K).take k).length ≤ 1000000008 := by simp [be_length]; omega
      obtain ⟨L, hL⟩ : ∃ L, l ++ (be n K).take k = L := ⟨_, rfl⟩
      rw [hL] at hw hlen hL1
      have HL := Lib.hid hL1
      have HJ := Lib.hid hJ
      clear hJ hL1 hL
      have hown : ∀ o : Obj, ((wr.alloc o).drew).ownsRow 0 5 1 v1 L.length (bytesV L) := fun o => ownsRow_touch (p := fun _ => False) hw.own (((Touch.refl _ wr).alloc o).drew) (fun _ _ h => h)
      have hblk : ∀ o : Obj, Blk ((wr.alloc o).drew) g 52 #[v1] := fun o => hw.blk.alloc o
      have ca : ∀ o : Obj, (wr.alloc o).cell? ⟨g, 0, none⟩ = some v1 := fun o => (hw.blk.alloc o).cell 0
      have hne := hw.ne
      clear hw
      go_wp2_with fail
      go_region_law ((refine step_append_lies _ rfl (.tmp 19) (.tmp 28) 44 rfl 0 5 i0 (.int .u8 0) 1 1 Try.underlying44 hi0 hz0 hz1 hz2 rfl (by decide) v1 _ (bytesV L) (by simp [Act.eval]) (hown _) ⟨wr.heap.size, 0, none⟩ 1 1 [.int .u8 (IntKind.u8.wrap (n / 2 ^ min (8 * (J : Int)).toNat 64))] (by simp [Act.eval]) rfl (cell_one_new _ _ _) (by intro u hu; rw [List.mem_singleton] at hu; subst hu; rfl) (by decide) (by simp only [maxLen]; omega) (by omega) (Nat.zero_le _) _ rfl ?_
                      intro g2 cap2 w2 h1 h2 h3 h4
                      have hb2 := (hblk _).touch (Touch.of_grown h2) hne
                      have c2 : w2.cell? ⟨g, 0, none⟩ = some v1 := hb2.cell 0
                      have f2 := hb2.frozen 0))
      all_goals
        go_wp2
        have hT : Touch (fun k => v1.ownBlock = some k) wr w2 := (((Touch.refl _ wr).alloc _).drew).trans (Touch.of_grown h2)
        rw [HB.out] at h1
        have hfin : IsW (w2.setCell ⟨g, 0, none⟩ (.slice (some ⟨g2, 0, none⟩) (L.length + 1) cap2)) g (.slice (some ⟨g2, 0, none⟩) (L.length + 1) cap2) (l ++ (be n K).take (k + 1)) := by
          rw [HL.out]
          refine IsW.store hb2 ?_
          rw [bytesV_append, List.length_append]
          exact h1
        have hmv : Moved wr v1 (.slice (some ⟨g2, 0, none⟩) (L.length + 1) cap2) := by
          rcases h3 with h3 | h3
          · exact .inl h3.symm
          · exact .inr ⟨g2, by rw [h3]; show wr.heap.size ≤ (wr.heap.push _).size; simp, rfl⟩
        have htt : Touch (FootW g v) w (w2.setCell ⟨g, 0, none⟩ (.slice (some ⟨g2, 0, none⟩) (L.length + 1) cap2)) :=
          Touch.set_ (step_foot ht hm hT) (fun _ => .inl rfl) _
        have hmm := hm.trans hmv ht.size
        clear h1 h2 h3 hown hblk ca hb2 c2 f2 hT
        go_roundw
        case rel => exact ⟨k + 1, _, by omega, by go_num, hfin, htt, hmm⟩
        case measure => simp [intOf]; omega
    · have hkK : k = K := by omega
      have hf : (be n K).take k = be n K := List.take_of_length_le (by rw [be_length]; omega)
      rw [hf] at hw
      clear hkK hf
      go_wp2
      go_end0
      exact ⟨rfl, v1, hw, ht, hm⟩
end Go.Proofs.Ytoigapanhbmjlaa
