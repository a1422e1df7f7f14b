/- octet's Reader.Get: the number of the bytes that it takes. No condition but that the reader stands in its place. -/
import Derived.Test.YtoigapanhbmjlaaRead
import Derived.Laws.BitsAllLaws
namespace Go.Proofs.Ytoigapanhbmjlaa
open Go.RowKit

/-- The number of some bytes, the highest first. -/
def num (l : List UInt8) : Nat := l.foldl (fun a c => a * 256 + c.toNat) 0
theorem num_snoc (l : List UInt8) (c : UInt8) : num (l ++ [c]) = num l * 256 + c.toNat := by simp [num]
theorem num_lt (l : List UInt8) : num l < 256 ^ l.length := by
  have h : ∀ (l : List UInt8) (a k : Nat), a < 256 ^ k → l.foldl (fun a c => a * 256 + c.toNat) a < 256 ^ (k + l.length) := by
    intro l
    induction l with
    | nil => intro a k h; simpa using h
    | cons c l ih =>
      intro a k h
      have hc := c.toNat_lt
      have := ih (a * 256 + c.toNat) (k + 1) (by rw [Nat.pow_succ]; omega)
      simpa [Nat.add_assoc, Nat.add_comm, Nat.add_left_comm] using this
  simpa [num] using h l 0 0 (by simp)

theorem or_byte (a : Nat) (c : UInt8) (h : a < 281474976710656) : bits .or .i64 (wrap64 ((a : Int) * 256)) (wrap64 (c.toNat : Int)) = ((a * 256 + c.toNat : Nat) : Int) := by
  have hc := c.toNat_lt
  have e1 : wrap64 ((a : Int) * 256) = ((a * 256 : Nat) : Int) := by rw [IntWalk.wrap64_in _ (by omega)]; omega
  have e2 : wrap64 (c.toNat : Int) = ((c.toNat : Nat) : Int) := IntWalk.wrap64_in _ (by omega)
  rw [e1, e2]
  have ha : (BitVec.ofInt 64 ((a * 256 : Nat) : Int)).toNat = a * 256 := by
    rw [BitVec.ofInt_natCast, BitVec.toNat_ofNat]; exact Nat.mod_eq_of_lt (by omega)
  have hb : (BitVec.ofInt 64 ((c.toNat : Nat) : Int)).toNat = c.toNat := by
    rw [BitVec.ofInt_natCast, BitVec.toNat_ofNat]; exact Nat.mod_eq_of_lt (by omega)
  show IntKind.i64.wrap ((BitVec.ofInt 64 ((a * 256 : Nat) : Int) ||| BitVec.ofInt 64 ((c.toNat : Nat) : Int)).toNat : Int) = _
  rw [BitVec.toNat_or, ha, hb, nat_join 8 (a * 256) c.toNat (by omega) (by omega), IntKind.wrap_i64]
  omega

theorem take_snoc (s : ByteArray) (k : Nat) (h : k < s.size) : s.data.toList.take (k + 1) = s.data.toList.take k ++ [s[k]] := by
  rw [List.take_succ_eq_append_getElem (by simpa using h)]; rfl
theorem text_le (r : RdS) (n : Int) : ((r.text n).size : Int) ≤ max n 0 := by
  unfold RdS.text
  split
  · rename_i h
    simp only [RdS.can, Bool.and_eq_true, decide_eq_true_eq] at h
    have : (r.s.extract r.at_ (r.at_ + n.toNat)).size ≤ n.toNat := by simp; omega
    omega
  · show (0 : Int) ≤ _
    omega

set_option maxHeartbeats 400000 in
theorem get_any (g : Nat) (r : RdS) (n : Int) (w : World) (h : IsR w g r) (hr : r.ok) :
    Calls Try.prog 33 #[.pointer (some ⟨g, 0, none⟩), .int .i64 n] w fun e w' => e = .returned (.int .i64 (num (r.text (near n 7)).data.toList)) ∧ IsR w' g (r.take (near n 7)) ∧ Touch (· = g) w w' := by
  have hn7 : near n 7 ≤ 7 := by rw [near_is]; omega
  have hn1 : 1 ≤ near n 7 := by rw [near_is]; omega
  go_enter Try.func33, Try.ntmps33
  go_wp2_with (first
    | (go_at_call 43; refine (near_any _ _ _).mono ?_; rintro e w' ⟨rfl, rfl⟩)
    | (go_at_call 48; refine (take_any g r (near n 7) _ h hr (by omega)).mono ?_; rintro e w' ⟨rfl, hi, hto⟩))
  have hx7 := text_le r (near n 7)
  generalize hx0 : r.text (near n 7) = x at *
  have HX := Lib.hid hx0
  have hx : x.size ≤ 7 := by omega
  clear hx7 h hr hx0
  go_loop [6, 14] (fun t i => ∃ k : Nat, k ≤ x.size ∧ i = .int .i64 k ∧ t = .int .i64 (num (x.data.toList.take k))) (fun _ i => x.size - (intOf i).toNat)
  case atStart => exact ⟨0, Nat.zero_le _, rfl, rfl⟩
  case round =>
    obtain ⟨k, hk, rfl, rfl⟩ := hrel
    have hl : num (x.data.toList.take k) < 72057594037927936 := by
      have h1 := num_lt (x.data.toList.take k)
      have h2 : (x.data.toList.take k).length ≤ 7 := by simp; omega
      exact Nat.lt_of_lt_of_le h1 (Nat.le_trans (Nat.pow_le_pow_right (by omega) h2) (by decide))
    by_cases hlt : k < x.size
    · have hsn : num (x.data.toList.take (k + 1)) = num (x.data.toList.take k) * 256 + x[k].toNat := by rw [take_snoc x k hlt, num_snoc]
      have HS := Lib.hid hsn
      have hk6 : num (x.data.toList.take k) < 281474976710656 := by
        have h1 := num_lt (x.data.toList.take k)
        have h2 : (x.data.toList.take k).length ≤ 6 := by simp; omega
        exact Nat.lt_of_lt_of_le h1 (Nat.le_trans (Nat.pow_le_pow_right (by omega) h2) (by decide))
      have HJ := Lib.hid (or_byte (num (x.data.toList.take k)) x[k] hk6)
      clear hsn hk6
      go_wp2
      go_round
      case rel => exact ⟨k + 1, by omega, by go_num, by rw [HS.out, HJ.out]⟩
      case measure => simp [intOf]; omega
    · have hk' : k = x.size := by omega
      have hf : x.data.toList.take k = x.data.toList := List.take_of_length_le (by simp; omega)
      have HF := Lib.hid hf
      clear hf hk'
      go_wp2
      go_ret
      exact ⟨by rw [HX.out]; exact congrArg (fun l => Ending.returned (.int .i64 (num l : Nat))) HF.out, hi, hto⟩
end Go.Proofs.Ytoigapanhbmjlaa
