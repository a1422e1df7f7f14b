/- OctetBack: what is put is read again, as far as its bytes tell it, and nothing is left. No condition. -/
import Derived.Test.YtpijnbcibmjnpaaAlive
import Derived.Test.YtpijnbcibmjnpaaFrame
import Derived.Deep.RegionHeld3
namespace Go.Proofs.Ytpijnbcibmjnpaa
open Go.ChangeShapes Go.WideShapes Go.ChangeAt Go.RowKit
open Go.ChangeMaps (open_string shut_string)

def puts (zs ns : List Int) : Nat → List UInt8
  | 0 => []
  | i + 1 => puts zs ns i ++ be (ns.getD i 0) (near (zs.getD i 0) 8).toNat
theorem puts_le (zs ns : List Int) (i : Nat) : (puts zs ns i).length ≤ 8 * i := by
  induction i with
  | zero => simp [puts]
  | succ i ih =>
    have := near_is (zs.getD i 0) 8
    simp only [puts, List.length_append, be_length]
    omega
def OwnFrom (B : Nat) (v : Value) : Prop := ∀ j, v.ownBlock = some j → B ≤ j
theorem OwnFrom.moved {B : Nat} {w : World} {v v' : Value} (h : OwnFrom B v) (hm : Moved w v v') (hB : B ≤ w.heap.size) : OwnFrom B v' := by
  intro j hj
  rcases hm with hm | ⟨k, hk, hm⟩
  · exact h j (hm.symm.trans hj)
  · rw [hm] at hj; injection hj with hj; omega
theorem OwnFrom.below {B g : Nat} {w w' : World} {v : Value} (h : OwnFrom B v) (hg : B ≤ g) (hB : B ≤ w.heap.size) (ht : Touch (FootW g v) w w') : Below B w w' :=
  ht.below hB (by rintro k (rfl | hk); exact hg; exact h k hk)
theorem OwnFrom.none (B c n : Nat) : OwnFrom B (.slice none n c) := by intro j hj; simp [Value.ownBlock] at hj

theorem mod_is (z : Int) (h1 : 1 ≤ z) (h7 : z ≤ 7) : IntKind.u64.wrap (2 ^ min (IntKind.u64.wrap (IntKind.i64.wrap (8 * z))).toNat 64) = ((256 ^ z.toNat : Nat) : Int) := by
  obtain ⟨k, rfl⟩ := Int.eq_ofNat_of_zero_le (show 0 ≤ z by omega)
  have e1 : IntKind.i64.wrap (8 * (k : Int)) = 8 * k := IntWalk.i64_in _ (by omega)
  have e2 : IntKind.u64.wrap (8 * (k : Int)) = 8 * k := by rw [IntKind.wrap_u64]; omega
  have e3 : min (8 * (k : Int)).toNat 64 = 8 * k := by omega
  rw [e1, e2, e3, IntKind.wrap_u64, Int.toNat_natCast]
  have hk : k = 1 ∨ k = 2 ∨ k = 3 ∨ k = 4 ∨ k = 5 ∨ k = 6 ∨ k = 7 := by omega
  rcases hk with rfl | rfl | rfl | rfl | rfl | rfl | rfl <;> decide
theorem mod_ne (z : Int) (h1 : 1 ≤ z) (h7 : z ≤ 7) : ¬ IntKind.u64.wrap (2 ^ min (IntKind.u64.wrap (IntKind.i64.wrap (8 * z))).toNat 64) = 0 := by
  rw [mod_is z h1 h7]
  have : 0 < 256 ^ z.toNat := Nat.pow_pos (by omega)
  omega
theorem emod_mul_split (n M : Int) (hM : 0 < M) : n % (M * 256) = M * (n / M % 256) + n % M := by
  have h1 : n = (M * (n / M % 256) + n % M) + (M * 256) * (n / M / 256) := by
    have a := Int.mul_ediv_add_emod n M
    have b := Int.mul_ediv_add_emod (n / M) 256
    have c : M * (n / M) = M * (256 * (n / M / 256) + n / M % 256) := by rw [b]
    rw [Int.mul_add, ← Int.mul_assoc] at c
    omega
  have h2 : 0 ≤ n % M := Int.emod_nonneg _ (by omega)
  have h3 : n % M < M := Int.emod_lt_of_pos _ hM
  have h4 : 0 ≤ n / M % 256 ∧ n / M % 256 ≤ 255 := by omega
  have h5 : M * (n / M % 256) ≤ M * 255 := Int.mul_le_mul_of_nonneg_left h4.2 (by omega)
  have h6 : 0 ≤ M * (n / M % 256) := Int.mul_nonneg (by omega) h4.1
  have h7 : n % (M * 256) = ((M * (n / M % 256) + n % M) + (M * 256) * (n / M / 256)) % (M * 256) := by rw [← h1]
  rw [h7, Int.add_mul_emod_self_left]
  exact Int.emod_eq_of_lt (by omega) (by omega)
theorem num_cons (c : UInt8) (l : List UInt8) : num (c :: l) = c.toNat * 256 ^ l.length + num l := by
  have h : ∀ (l : List UInt8) (a : Nat), l.foldl (fun a c => a * 256 + c.toNat) a = a * 256 ^ l.length + l.foldl (fun a c => a * 256 + c.toNat) 0 := by
    intro l
    induction l with
    | nil => intro a; simp
    | cons c l ih =>
      intro a
      simp only [List.foldl_cons, List.length_cons]
      rw [ih, ih (0 * 256 + c.toNat), Nat.pow_succ, Nat.zero_mul, Nat.zero_add, Nat.add_mul, Nat.mul_assoc, Nat.mul_comm 256, Nat.add_assoc]
  have := h l c.toNat
  simpa [num] using this
theorem byteAt_toNat (n : Int) (j : Nat) : ((byteAt n j).toNat : Int) = n / (256 ^ j : Nat) % 256 := by
  unfold byteAt
  have h3 : 0 ≤ n / ((256 ^ j : Nat) : Int) % 256 ∧ n / ((256 ^ j : Nat) : Int) % 256 < 256 := by omega
  generalize n / ((256 ^ j : Nat) : Int) % 256 = m at *
  simp
  omega
theorem num_be (n : Int) (k : Nat) : (num (be n k) : Int) = n % (256 ^ k : Nat) := by
  induction k with
  | zero => simp [num, be]
  | succ k ih =>
    rw [be, num_cons, be_length, Int.natCast_add, Int.natCast_mul, byteAt_toNat, ih]
    have := emod_mul_split n ((256 ^ k : Nat) : Int) (by have : 0 < 256 ^ k := Nat.pow_pos (by omega); omega)
    rw [Nat.pow_succ, Int.natCast_mul]
    rw [Int.mul_comm (n / _ % 256)]
    exact this.symm
theorem back (n z : Int) (h1 : 1 ≤ z) (h7 : z ≤ 7) : n % ((256 ^ z.toNat : Nat) : Int) = (n % 18446744073709551616 % ((256 ^ z.toNat : Nat) : Int)) ∧ 0 ≤ n % ((256 ^ z.toNat : Nat) : Int) ∧ n % ((256 ^ z.toNat : Nat) : Int) < 72057594037927937 := by
  obtain ⟨k, rfl⟩ := Int.eq_ofNat_of_zero_le (show 0 ≤ z by omega)
  rw [Int.toNat_natCast]
  have hk : k = 1 ∨ k = 2 ∨ k = 3 ∨ k = 4 ∨ k = 5 ∨ k = 6 ∨ k = 7 := by omega
  rcases hk with rfl | rfl | rfl | rfl | rfl | rfl | rfl
  · show n % 256 = n % 18446744073709551616 % 256 ∧ 0 ≤ n % 256 ∧ n % 256 < _; omega
  · show n % 65536 = n % 18446744073709551616 % 65536 ∧ 0 ≤ n % 65536 ∧ n % 65536 < _; omega
  · show n % 16777216 = n % 18446744073709551616 % 16777216 ∧ 0 ≤ n % 16777216 ∧ n % 16777216 < _; omega
  · show n % 4294967296 = n % 18446744073709551616 % 4294967296 ∧ 0 ≤ n % 4294967296 ∧ n % 4294967296 < _; omega
  · show n % 1099511627776 = n % 18446744073709551616 % 1099511627776 ∧ 0 ≤ n % 1099511627776 ∧ n % 1099511627776 < _; omega
  · show n % 281474976710656 = n % 18446744073709551616 % 281474976710656 ∧ 0 ≤ n % 281474976710656 ∧ n % 281474976710656 < _; omega
  · show n % 72057594037927936 = n % 18446744073709551616 % 72057594037927936 ∧ 0 ≤ n % 72057594037927936 ∧ n % 72057594037927936 < _; omega
theorem ext_list (T : ByteArray) (a k : Nat) : (T.extract a (a + k)).data.toList = (T.data.toList.drop a).take k := by
  rw [ByteArray.data_extract]
  simp [Array.toList_extract]
theorem end_of (T : ByteArray) (p : List UInt8) (s : ByteArray) (hs : T.size = p.length + s.size) (hT : (⟨(p ++ s.data.toList).toArray⟩ : ByteArray) = T) :
    (RdS.mk T p.length false).text s.size = s ∧ (RdS.mk T p.length false).take s.size = ⟨T, T.size, false⟩ := by
  have hc : (RdS.mk T p.length false).can s.size = true := by
    simp only [RdS.can, Bool.not_false, Bool.true_and, Bool.and_eq_true, decide_eq_true_eq]
    omega
  refine ⟨?_, by rw [RdS.take, if_pos hc, Int.toNat_natCast]; simp only [hs]⟩
  unfold RdS.text
  rw [if_pos hc, Int.toNat_natCast]
  have : (T.extract p.length (p.length + s.size)).data.toList = s.data.toList := by
    rw [ext_list, ← hT]
    show ((p ++ s.data.toList).drop _).take _ = _
    rw [List.drop_left]
    exact List.take_of_length_le (by rw [Array.length_toList]; exact Nat.le_refl _)
  have h2 : (T.extract p.length (p.length + s.size)).data = s.data := Array.ext' this
  exact congrArg ByteArray.mk h2
theorem near_self (z : Int) (h1 : 1 ≤ z) (h7 : z ≤ 7) : near z 7 = z := by rw [near_is]; omega
theorem text_of (T : ByteArray) (p q : List UInt8) (z : Int) (h0 : 1 ≤ z) (hq : q.length = z.toNat) (hT : (T.data.toList.drop p.length).take z.toNat = q) :
    ((RdS.mk T p.length false).text z).data.toList = q ∧ (RdS.mk T p.length false).take z = ⟨T, p.length + z.toNat, false⟩ := by
  have hl : p.length + z.toNat ≤ T.size := by
    have := congrArg List.length hT
    simp only [List.length_take, List.length_drop, Array.length_toList, hq] at this
    have hs : T.data.size = T.size := rfl
    omega
  have hc : (RdS.mk T p.length false).can z = true := by
    simp only [RdS.can, Bool.not_false, Bool.true_and, Bool.and_eq_true, decide_eq_true_eq]
    omega
  refine ⟨?_, by rw [RdS.take, if_pos hc]⟩
  unfold RdS.text
  rw [if_pos hc, ext_list, hT]
theorem puts_split (zs ns : List Int) (s : List UInt8) {m k : Nat} (h : m < k) : ∃ rest, puts zs ns k ++ s = puts zs ns m ++ (be (ns.getD m 0) (near (zs.getD m 0) 8).toNat ++ rest) := by
  induction k with
  | zero => omega
  | succ k ih =>
    by_cases hm : m = k
    · subst hm
      exact ⟨s, by simp [puts]⟩
    · obtain ⟨rest, hr⟩ := ih (by omega)
      have hr' : ∀ s', ∃ rest, puts zs ns k ++ s' = puts zs ns m ++ (be (ns.getD m 0) (near (zs.getD m 0) 8).toNat ++ rest) := by
        intro s'
        have h1 : (puts zs ns k).length = (puts zs ns m ++ be (ns.getD m 0) (near (zs.getD m 0) 8).toNat).length + ((puts zs ns k).length - (puts zs ns m ++ be (ns.getD m 0) (near (zs.getD m 0) 8).toNat).length) := by
          have hle : ∀ k, m < k → (puts zs ns m ++ be (ns.getD m 0) (near (zs.getD m 0) 8).toNat).length ≤ (puts zs ns k).length := by
            intro k
            induction k with
            | zero => intro h; omega
            | succ k ih =>
              intro h
              by_cases hm : m = k
              · subst hm; exact Nat.le_refl _
              · have := ih (by omega)
                simp only [puts, List.length_append] at this ⊢
                omega
          have := hle k (by omega)
          omega
        refine ⟨(puts zs ns k).drop (puts zs ns m ++ be (ns.getD m 0) (near (zs.getD m 0) 8).toNat).length ++ s', ?_⟩
        have h2 : (puts zs ns k).take (puts zs ns m ++ be (ns.getD m 0) (near (zs.getD m 0) 8).toNat).length = puts zs ns m ++ be (ns.getD m 0) (near (zs.getD m 0) 8).toNat := by
          have := congrArg (List.take (puts zs ns m ++ be (ns.getD m 0) (near (zs.getD m 0) 8).toNat).length) hr
          rw [← List.append_assoc, List.take_left, List.take_append_of_le_length (by omega)] at this
          exact this
        have h3 := List.take_append_drop (puts zs ns m ++ be (ns.getD m 0) (near (zs.getD m 0) 8).toNat).length (puts zs ns k)
        rw [h2] at h3
        rw [← List.append_assoc, ← List.append_assoc, h3]
      simp only [puts, List.append_assoc]
      exact hr' _
theorem puts_mono (zs ns : List Int) {m k : Nat} (h : m ≤ k) : (puts zs ns m).length ≤ (puts zs ns k).length := by
  induction k with
  | zero => have : m = 0 := by omega
            subst this; exact Nat.le_refl _
  | succ k ih =>
    by_cases hm : m = k + 1
    · subst hm; exact Nat.le_refl _
    · have := ih (by omega)
      simp only [puts, List.length_append]
      omega
theorem puts_at (zs ns : List Int) (s : List UInt8) {m k : Nat} (h : m < k) (h1 : 1 ≤ zs.getD m 0) (h7 : zs.getD m 0 ≤ 7) :
    ((puts zs ns k ++ s).drop (puts zs ns m).length).take (zs.getD m 0).toNat = be (ns.getD m 0) (zs.getD m 0).toNat := by
  obtain ⟨rest, hr⟩ := puts_split zs ns s h
  have hn : near (zs.getD m 0) 8 = zs.getD m 0 := by rw [near_is]; omega
  rw [hn] at hr
  rw [hr, List.drop_left]
  have hl := be_length (ns.getD m 0) (zs.getD m 0).toNat
  rw [List.take_append_of_le_length (by omega), List.take_of_length_le (by omega)]
theorem num_back (T : ByteArray) (p q : List UInt8) (n z : Int) (h1 : 1 ≤ z) (h7 : z ≤ 7) (hq : q = be n z.toNat) (hT : (T.data.toList.drop p.length).take z.toNat = q) :
    ((num ((RdS.mk T p.length false).text (near z 7)).data.toList : Int) != IntKind.i64.wrap ((IntKind.u64.wrap n).tmod (IntKind.u64.wrap (2 ^ min (IntKind.u64.wrap (IntKind.i64.wrap (8 * z))).toNat 64)))) = false := by
  have hb := back n z h1 h7
  rw [near_self z h1 h7, (text_of T p q z (by omega) (by rw [hq, be_length]) hT).1, hq, num_be, mod_is z h1 h7, IntKind.wrap_u64, Int.tmod_eq_emod_of_nonneg (by omega), ← hb.1, IntWalk.i64_in _ (by omega)]
  simp

set_option maxHeartbeats 2000000 in
theorem walkOctetBack (a0 : Option Addr) (len0 cap0 : Nat) (z0 : List Int) (a1 : Option Addr) (len1 cap1 : Nat) (z1 : List Int) (s2 : ByteArray) (w : World) (h0 : IsRow .i64 w a0 len0 cap0 z0) (h1 : IsRow .i64 w a1 len1 cap1 z1) (_h2 : s2.size ≤ maxLen) :
    Calls Try.prog 5 #[.slice a0 len0 cap0, .slice a1 len1 cap1, .string s2] w fun e w' => e = .returned (.bool true) ∧ Below w.heap.size w w' := by
  by_cases hg : len0 ≤ 100 ∧ len0 ≤ len1 ∧ s2.size ≤ 4096
  · obtain ⟨g1, g2, g3⟩ := hg
    have d1 : decide ((100 : Int) < (len0 : Int)) = false := by simp; omega
    have d2 : decide (len1 < len0) = false := by simp; omega
    have d3 : decide ((4096 : Int) < (s2.size : Int)) = false := by simp; omega
    go_enter Try.func5, Try.ntmps5
    go_wp2_with fail
    refine (alive_any _).mono ?_
    rintro e w1 ⟨rfl, b1⟩
    go_wp2_with fail
    have hB : w.heap.size ≤ w1.heap.size := b1.size
    go_loopw [34] (fun i wr => ∃ (k : Nat) (v1 : Value), k ≤ len0 ∧ i = .int .i64 k ∧ IsW wr w1.heap.size v1 (puts z0 z1 k) ∧ OwnFrom w.heap.size v1 ∧ Below w.heap.size w wr ∧ (∀ j, j < k → 1 ≤ z0.getD j 0 ∧ z0.getD j 0 ≤ 7)) (fun i _ => len0 - (intOf i).toNat)
    case atStart => exact ⟨0, _, Nat.zero_le _, rfl, IsW.new _, OwnFrom.none _ _ _, b1.alloc hB _, fun j hj => absurd hj (Nat.not_lt_zero _)⟩
    case round =>
      obtain ⟨k, v1, hk, rfl, hw, ho, hb, hz⟩ := hrel
      by_cases hlt : k < len0
      · obtain ⟨b, off, rfl, hbl, hc⟩ := h0.at_ hlt
        obtain ⟨b', off', rfl, hbl', hc'⟩ := h1.at_ (show k < len1 by omega)
        have c0 : wr.cell? ⟨b, off + k, none⟩ = some (.int .i64 (z0.getD k 0)) := (hb.cell (p := ⟨b, off + k, none⟩) hbl).trans hc
        have c1 : wr.cell? ⟨b', off' + k, none⟩ = some (.int .i64 (z1.getD k 0)) := (hb.cell (p := ⟨b', off' + k, none⟩) hbl').trans hc'
        have hpl := puts_le z0 z1 k
        have hsucc : puts z0 z1 (k + 1) = puts z0 z1 k ++ be (z1.getD k 0) (near (z0.getD k 0) 8).toNat := rfl
        generalize hzk : z0.getD k 0 = zk at *
        generalize hnk : z1.getD k 0 = nk at *
        have HZ := Lib.hid hzk
        have HS := Lib.hid hsucc
        have HH := Lib.hid hz
        clear hzk hnk hsucc hc hc' hz
        by_cases hbad : zk < 1 ∨ 7 < zk
        · rcases hbad with hbad | hbad
          all_goals
            go_wp2_with fail
            go_ret
            exact ⟨rfl, hb⟩
        · have hz1 : 1 ≤ zk := by omega
          have hz7 : zk ≤ 7 := by omega
          clear hbad
          go_wp2_with fail
          refine (put_any _ v1 _ _ _ _ hw (by omega)).mono ?_
          rintro e w2 ⟨rfl, v2, hw2, t2, m2⟩
          rw [← HS.out] at hw2
          have ho2 := ho.moved m2 hb.size
          have hb2 := hb.trans (ho.below hB hb.size t2)
          have hz2 : ∀ j, j < k + 1 → 1 ≤ z0.getD j 0 ∧ z0.getD j 0 ≤ 7 := by
            intro j hj
            by_cases hjk : j = k
            · subst hjk; rw [HZ.out]; exact ⟨hz1, hz7⟩
            · exact HH.out j (by omega)
          have HZ2 := Lib.hid hz2
          clear hz2 hw ho t2 m2 hb c0 c1
          go_wp2_with fail
          go_roundw
          case rel => exact ⟨k + 1, v2, by omega, by go_num, hw2, ho2, hb2, HZ2.out⟩
          case measure => simp [intOf]; omega
      · obtain rfl : k = len0 := by omega
        have HH := Lib.hid hz
        clear hz hlt hk
        have hpl := puts_le z0 z1 k
        go_wp2_with fail
        refine (wraw_any _ v1 _ _ _ hw (by omega)).mono ?_
        rintro e w2 ⟨rfl, v2, hw2, t2, m2⟩
        have hb2 := hb.trans (ho.below hB hb.size t2)
        clear hw ho t2 m2 hb
        go_wp2_with fail
        refine (wtext_any _ v2 _ _ hw2).mono ?_
        rintro e w3 ⟨rfl, rfl⟩
        clear hw2
        generalize hT : (⟨(puts z0 z1 k ++ s2.data.toList).toArray⟩ : ByteArray) = T
        go_wp2_with fail
        refine (open_any _ _).mono ?_
        rintro e w3 ⟨rfl, r3, b3⟩
        have hb3 := hb2.trans (b3.mono hb2.size)
        have HT := Lib.hid hT
        have hTs : T.size = (puts z0 z1 k).length + s2.size := by rw [← hT]; show (puts z0 z1 k ++ s2.data.toList).toArray.size = _; rw [List.size_toArray, List.length_append]; rfl
        have hTb : T.size ≤ 9223372036854775807 := by omega
        have HTs := Lib.hid hTs
        clear hT hTs b3 
        go_wp2_with fail
        have hB2 : w.heap.size ≤ w2.heap.size := hb2.size
        clear hb2
        go_loopw [61] (fun i wr => ∃ m : Nat, m ≤ k ∧ i = .int .i64 m ∧ IsR wr w2.heap.size ⟨T, (puts z0 z1 m).length, false⟩ ∧ Below w.heap.size w wr) (fun i _ => k - (intOf i).toNat)
        case atStart => exact ⟨0, Nat.zero_le _, rfl, r3, hb3⟩
        case round =>
          obtain ⟨m, hm, rfl, hr, hb⟩ := hrel
          clear r3 hb3
          by_cases hlt : m < k
          · obtain ⟨b, off, rfl, hbl, hc⟩ := h0.at_ hlt
            obtain ⟨b', off', rfl, hbl', hc'⟩ := h1.at_ (show m < len1 by omega)
            have c0 : wr.cell? ⟨b, off + m, none⟩ = some (.int .i64 (z0.getD m 0)) := (hb.cell (p := ⟨b, off + m, none⟩) hbl).trans hc
            have c1 : wr.cell? ⟨b', off' + m, none⟩ = some (.int .i64 (z1.getD m 0)) := (hb.cell (p := ⟨b', off' + m, none⟩) hbl').trans hc'
            have hz1 := (HH.out m hlt).1
            have hz7 := (HH.out m hlt).2
            have hTm : (T.data.toList.drop (puts z0 z1 m).length).take (z0.getD m 0).toNat = be (z1.getD m 0) (z0.getD m 0).toNat := by
              rw [← HT.out]
              exact puts_at z0 z1 s2.data.toList hlt hz1 hz7
            have hsm : (puts z0 z1 (m + 1)).length = (puts z0 z1 m).length + (z0.getD m 0).toNat := by
              have hn : near (z0.getD m 0) 8 = z0.getD m 0 := by rw [near_is]; omega
              rw [puts, List.length_append, be_length, hn]
            generalize hzk : z0.getD m 0 = zk at *
            generalize hnk : z1.getD m 0 = nk at *
            have hE := num_back T (puts z0 z1 m) (be nk zk.toNat) nk zk hz1 hz7 rfl hTm
            have hrt : (RdS.mk T (puts z0 z1 m).length false).take (near zk 7) = ⟨T, (puts z0 z1 (m + 1)).length, false⟩ := by
              rw [near_self zk hz1 hz7, (text_of T _ _ zk hz1 (be_length _ _) hTm).2, hsm]
            have HR := Lib.hid hrt
            clear hzk hnk hc hc' hTm hsm hrt
            have hok : (RdS.mk T (puts z0 z1 m).length false).ok := ⟨by have := HTs.out; have := puts_mono z0 z1 (show m ≤ k by omega); show (puts z0 z1 m).length ≤ T.size; omega, hTb⟩
            have c1k : ∀ w4 : World, Touch (· = w2.heap.size) wr.drew w4 → w4.cell? ⟨b', off' + m, none⟩ = some (.int .i64 nk) := fun w4 ht => by
              have hlt : b' < wr.heap.size := Nat.lt_of_lt_of_le hbl' hb.size
              exact (World.cell?_of_block (ht.block b' hlt (by show ¬ b' = _; omega))).trans c1
            have hlt1 : m < len1 := by omega
            have hM := mod_ne zk hz1 hz7
            have HK := Lib.hid c1k
            have hrd : IsR wr.drew w2.heap.size ⟨T, (puts z0 z1 m).length, false⟩ := hr
            clear c1k
            go_wp2_with fail
            go_region_law ((go_simp; go_at_call 14; refine (get_any w2.heap.size _ _ _ hrd hok).mono ?_; rintro e w4 ⟨rfl, hr4, t4⟩; have c4 := HK.out _ t4))
            all_goals
              rw [HR.out] at hr4
              have hb4 : Below w.heap.size w w4 := hb.trans (Below.trans (Below.drew (Below.refl _ _)) (t4.below (by have := hb.size; exact this) (by rintro j rfl; exact hB2)))
              clear hrd hr t4 HK hE hM HR
              go_wp2
              go_roundw
              case rel => exact ⟨m + 1, by omega, by go_num, hr4, hb4⟩
              case measure => simp [intOf]; omega
          · obtain rfl : m = k := by omega
            have hTk : (T.data.toList.drop (puts z0 z1 m).length).take s2.size = s2.data.toList := by
              rw [← HT.out]
              show ((puts z0 z1 m ++ s2.data.toList).drop _).take _ = _
              rw [List.drop_left]
              exact List.take_of_length_le (by rw [Array.length_toList]; exact Nat.le_refl _)
            have hok : (RdS.mk T (puts z0 z1 m).length false).ok := ⟨by have := HTs.out; show (puts z0 z1 m).length ≤ T.size; omega, hTb⟩
            have hl1 : (RdS.mk T (puts z0 z1 m).length false).left = s2.size := by have := HTs.out; simp only [RdS.left]; simp only [Bool.false_eq_true, ite_false]; omega
            obtain ⟨hx1, hx2⟩ := end_of T (puts z0 z1 m) s2 HTs.out HT.out
            generalize hp : (puts z0 z1 m).length = P at *
            clear hp
            clear hTk hlt hm
            go_wp2_with fail
            refine (left_any _ _ _ hr hok).mono ?_
            rintro e w4 ⟨rfl, n4, rfl⟩
            rw [hl1]
            clear hl1
            have hr4 : IsR (wr.drewN n4) w2.heap.size ⟨T, P, false⟩ := hr
            clear hr
            go_wp2_with fail
            refine (raw_any _ _ _ _ hr4 hok (by omega)).mono ?_
            rintro e w5 ⟨rfl, r5, t5⟩
            rw [hx2] at r5
            rw [hx1]
            have hb5 : Below w.heap.size w w5 := (bel_drewN hb n4).trans (t5.below hb.size (by rintro j rfl; exact hB2))
            have hok5 : (RdS.mk T T.size false).ok := ⟨Nat.le_refl _, hTb⟩
            have he5 : (RdS.mk T T.size false).end_ = 0 := by simp [RdS.end_]
            clear hx1 hx2 hr4 hok t5 hb
            go_wp2_with fail
            refine (end_any _ _ _ r5 hok5).mono ?_
            rintro e w6 ⟨rfl, n6, rfl⟩
            rw [he5]
            go_wp2_with fail
            go_ret
            exact ⟨rfl, bel_drewN hb5 n6⟩
  · by_cases g1 : len0 ≤ 100
    · have d1 : decide ((100 : Int) < (len0 : Int)) = false := by simp; omega
      by_cases g2 : len0 ≤ len1
      · have d2 : decide (len1 < len0) = false := by simp; omega
        have d3 : decide ((4096 : Int) < (s2.size : Int)) = true := by simp; omega
        go_enter Try.func5, Try.ntmps5
        go_wp2_with fail
        refine (alive_any _).mono ?_
        rintro e w1 ⟨rfl, b1⟩
        go_wp2_with fail
        go_ret
        exact ⟨rfl, b1⟩
      · have d2 : decide (len1 < len0) = true := by simp; omega
        go_enter Try.func5, Try.ntmps5
        go_wp2_with fail
        refine (alive_any _).mono ?_
        rintro e w1 ⟨rfl, b1⟩
        go_wp2_with fail
        go_ret
        exact ⟨rfl, b1⟩
    · have d1 : decide ((100 : Int) < (len0 : Int)) = true := by simp; omega
      go_enter Try.func5, Try.ntmps5
      go_wp2_with fail
      refine (alive_any _).mono ?_
      rintro e w1 ⟨rfl, b1⟩
      go_wp2_with fail
      go_ret
      exact ⟨rfl, b1⟩

set_option maxRecDepth 100000 in
theorem liftedOctetBack (os : Os) (started : os.Started) (H : Type) (enc : TypeId × Value → H) :
    ReturnsInHanded {} Try.checked os 5 .any (Rows.octetBackSpec.pre6 enc Try.prog Try.f5 Rows.octetBackRow.domain false) (Rows.octetBackSpec.post enc Try.prog Try.f5 false true false false) := by
  refine returnsInHanded_of_change (C := Try.checked) own started (by kernel_rfl) Try.func5
    (ChangeSpec.witness6 (enc := enc) (C := Try.checked) false ⟨#[], #[.slice none 0 0, .slice none 0 0, .string ⟨#[]⟩], []⟩ 8 (by kernel_rfl) (by kernel_rfl) (by kernel_rfl) (by kernel_rfl)) ?_
  intro W base args ds gs before hval0 hW hcnd _
  have hval : ∀ (j : Nat) t v, Try.f5.params[j]? = some t → args[j]? = some v → Value.okWide Try.prog W .any base t v := hval0
  have hW' := hW
  obtain ⟨p, q, hA0, hV, rfl, hfz, hnd⟩ := hW
  have hA : DataW.TrodAll enc Try.prog W 0 (fun _ => true) true Try.f5.params.toList args.toList ds p := hA0
  rw [Try.params5] at hA hval
  obtain ⟨v0, vs0, d0, ds0, p0, q0, hargs, rfl, rfl, h0, r0⟩ := trodAll_cons hA
  obtain ⟨v1, vs1, d1, ds1, p1, q1, rfl, rfl, rfl, h1, r1⟩ := trodAll_cons r0
  obtain ⟨v2, vs2, d2, ds2, p2, q2, rfl, rfl, rfl, h2, r2⟩ := trodAll_cons r1
  obtain ⟨rfl, rfl, rfl⟩ := trodAll_nil r2
  obtain rfl : args = #[v0, v1, v2] := by cases args; simp_all
  obtain ⟨rfl, rfl⟩ := trodVars_none hV
  obtain ⟨a0, len0, cap0, rfl⟩ := okWide_slice Try.underlying22 (hval 0 22 v0 rfl rfl)
  have k0 := h0
  have lt0 : ∀ x ∈ p0, x.block < W.heap.size := by obtain ⟨m, hm⟩ := k0; exact DataW.trod_lt m _ _ _ hm
  obtain ⟨z0, w0⟩ : ∃ zs, IsRow .i64 W a0 len0 cap0 zs := by
    obtain ⟨fuel, hf⟩ := h0
    rcases open_ints Try.underlying22 Try.underlying3 (by kernel_rfl) hf with ⟨hcs, _⟩ | ⟨x, l, c, zs, hcs, _, hl, hm, hz, _, hcell, hwz⟩
    · simp [Value.cells] at hcs
      obtain ⟨rfl, rfl, rfl⟩ := hcs
      exact ⟨[], .inl ⟨rfl, rfl, rfl, rfl⟩⟩
    · simp [Value.cells] at hcs
      obtain ⟨rfl, rfl, rfl⟩ := hcs
      exact ⟨zs, .inr ⟨_, rfl, hl, hm, by simpa using hz, cell_lt hcell (by simpa using hz), hcell, hwz⟩⟩
  obtain ⟨a1, len1, cap1, rfl⟩ := okWide_slice Try.underlying22 (hval 1 22 v1 rfl rfl)
  have k1 := h1
  have lt1 : ∀ x ∈ p1, x.block < W.heap.size := by obtain ⟨m, hm⟩ := k1; exact DataW.trod_lt m _ _ _ hm
  obtain ⟨z1, w1⟩ : ∃ zs, IsRow .i64 W a1 len1 cap1 zs := by
    obtain ⟨fuel, hf⟩ := h1
    rcases open_ints Try.underlying22 Try.underlying3 (by kernel_rfl) hf with ⟨hcs, _⟩ | ⟨x, l, c, zs, hcs, _, hl, hm, hz, _, hcell, hwz⟩
    · simp [Value.cells] at hcs
      obtain ⟨rfl, rfl, rfl⟩ := hcs
      exact ⟨[], .inl ⟨rfl, rfl, rfl, rfl⟩⟩
    · simp [Value.cells] at hcs
      obtain ⟨rfl, rfl, rfl⟩ := hcs
      exact ⟨zs, .inr ⟨_, rfl, hl, hm, by simpa using hz, cell_lt hcell (by simpa using hz), hcell, hwz⟩⟩
  obtain ⟨s2, rfl, rfl, rfl, w2⟩ := open_string Try.underlying9 (hval 2 9 v2 rfl rfl) h2
  clear hA0 hval0
  refine (walkOctetBack a0 len0 cap0 z0 a1 len1 cap1 z1 s2 W w0 w1 w2).mono fun e W' ⟨he, bel⟩ => ?_
  subst he
  exact ⟨_, rfl, _, _, _, [], _, [], hW', trodAll_mk1 (shut_bool Try.underlying4 _), (trodAll_cons_mk (Below.trod laidOut (by kernel_rfl) (of_decide_eq_true (by kernel_rfl)) k0 bel lt0) (trodAll_cons_mk (Below.trod laidOut (by kernel_rfl) (of_decide_eq_true (by kernel_rfl)) k1 bel lt1) (trodAll_cons_mk (shut_string Try.underlying9 w2) trodAll_mk0))), rfl, bel.frame _, fun h => by cases h⟩

theorem overOctetBack : Rows.octetBackRow.holds Try.pinned (OpenSpec.ofChange Rows.octetBackSpec) :=
  OpenClaim.holds_of_wide 5 Try.f5 rfl rfl rfl rfl rfl rfl rfl ⟨rfl, rfl, rfl, rfl, rfl⟩ rfl rfl rfl rfl rfl (by kernel_rfl) Try.func5 (by kernel_rfl)
    (of_decide_eq_true (by kernel_rfl)) (by unfold Func.isWrapper; first | (rw [if_pos (by decide +kernel)]; kernel_rfl) | (rw [if_neg (by decide +kernel)]; exact ⟨rfl, rfl⟩))
    (fun os started H enc _ => liftedOctetBack os started H enc)

/-- The statement. -/
theorem octetBack_holds : Rows.OctetBackSaid := overOctetBack
end Go.Proofs.Ytpijnbcibmjnpaa
