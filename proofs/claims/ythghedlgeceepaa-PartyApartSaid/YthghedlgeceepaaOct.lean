/- Joined texts. Conditions: those that each names. -/
import Derived.Test.YthghedlgeceepaaMem
import Derived.Laws.BitsAllLaws
import Derived.Test.YthghedlgeceepaaOwn
import Derived.Lib.AppendStr
import Derived.Laws.IdiomStrings
import Derived.Lib.BufferRead
import Derived.Deep.AppendLies
import Derived.Deep.RegionLaw
namespace Go.Proofs.Ythghedlgeceepaa
section
/- Contracts of octet's Reader: what each call answers, and how the block of the reader reads behind it. No condition but that the reader stands in its place. -/
open Go.RowKit

/-- A reader as data: its text, where it stands, whether it has failed. -/
structure RdS where
  s : ByteArray
  at_ : Nat
  bad : Bool
def RdS.ok (r : RdS) : Prop := r.at_ ≤ r.s.size ∧ r.s.size ≤ 9223372036854775807
def RdS.cells (r : RdS) : Array Value := #[.string r.s, .int .i64 r.at_, .bool r.bad]
def RdS.left (r : RdS) : Nat := if r.bad then 0 else r.s.size - r.at_
def RdS.can (r : RdS) (n : Int) : Bool := !r.bad && decide (0 ≤ n) && decide (n ≤ r.s.size - r.at_)
def RdS.fail (r : RdS) : RdS := { r with bad := true }
def RdS.take (r : RdS) (n : Int) : RdS := if r.can n then { r with at_ := r.at_ + n.toNat } else r.fail
def RdS.text (r : RdS) (n : Int) : ByteArray := if r.can n then r.s.extract r.at_ (r.at_ + n.toNat) else ⟨#[]⟩

section
variable {w : World} {g : Nat} {r : RdS}
end







def near (n most : Int) : Int := if n < 1 then (if most < 1 then most else 1) else if most < n then most else n
theorem near_is (n most : Int) : near n most = min (max n 1) most := by
  unfold near
  split <;> split <;> omega
set_option maxHeartbeats 400000 in
theorem near_any (n most : Int) (w : World) :
    Calls Try.prog 68 #[.int .i64 n, .int .i64 most] w fun e w' => e = .returned (.int .i64 (near n most)) ∧ w = w' := by
  by_cases h1 : n < 1
  · by_cases h2 : most < 1
    all_goals
      simp only [near, h1, h2, ite_true, ite_false]
      go_enter Try.func68, Try.ntmps68
      go_wp2
      go_ret
      exact ⟨rfl, rfl⟩
  · by_cases h2 : most < n
    all_goals
      simp only [near, h1, h2, ite_true, ite_false]
      go_enter Try.func68, Try.ntmps68
      go_wp2
      go_ret
      exact ⟨rfl, rfl⟩







end
section
/- octet's Reader.Get: the number of the bytes that it takes. No condition but that the reader stands in its place. -/
open Go.RowKit

/-- The number of some bytes, the highest first. -/
def num (l : List UInt8) : Nat := l.foldl (fun a c => a * 256 + c.toNat) 0
theorem num_snoc (l : List UInt8) (c : UInt8) : num (l ++ [c]) = num l * 256 + c.toNat := by simp [num]
theorem num_lt (l : List UInt8) : num l < 256 ^ l.length := by
  have h : ∀ (l : List UInt8) (a k : Nat), a < 256 ^ k → l.foldl (fun a c => a * 256 + c.toNat) a < 256 ^ (k + l.length) := by
    intro l
    induction l with
    | nil => intro a k h; simpa using h
    | cons c l ih =>
      intro a k h
      have hc := c.toNat_lt
      have := ih (a * 256 + c.toNat) (k + 1) (by rw [Nat.pow_succ]; omega)
      simpa [Nat.add_assoc, Nat.add_comm, Nat.add_left_comm] using this
  simpa [num] using h l 0 0 (by simp)

theorem or_byte (a : Nat) (c : UInt8) (h : a < 281474976710656) : bits .or .i64 (wrap64 ((a : Int) * 256)) (wrap64 (c.toNat : Int)) = ((a * 256 + c.toNat : Nat) : Int) := by
  have hc := c.toNat_lt
  have e1 : wrap64 ((a : Int) * 256) = ((a * 256 : Nat) : Int) := by rw [IntWalk.wrap64_in _ (by omega)]; omega
  have e2 : wrap64 (c.toNat : Int) = ((c.toNat : Nat) : Int) := IntWalk.wrap64_in _ (by omega)
  rw [e1, e2]
  have ha : (BitVec.ofInt 64 ((a * 256 : Nat) : Int)).toNat = a * 256 := by
    rw [BitVec.ofInt_natCast, BitVec.toNat_ofNat]; exact Nat.mod_eq_of_lt (by omega)
  have hb : (BitVec.ofInt 64 ((c.toNat : Nat) : Int)).toNat = c.toNat := by
    rw [BitVec.ofInt_natCast, BitVec.toNat_ofNat]; exact Nat.mod_eq_of_lt (by omega)
  show IntKind.i64.wrap ((BitVec.ofInt 64 ((a * 256 : Nat) : Int) ||| BitVec.ofInt 64 ((c.toNat : Nat) : Int)).toNat : Int) = _
  rw [BitVec.toNat_or, ha, hb, nat_join 8 (a * 256) c.toNat (by omega) (by omega), IntKind.wrap_i64]
  omega

theorem take_snoc (s : ByteArray) (k : Nat) (h : k < s.size) : s.data.toList.take (k + 1) = s.data.toList.take k ++ [s[k]] := by
  rw [List.take_succ_eq_append_getElem (by simpa using h)]; rfl
theorem text_le (r : RdS) (n : Int) : ((r.text n).size : Int) ≤ max n 0 := by
  unfold RdS.text
  split
  · rename_i h
    simp only [RdS.can, Bool.and_eq_true, decide_eq_true_eq] at h
    have : (r.s.extract r.at_ (r.at_ + n.toNat)).size ≤ n.toNat := by simp; omega
    omega
  · show (0 : Int) ≤ _
    omega

end
section
/- Contracts of octet's Writer: what each call puts behind what stands there, and which blocks may turn. No condition but that the writer stands in its place, and that there is room. -/
open Go.RowKit

/-- Bytes as cells. -/
def bytesV (l : List UInt8) : List Value := l.map fun b => Value.int .u8 (b.toNat : Int)
theorem bytesV_length (l : List UInt8) : (bytesV l).length = l.length := by simp [bytesV]
theorem bytesV_append (l m : List UInt8) : bytesV (l ++ m) = bytesV l ++ bytesV m := by simp [bytesV]
theorem bytesV_str (s : ByteArray) : Lib.strCells s = bytesV s.data.toList := rfl

/-- The law of append at a string, with where the new slice lies. -/
theorem run_append_string_at {P : Program} (w : World) (base : Nat) (t u ty e : TypeId) (i : TypeInfo) (ht : P.underlying t = some (.slice e)) (hu : P.underlying u = some .string) (hi : P.info? e = some i) (hz : i.zero = some (.int .u8 0))
    (hsize : i.size = 1) (hby : i.bytes = 1) (v : Value) (n : Nat) (xs : List Value) (hown : w.ownsRow base e 1 v n xs) (s : ByteArray)
    (h63 : n + s.size ≤ maxLen) (hbytes : n + s.size ≤ 140737488355328) (hbase : base ≤ w.heap.size) :
    ∃ v' w', (Builtin.append_ #[t, u] ty #[v, .string s]).run P w = .ok v' w' ∧ w'.ownsRow base e 1 v' (n + s.size) (xs ++ Lib.strCells s) ∧ w.grownBy w' v.ownBlock ∧ Moved w v v' := by
  obtain ⟨v', w', hr, ho, hg, hn⟩ := Lib.run_append_own_string (P := P) w base t u ty e i ht hu hi hz hsize hby v n xs hown s h63 hbytes hbase
  refine ⟨v', w', hr, ho, hg, ?_⟩
  have hsmall : n + s.size ≤ 9223372036854775807 := by simp only [maxLen] at h63; omega
  rcases hown.2 with ⟨rfl, rfl⟩ | ⟨g, cap, cur, rfl, hbg, hgc, hnc, hcm, hcs, htake⟩
  · have hx : xs = [] := List.eq_nil_of_length_eq_zero (by simpa using hown.1)
    subst hx
    obtain ⟨v2, w2, hr2, ho2, _, _⟩ := Lib.run_append_own_string (P := P) w w.heap.size t u ty e i ht hu hi hz hsize hby (.slice none 0 0) 0 [] (World.ownsRow_nil w _ e 1) s h63 hbytes (Nat.le_refl _)
    rw [hr] at hr2
    injection hr2 with hv hw
    subst hv hw
    rcases ho2.2 with ⟨rfl, _⟩ | ⟨g, cap, cur, rfl, hbg, _⟩
    · exact .inl rfl
    · exact .inr ⟨g, hbg, rfl⟩
  · by_cases hroom : n + s.size ≤ cap
    · have hcs' : cur.size = cap := by simpa using hcs
      have hr2 := Lib.run_append_room_string (P := P) w t u ty e i ht hu hi hsize g n cap cur hgc s hroom (by omega)
      rw [hr] at hr2
      injection hr2 with hv hw
      subst hv
      exact .inl rfl
    · have hxl : xs.length = n := by simpa using hown.1
      have holds : ∀ j u, xs[j]? = some u → w.cell? ((⟨g, 0, none⟩ : Addr).add j) = some u := hown.cells (g := g) rfl
      have hr2 := Lib.run_append_grow_string (P := P) w t u ty e i (.int .u8 0) ht hu hi hz ⟨g, 0, none⟩ n cap xs (by rw [hsize]; simpa using hxl) holds s (by omega) (by omega) (by rw [hby]; exact growslice_fits (by omega) (by omega))
      rw [hr] at hr2
      injection hr2 with hv hw
      subst hv
      exact .inr ⟨_, Nat.le_refl _, rfl⟩
theorem wpList_append_string_at {P : Program} {ops : Array Oper} {rest : List Oper} {o : Oper} {a : Act} {Q : Exit → Act → World → Prop} (w : World) (hgd : o.guard = none) (sl x : Operand) (t u : TypeId)
    (ho : o.op = .call { callee := .builtin .append, args := #[sl, x], argTypes := #[t, u] })
    (base : Nat) (e : TypeId) (i : TypeInfo) (ht : P.underlying t = some (.slice e)) (hu : P.underlying u = some .string) (hi : P.info? e = some i) (hz : i.zero = some (.int .u8 0))
    (hsize : i.size = 1) (hby : i.bytes = 1)
    (v : Value) (n : Nat) (xs : List Value) (hs : a.eval sl = v) (hown : w.ownsRow base e 1 v n xs) (s : ByteArray) (hx : a.eval x = .string s)
    (h63 : n + s.size ≤ maxLen) (hbytes : n + s.size ≤ 140737488355328) (hbase : base ≤ w.heap.size)
    (h : ∀ v' w', w'.ownsRow base e 1 v' (n + s.size) (xs ++ Lib.strCells s) → w.grownBy w' v.ownBlock → Moved w v v' → wpList P ops Q rest (a.put o.dst v') w') : wpList P ops Q (o :: rest) a w := by
  refine wpList_plain hgd fun K hK => ?_
  obtain ⟨v', w', hr, h2, h3, h4⟩ := run_append_string_at (P := P) w base t u o.type e i ht hu hi hz hsize hby v n xs hown s h63 hbytes hbase
  unfold Oper.wp execOp
  simp only [ho, resolve, invoke, builtin, Sem.run_bind, Sem.run_pure, Result.andThen_ok, List.map_toArray, List.map_cons, List.map_nil, hs, hx, hr]
  exact hK _ _ (h v' w' h2 h3 h4)

/-- At block g stands a writer whose slice is v and which holds the bytes l. -/
structure IsW (w : World) (g : Nat) (v : Value) (l : List UInt8) : Prop where
  blk : Blk w g 81 #[v]
  own : w.ownsRow 0 5 1 v l.length (bytesV l)
/-- The blocks of a writer. -/
def FootW (g : Nat) (v : Value) (k : Nat) : Prop := k = g ∨ v.ownBlock = some k
theorem IsW.ne {w : World} {g : Nat} {v : Value} {l : List UInt8} (h : IsW w g v l) : v.ownBlock ≠ some g := by
  rcases h.own.2 with ⟨rfl, _⟩ | ⟨k, cap, cur, rfl, _, hk, _⟩
  · simp [Value.ownBlock]
  · intro he
    have : k = g := by simpa [Value.ownBlock] using he
    subst this
    have hb := h.blk
    unfold Blk at hb
    rw [hk] at hb
    injection hb with hb
    injection hb with _ ht
    exact absurd ht (by decide)
theorem ownsRow_touch {w w' : World} {p : Nat → Prop} {base : Nat} {e : TypeId} {size n : Nat} {v : Value} {xs : List Value} (h : w.ownsRow base e size v n xs) (ht : Touch p w w') (hp : ∀ k, v.ownBlock = some k → ¬ p k) : w'.ownsRow base e size v n xs := by
  refine ⟨h.1, ?_⟩
  rcases h.2 with h2 | ⟨g, cap, cur, rfl, hb, hg, hr⟩
  · exact .inl h2
  · exact .inr ⟨g, cap, cur, rfl, hb, Blk.touch (w := w) hg ht (hp g rfl), hr⟩
theorem IsW.touch {w w' : World} {p : Nat → Prop} {g : Nat} {v : Value} {l : List UInt8} (h : IsW w g v l) (ht : Touch p w w') (hp : ∀ k, FootW g v k → ¬ p k) : IsW w' g v l :=
  ⟨h.blk.touch ht (hp g (.inl rfl)), ownsRow_touch h.own ht (fun k hk => hp k (.inr hk))⟩
theorem Touch.of_grown {w w' : World} {row : Option Nat} (h : w.grownBy w' row) : Touch (fun k => row = some k) w w' := ⟨h.os, h.tape, h.output, h.size, fun k hk hp => h.block k hk (fun e => hp e.symm)⟩
theorem FootW.moved {w : World} {g : Nat} {v v' : Value} (h : Moved w v v') {k : Nat} (hk : k < w.heap.size) (hf : FootW g v' k) : FootW g v k := by
  rcases hf with hf | hf
  · exact .inl hf
  · rcases h with h | ⟨j, hj, h⟩
    · exact .inr (h.symm.trans hf)
    · rw [h] at hf; injection hf with hf; omega

theorem IsW.store {w : World} {g : Nat} {v0 v : Value} {l : List UInt8} (hb : Blk w g 81 #[v0]) (ho : w.ownsRow 0 5 1 v l.length (bytesV l)) : IsW (w.setCell ⟨g, 0, none⟩ v) g v l := by
  refine ⟨Blk.set_ hb 0 v, ownsRow_touch (p := (· = g)) ho (Touch.set_ (p := (· = g)) (Touch.refl _ _) (fun _ => rfl) _) ?_⟩
  rintro k hk rfl
  rcases ho.2 with ⟨rfl, _⟩ | ⟨j, cap, cur, rfl, _, hj, _⟩
  · simp [Value.ownBlock] at hk
  · have : j = k := by simpa [Value.ownBlock] using hk
    subst this
    unfold Blk at hb
    rw [hj] at hb
    injection hb with hb
    injection hb with _ ht
    exact absurd ht (by decide)
theorem own_text {P : Program} {w : World} {src dst e : TypeId} {base : Nat} {v : Value} {l : List UInt8} (hs : P.underlying src = some (.slice e)) (he : P.underlying e = some (.int .u8)) (hd : P.underlying dst = some .string)
    (h : w.ownsRow base e 1 v l.length (bytesV l)) : (convert src dst v).run P w = .ok (.string ⟨l.toArray⟩) w := by
  rcases h.2 with ⟨rfl, hn⟩ | ⟨g, cap, cur, rfl, _, hg, _, _, _, ht⟩
  · have : l = [] := List.eq_nil_of_length_eq_zero hn
    subst this
    exact Lib.run_convert_nil_bytes w src dst e 0 hs he hd
  · refine run_convert_bytes_back w src dst e ⟨g, 0, none⟩ cap l hs he hd fun j hj => ?_
    rw [Nat.mul_one] at ht
    have e : cur[j]? = some (.int .u8 (l[j].toNat : Int)) := by
      have h1 : (cur.toList.take l.length)[j]? = (bytesV l)[j]? := by rw [ht]
      rw [List.getElem?_take, if_pos hj] at h1
      rw [← Array.getElem?_toList, h1]
      simp [bytesV, hj]
    show w.cell? (if j = 0 then _ else _) = _
    split
    · subst_vars
      exact (Blk.cell (w := w) hg 0).trans e
    · simpa using (Blk.cell (w := w) hg j).trans e


set_option maxHeartbeats 400000 in
theorem wtext_any (g : Nat) (v : Value) (l : List UInt8) (w : World) (h : IsW w g v l) :
    Calls Try.prog 42 #[.pointer (some ⟨g, 0, none⟩)] w fun e w' => e = .returned (.string ⟨l.toArray⟩) ∧ w = w' := by
  have c0 : w.cell? ⟨g, 0, none⟩ = some v := h.blk.cell 0
  have hcv := own_text Try.underlying79 Try.underlying5 Try.underlying9 h.own
  clear h
  go_enter Try.func42, Try.ntmps42
  go_wp2
  go_ret
  exact ⟨rfl, rfl⟩
end
section
/- octet's Writer.Put: a number's lowest bytes, the highest first. No condition but that the writer stands in its place, and that there is room. -/
open Go.RowKit

/-- The j-th byte of a number, from below. -/
def byteAt (n : Int) (j : Nat) : UInt8 := UInt8.ofNat (n / (256 ^ j : Nat) % 256).toNat
/-- The lowest k bytes of a number, the highest first. -/
def be (n : Int) : Nat → List UInt8
  | 0 => []
  | k + 1 => byteAt n k :: be n k
theorem be_length (n : Int) (k : Nat) : (be n k).length = k := by induction k with | zero => rfl | succ k ih => simp [be, ih]
theorem be_take (n : Int) (K k : Nat) (h : k < K) : (be n K).take (k + 1) = (be n K).take k ++ [byteAt n (K - 1 - k)] := by
  induction K generalizing k with
  | zero => omega
  | succ K ih =>
    cases k with
    | zero => simp [be]
    | succ k =>
      have := ih k (by omega)
      simp only [be, List.take_succ_cons, List.cons_append] at this ⊢
      rw [this]
      have e : K + 1 - 1 - (k + 1) = K - 1 - k := by omega
      rw [e]

theorem step_foot {w wr w2 : World} {g : Nat} {v v1 : Value} (ht : Touch (FootW g v) w wr) (hm : Moved w v v1) (hT : Touch (fun k => v1.ownBlock = some k) wr w2) : Touch (FootW g v) w w2 :=
  ⟨hT.os.trans ht.os, hT.tape.trans ht.tape, hT.output.trans ht.output, Nat.le_trans ht.size hT.size, fun k hk hp => (hT.block k (Nat.lt_of_lt_of_le hk ht.size) (fun e => hp (FootW.moved hm hk (.inr e)))).trans (ht.block k hk hp)⟩
theorem byte_shr (n : Int) (J : Nat) (hJ : J < 8) : IntKind.u8.wrap (n / 2 ^ min (8 * (J : Int)).toNat 64) = ((byteAt n J).toNat : Int) := by
  have h1 : min (8 * (J : Int)).toNat 64 = 8 * J := by omega
  have h2 : (2 : Int) ^ (8 * J) = ((256 ^ J : Nat) : Int) := by
    rw [show (256 : Nat) ^ J = 2 ^ (8 * J) from by rw [Nat.pow_mul]]
    exact (Int.natCast_pow 2 (8 * J)).symm
  rw [h1, h2, IntKind.wrap_u8']
  unfold byteAt
  have h3 : 0 ≤ n / ((256 ^ J : Nat) : Int) % 256 ∧ n / ((256 ^ J : Nat) : Int) % 256 < 256 := by omega
  generalize n / ((256 ^ J : Nat) : Int) % 256 = m at *
  simp
  omega

set_option maxHeartbeats 1000000 in
theorem put_any (g : Nat) (v : Value) (l : List UInt8) (size n : Int) (w : World) (h : IsW w g v l) (hl : l.length ≤ 1000000000) :
    Calls Try.prog 38 #[.pointer (some ⟨g, 0, none⟩), .int .i64 size, .int .i64 n] w fun e w' => e = .returned (.tuple #[]) ∧ ∃ v', IsW w' g v' (l ++ be n (near size 8).toNat) ∧ Touch (FootW g v) w w' ∧ Moved w v v' := by
  obtain ⟨K, hK⟩ : ∃ K : Nat, near size 8 = K := ⟨(near size 8).toNat, by have := near_is size 8; omega⟩
  have hK8 : K ≤ 8 := by have := near_is size 8; omega
  have hK1 : 1 ≤ K := by have := near_is size 8; omega
  have hk2 : (near size 8).toNat = K := by omega
  rw [hk2]
  have HK := Lib.hid hK
  clear hk2 hK
  obtain ⟨i0, hi0, hz0, hz1, hz2⟩ := info_parts u8_info
  go_enter Try.func38, Try.ntmps38
  go_wp2_with (go_at_call 68; refine (near_any _ _ _).mono ?_; rw [HK.out]; rintro e w' ⟨rfl, rfl⟩)
  go_loopw [6, 12] (fun _ i wr => ∃ (k : Nat) (v1 : Value), k ≤ K ∧ i = .int .i64 k ∧ IsW wr g v1 (l ++ (be n K).take k) ∧ Touch (FootW g v) w wr ∧ Moved w v v1) (fun _ i _ => K - (intOf i).toNat)
  case atStart => exact ⟨0, v, Nat.zero_le _, rfl, by simpa using h, Touch.refl _ _, Moved.refl _ _⟩
  case round =>
    obtain ⟨k, v1, hk, rfl, hw, ht, hm⟩ := hrel
    by_cases hlt : k < K
    · have c0 : wr.cell? ⟨g, 0, none⟩ = some v1 := hw.blk.cell 0
      have f0 := hw.blk.frozen 0
      obtain ⟨J, hJ⟩ : ∃ J : Nat, (K : Int) - 1 - k = J := ⟨K - 1 - k, by omega⟩
      have e1 : IntKind.i64.wrap ((K : Int) - 1) = (K : Int) - 1 := by exact IntWalk.i64_in _ (by omega)
      have e2 : IntKind.i64.wrap ((K : Int) - 1 - k) = J := by rw [IntWalk.i64_in _ (by omega), hJ]
      have e3 : IntKind.i64.wrap (8 * (J : Int)) = 8 * (J : Int) := by exact IntWalk.i64_in _ (by omega)
      have e4 : (0 : Int) ≤ 8 * (J : Int) := by omega
      have HB := Lib.hid (byte_shr n J (by omega))
      have hL1 : l ++ (be n K).take (k + 1) = l ++ (be n K).take k ++ [byteAt n J] := by
        rw [be_take n K k hlt, List.append_assoc]
        have : K - 1 - k = J := by omega
        rw [this]
      have hlen : (l ++ (be n K).take k).length ≤ 1000000008 := by simp [be_length]; omega
      obtain ⟨L, hL⟩ : ∃ L, l ++ (be n K).take k = L := ⟨_, rfl⟩
      rw [hL] at hw hlen hL1
      have HL := Lib.hid hL1
      have HJ := Lib.hid hJ
      clear hJ hL1 hL
      have hown : ∀ o : Obj, ((wr.alloc o).drew).ownsRow 0 5 1 v1 L.length (bytesV L) := fun o => ownsRow_touch (p := fun _ => False) hw.own (((Touch.refl _ wr).alloc o).drew) (fun _ _ h => h)
      have hblk : ∀ o : Obj, Blk ((wr.alloc o).drew) g 81 #[v1] := fun o => hw.blk.alloc o
      have ca : ∀ o : Obj, (wr.alloc o).cell? ⟨g, 0, none⟩ = some v1 := fun o => (hw.blk.alloc o).cell 0
      have hne := hw.ne
      clear hw
      go_wp2_with fail
      go_region_law ((refine step_append_lies _ rfl (.tmp 19) (.tmp 28) 79 rfl 0 5 i0 (.int .u8 0) 1 1 Try.underlying79 hi0 hz0 hz1 hz2 rfl (by decide) v1 _ (bytesV L) (by simp [Act.eval]) (hown _) ⟨wr.heap.size, 0, none⟩ 1 1 [.int .u8 (IntKind.u8.wrap (n / 2 ^ min (8 * (J : Int)).toNat 64))] (by simp [Act.eval]) rfl (cell_one_new _ _ _) (by intro u hu; rw [List.mem_singleton] at hu; subst hu; rfl) (by decide) (by simp only [maxLen]; omega) (by omega) (Nat.zero_le _) _ rfl ?_
                      intro g2 cap2 w2 h1 h2 h3 h4
                      have hb2 := (hblk _).touch (Touch.of_grown h2) hne
                      have c2 : w2.cell? ⟨g, 0, none⟩ = some v1 := hb2.cell 0
                      have f2 := hb2.frozen 0))
      all_goals
        go_wp2
        have hT : Touch (fun k => v1.ownBlock = some k) wr w2 := (((Touch.refl _ wr).alloc _).drew).trans (Touch.of_grown h2)
        rw [HB.out] at h1
        have hfin : IsW (w2.setCell ⟨g, 0, none⟩ (.slice (some ⟨g2, 0, none⟩) (L.length + 1) cap2)) g (.slice (some ⟨g2, 0, none⟩) (L.length + 1) cap2) (l ++ (be n K).take (k + 1)) := by
          rw [HL.out]
          refine IsW.store hb2 ?_
          rw [bytesV_append, List.length_append]
          exact h1
        have hmv : Moved wr v1 (.slice (some ⟨g2, 0, none⟩) (L.length + 1) cap2) := by
          rcases h3 with h3 | h3
          · exact .inl h3.symm
          · exact .inr ⟨g2, by rw [h3]; show wr.heap.size ≤ (wr.heap.push _).size; simp, rfl⟩
        have htt : Touch (FootW g v) w (w2.setCell ⟨g, 0, none⟩ (.slice (some ⟨g2, 0, none⟩) (L.length + 1) cap2)) :=
          Touch.set_ (step_foot ht hm hT) (fun _ => .inl rfl) _
        have hmm := hm.trans hmv ht.size
        clear h1 h2 h3 hown hblk ca hb2 c2 f2 hT
        go_roundw
        case rel => exact ⟨k + 1, _, by omega, by go_num, hfin, htt, hmm⟩
        case measure => simp [intOf]; omega
    · have hkK : k = K := by omega
      have hf : (be n K).take k = be n K := List.take_of_length_le (by rw [be_length]; omega)
      rw [hf] at hw
      clear hkK hf
      go_wp2
      go_end0
      exact ⟨rfl, v1, hw, ht, hm⟩
end
section
/- Numbers as bytes and back, a reader over a text whose parts are known, a new writer, where a writer's row lies. Plain lemmas, no condition, no program's call. -/
open Go.RowKit

theorem IsW.new (w : World) : IsW (w.alloc (.cells #[.slice none 0 0] 81)) w.heap.size (.slice none 0 0) [] :=
  ⟨Blk.new _ _ _, by simp [bytesV], .inl ⟨rfl, rfl⟩⟩

def OwnFrom (B : Nat) (v : Value) : Prop := ∀ j, v.ownBlock = some j → B ≤ j
theorem OwnFrom.moved {B : Nat} {w : World} {v v' : Value} (h : OwnFrom B v) (hm : Moved w v v') (hB : B ≤ w.heap.size) : OwnFrom B v' := by
  intro j hj
  rcases hm with hm | ⟨k, hk, hm⟩
  · exact h j (hm.symm.trans hj)
  · rw [hm] at hj; injection hj with hj; omega
theorem OwnFrom.below {B g : Nat} {w w' : World} {v : Value} (h : OwnFrom B v) (hg : B ≤ g) (hB : B ≤ w.heap.size) (ht : Touch (FootW g v) w w') : Below B w w' :=
  ht.below hB (by rintro k (rfl | hk); exact hg; exact h k hk)
theorem OwnFrom.none (B c n : Nat) : OwnFrom B (.slice none n c) := by intro j hj; simp [Value.ownBlock] at hj
theorem emod_mul_split (n M : Int) (hM : 0 < M) : n % (M * 256) = M * (n / M % 256) + n % M := by
  have h1 : n = (M * (n / M % 256) + n % M) + (M * 256) * (n / M / 256) := by
    have a := Int.mul_ediv_add_emod n M
    have b := Int.mul_ediv_add_emod (n / M) 256
    have c : M * (n / M) = M * (256 * (n / M / 256) + n / M % 256) := by rw [b]
    rw [Int.mul_add, ← Int.mul_assoc] at c
    omega
  have h2 : 0 ≤ n % M := Int.emod_nonneg _ (by omega)
  have h3 : n % M < M := Int.emod_lt_of_pos _ hM
  have h4 : 0 ≤ n / M % 256 ∧ n / M % 256 ≤ 255 := by omega
  have h5 : M * (n / M % 256) ≤ M * 255 := Int.mul_le_mul_of_nonneg_left h4.2 (by omega)
  have h6 : 0 ≤ M * (n / M % 256) := Int.mul_nonneg (by omega) h4.1
  have h7 : n % (M * 256) = ((M * (n / M % 256) + n % M) + (M * 256) * (n / M / 256)) % (M * 256) := by rw [← h1]
  rw [h7, Int.add_mul_emod_self_left]
  exact Int.emod_eq_of_lt (by omega) (by omega)
theorem num_cons (c : UInt8) (l : List UInt8) : num (c :: l) = c.toNat * 256 ^ l.length + num l := by
  have h : ∀ (l : List UInt8) (a : Nat), l.foldl (fun a c => a * 256 + c.toNat) a = a * 256 ^ l.length + l.foldl (fun a c => a * 256 + c.toNat) 0 := by
    intro l
    induction l with
    | nil => intro a; simp
    | cons c l ih =>
      intro a
      simp only [List.foldl_cons, List.length_cons]
      rw [ih, ih (0 * 256 + c.toNat), Nat.pow_succ, Nat.zero_mul, Nat.zero_add, Nat.add_mul, Nat.mul_assoc, Nat.mul_comm 256, Nat.add_assoc]
  have := h l c.toNat
  simpa [num] using this
theorem byteAt_toNat (n : Int) (j : Nat) : ((byteAt n j).toNat : Int) = n / (256 ^ j : Nat) % 256 := by
  unfold byteAt
  have h3 : 0 ≤ n / ((256 ^ j : Nat) : Int) % 256 ∧ n / ((256 ^ j : Nat) : Int) % 256 < 256 := by omega
  generalize n / ((256 ^ j : Nat) : Int) % 256 = m at *
  simp
  omega
theorem num_be (n : Int) (k : Nat) : (num (be n k) : Int) = n % (256 ^ k : Nat) := by
  induction k with
  | zero => simp [num, be]
  | succ k ih =>
    rw [be, num_cons, be_length, Int.natCast_add, Int.natCast_mul, byteAt_toNat, ih]
    have := emod_mul_split n ((256 ^ k : Nat) : Int) (by have : 0 < 256 ^ k := Nat.pow_pos (by omega); omega)
    rw [Nat.pow_succ, Int.natCast_mul]
    rw [Int.mul_comm (n / _ % 256)]
    exact this.symm
theorem ext_list (T : ByteArray) (a k : Nat) : (T.extract a (a + k)).data.toList = (T.data.toList.drop a).take k := by
  rw [ByteArray.data_extract]
  simp [Array.toList_extract]
theorem end_of (T : ByteArray) (p : List UInt8) (s : ByteArray) (hs : T.size = p.length + s.size) (hT : (⟨(p ++ s.data.toList).toArray⟩ : ByteArray) = T) :
    (RdS.mk T p.length false).text s.size = s ∧ (RdS.mk T p.length false).take s.size = ⟨T, T.size, false⟩ := by
  have hc : (RdS.mk T p.length false).can s.size = true := by
    simp only [RdS.can, Bool.not_false, Bool.true_and, Bool.and_eq_true, decide_eq_true_eq]
    omega
  refine ⟨?_, by rw [RdS.take, if_pos hc, Int.toNat_natCast]; simp only [hs]⟩
  unfold RdS.text
  rw [if_pos hc, Int.toNat_natCast]
  have : (T.extract p.length (p.length + s.size)).data.toList = s.data.toList := by
    rw [ext_list, ← hT]
    show ((p ++ s.data.toList).drop _).take _ = _
    rw [List.drop_left]
    exact List.take_of_length_le (by rw [Array.length_toList]; exact Nat.le_refl _)
  have h2 : (T.extract p.length (p.length + s.size)).data = s.data := Array.ext' this
  exact congrArg ByteArray.mk h2
theorem near_self (z : Int) (h1 : 1 ≤ z) (h7 : z ≤ 7) : near z 7 = z := by rw [near_is]; omega
theorem text_of (T : ByteArray) (p q : List UInt8) (z : Int) (h0 : 1 ≤ z) (hq : q.length = z.toNat) (hT : (T.data.toList.drop p.length).take z.toNat = q) :
    ((RdS.mk T p.length false).text z).data.toList = q ∧ (RdS.mk T p.length false).take z = ⟨T, p.length + z.toNat, false⟩ := by
  have hl : p.length + z.toNat ≤ T.size := by
    have := congrArg List.length hT
    simp only [List.length_take, List.length_drop, Array.length_toList, hq] at this
    have hs : T.data.size = T.size := rfl
    omega
  have hc : (RdS.mk T p.length false).can z = true := by
    simp only [RdS.can, Bool.not_false, Bool.true_and, Bool.and_eq_true, decide_eq_true_eq]
    omega
  refine ⟨?_, by rw [RdS.take, if_pos hc]⟩
  unfold RdS.text
  rw [if_pos hc, ext_list, hT]
end
section
/- octet's Writer.Raw: the bytes of a text behind what stands there. No condition but that the writer stands in its place, and that there is room. (A text of its own: a seat may name the method without its body.) -/
open Go.RowKit

set_option maxHeartbeats 400000 in
theorem wraw_any (g : Nat) (v : Value) (l : List UInt8) (s : ByteArray) (w : World) (h : IsW w g v l) (hl : l.length + s.size ≤ 140737488355328) :
    Calls Try.prog 91 #[.pointer (some ⟨g, 0, none⟩), .string s] w fun e w' => e = .returned (.tuple #[]) ∧ ∃ v', IsW w' g v' (l ++ s.data.toList) ∧ Touch (FootW g v) w w' ∧ Moved w v v' := by
  have c0 : w.cell? ⟨g, 0, none⟩ = some v := h.blk.cell 0
  have f0 := h.blk.frozen 0
  obtain ⟨i0, hi0, hz0, hz1, hz2⟩ := info_parts u8_info
  go_enter Try.func91, Try.ntmps91
  go_wp2_with (at_builtin; refine wpList_append_string_at _ rfl _ _ 79 9 rfl 0 5 i0 Try.underlying79 Try.underlying9 hi0 hz0 hz1 hz2 v l.length (bytesV l) rfl h.own s rfl ?h1 hl (Nat.zero_le _) ?h2)
  case h1 => simp only [maxLen]; omega
  case h2 =>
    intro v' w1 hown hgrow hmoved
    obtain ⟨a1, c1, rfl⟩ := own_slice hown
    have ht := Touch.of_grown hgrow
    have hb1 := h.blk.touch ht h.ne
    have k0 : w1.cell? ⟨g, 0, none⟩ = some v := hb1.cell 0
    have k1 := hb1.frozen 0
    have hfin : IsW (w1.setCell ⟨g, 0, none⟩ (.slice a1 (l.length + s.size) c1)) g (.slice a1 (l.length + s.size) c1) (l ++ s.data.toList) := IsW.store hb1 (by simpa [bytesV_append, bytesV_str] using hown)
    have htt : Touch (FootW g v) w (w1.setCell ⟨g, 0, none⟩ (.slice a1 (l.length + s.size) c1)) := Touch.set_ (ht.mono fun k _ hk => .inr hk) (fun _ => .inl rfl) _
    clear hown hgrow ht hb1 h c0 f0
    go_wp2
    go_end0
    exact ⟨rfl, _, hfin, htt, hmoved⟩
end
end Go.Proofs.Ythghedlgeceepaa
