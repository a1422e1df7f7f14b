/- OctetPuts: what is put is what the document says, of all sizes, numbers and texts. No condition. -/
import Derived.Test.YtpijnbcibmjnpaaNumb
namespace Go.Proofs.Ytpijnbcibmjnpaa
open Go.ChangeShapes Go.WideShapes Go.ChangeAt Go.RowKit
open Go.ChangeMaps (open_string shut_string)

theorem strOf_append (l m : List UInt8) : strOf (l ++ m) = strOf l ++ strOf m := by
  have h : (strOf l ++ strOf m).data = (strOf (l ++ m)).data := by
    rw [ByteArray.data_append]
    simp [strOf]
  exact (congrArg ByteArray.mk h).symm
theorem strOf_text (s : ByteArray) : strOf s.data.toList = s := by
  show (⟨s.data.toList.toArray⟩ : ByteArray) = s
  simp

theorem own_lt {w : World} {base : Nat} {e : TypeId} {size n : Nat} {v : Value} {xs : List Value} (h : w.ownsRow base e size v n xs) {j : Nat} (hj : v.ownBlock = some j) : j < w.heap.size := by
  rcases h.2 with ⟨rfl, _⟩ | ⟨g, cap, cur, rfl, _, hg, _⟩
  · simp [Value.ownBlock] at hj
  · have : g = j := by simpa [Value.ownBlock] using hj
    subst this
    exact Blk.lt (w := w) hg

set_option maxHeartbeats 2000000 in
theorem walkOctetPuts (a0 : Option Addr) (len0 cap0 : Nat) (z0 : List Int) (a1 : Option Addr) (len1 cap1 : Nat) (z1 : List Int) (s2 : ByteArray) (w : World) (h0 : IsRow .i64 w a0 len0 cap0 z0) (h1 : IsRow .i64 w a1 len1 cap1 z1) (_h2 : s2.size ≤ maxLen) :
    Calls Try.prog 3 #[.slice a0 len0 cap0, .slice a1 len1 cap1, .string s2] w fun e w' => e = .returned (.bool true) ∧ Below w.heap.size w w' := by
  by_cases hg : len0 ≤ 100 ∧ len0 ≤ len1 ∧ s2.size ≤ 4096
  · obtain ⟨g1, g2, g3⟩ := hg
    have d1 : decide ((100 : Int) < (len0 : Int)) = false := by simp; omega
    have d2 : decide (len1 < len0) = false := by simp; omega
    have d3 : decide ((4096 : Int) < (s2.size : Int)) = false := by simp; omega
    go_enter Try.func3, Try.ntmps3
    go_wp2_with fail
    refine (alive_any _).mono ?_
    rintro e w1 ⟨rfl, b1⟩
    go_wp2_with fail
    have hB : w.heap.size ≤ w1.heap.size := b1.size
    go_loopw [8, 32] (fun s i wr => ∃ (k : Nat) (v1 : Value), k ≤ len0 ∧ i = .int .i64 k ∧ s = .string (strOf (puts z0 z1 k)) ∧ IsW wr w1.heap.size v1 (puts z0 z1 k) ∧ OwnFrom w.heap.size v1 ∧ Below w.heap.size w wr) (fun _ i _ => len0 - (intOf i).toNat)
    case atStart => exact ⟨0, _, Nat.zero_le _, rfl, rfl, IsW.new _, OwnFrom.none _ _ _, b1.alloc hB _⟩
    case round =>
      obtain ⟨k, v1, hk, rfl, rfl, hw, ho, hb⟩ := hrel
      by_cases hlt : k < len0
      · obtain ⟨b, off, rfl, hbl, hc⟩ := h0.at_ hlt
        obtain ⟨b', off', rfl, hbl', hc'⟩ := h1.at_ (show k < len1 by omega)
        have c0 : wr.cell? ⟨b, off + k, none⟩ = some (.int .i64 (z0.getD k 0)) := (hb.cell (p := ⟨b, off + k, none⟩) hbl).trans hc
        have c1 : wr.cell? ⟨b', off' + k, none⟩ = some (.int .i64 (z1.getD k 0)) := (hb.cell (p := ⟨b', off' + k, none⟩) hbl').trans hc'
        have hpl := puts_le z0 z1 k
        have hsucc : puts z0 z1 (k + 1) = puts z0 z1 k ++ be (z1.getD k 0) (near (z0.getD k 0) 8).toNat := rfl
        generalize hzk : z0.getD k 0 = zk at *
        generalize hnk : z1.getD k 0 = nk at *
        have hsz : (strOf (puts z0 z1 k)).size + (strOf (be nk (near zk 8).toNat)).size ≤ 9000 := by
          rw [strOf_size, strOf_size, be_length]
          have := near_is zk 8
          omega
        have HS := Lib.hid hsucc
        clear hzk hnk hsucc hc hc'
        go_wp2_with fail
        refine (put_any _ v1 _ _ _ _ hw (by omega)).mono ?_
        rintro e w2 ⟨rfl, v2, hw2, t2, m2⟩
        rw [← HS.out] at hw2
        have ho2 := ho.moved m2 hb.size
        have hb2' := ho.below hB hb.size t2
        have hb2 := hb.trans hb2'
        have c2 : w2.cell? ⟨b', off' + k, none⟩ = some (.int .i64 nk) := (hb2'.cell (p := ⟨b', off' + k, none⟩) hbl').trans c1
        clear hw ho t2 m2 hb c0 c1 hb2'
        go_wp2_with fail
        refine (number_any _ _ _).mono ?_
        rintro e w3 ⟨rfl, b3⟩
        have hw3 : IsW w3 w1.heap.size v2 (puts z0 z1 (k + 1)) := hw2.touch (Below.touch b3) (by
          rintro j hj hle
          change w2.heap.size ≤ j at hle
          rcases hj with rfl | hj
          · have := hw2.blk.lt; omega
          · have := own_lt hw2.own hj; omega)
        have hb3 := hb2.trans (b3.mono hb2.size)
        clear hw2 hb2 b3 c2
        go_wp2_with fail
        go_roundw
        case rel => exact ⟨k + 1, v2, by omega, by go_num, by rw [HS.out, strOf_append], hw3, ho2, hb3⟩
        case measure => simp [intOf]; omega
      · obtain rfl : k = len0 := by omega
        have hpl := puts_le z0 z1 k
        clear hlt hk
        go_wp2_with fail
        refine (wraw_any _ v1 _ _ _ hw (by omega)).mono ?_
        rintro e w2 ⟨rfl, v2, hw2, t2, m2⟩
        have hb2 := hb.trans (ho.below hB hb.size t2)
        clear hw ho t2 m2 hb
        go_wp2_with fail
        refine (wtext_any _ v2 _ _ hw2).mono ?_
        rintro e w3 ⟨rfl, rfl⟩
        clear hw2
        have hT : (⟨(puts z0 z1 k ++ s2.data.toList).toArray⟩ : ByteArray) = strOf (puts z0 z1 k) ++ s2 := by
          show strOf _ = _
          rw [strOf_append, strOf_text]
        rw [hT]
        have hsz : (strOf (puts z0 z1 k)).size + s2.size ≤ 9000 := by rw [strOf_size]; omega
        clear hT
        go_wp2_with fail
        go_ret
        exact ⟨rfl, hb2⟩
  · by_cases g1 : len0 ≤ 100
    · have d1 : decide ((100 : Int) < (len0 : Int)) = false := by simp; omega
      by_cases g2 : len0 ≤ len1
      · have d2 : decide (len1 < len0) = false := by simp; omega
        have d3 : decide ((4096 : Int) < (s2.size : Int)) = true := by simp; omega
        go_enter Try.func3, Try.ntmps3
        go_wp2_with fail
        refine (alive_any _).mono ?_
        rintro e w1 ⟨rfl, b1⟩
        go_wp2_with fail
        go_ret
        exact ⟨rfl, b1⟩
      · have d2 : decide (len1 < len0) = true := by simp; omega
        go_enter Try.func3, Try.ntmps3
        go_wp2_with fail
        refine (alive_any _).mono ?_
        rintro e w1 ⟨rfl, b1⟩
        go_wp2_with fail
        go_ret
        exact ⟨rfl, b1⟩
    · have d1 : decide ((100 : Int) < (len0 : Int)) = true := by simp; omega
      go_enter Try.func3, Try.ntmps3
      go_wp2_with fail
      refine (alive_any _).mono ?_
      rintro e w1 ⟨rfl, b1⟩
      go_wp2_with fail
      go_ret
      exact ⟨rfl, b1⟩

set_option maxRecDepth 100000 in
theorem liftedOctetPuts (os : Os) (started : os.Started) (H : Type) (enc : TypeId × Value → H) :
    ReturnsInHanded {} Try.checked os 3 .any (Rows.octetPutsSpec.pre6 enc Try.prog Try.f3 Rows.octetPutsRow.domain false) (Rows.octetPutsSpec.post enc Try.prog Try.f3 false true false false) := by
  refine returnsInHanded_of_change (C := Try.checked) own started (by kernel_rfl) Try.func3
    (ChangeSpec.witness6 (enc := enc) (C := Try.checked) false ⟨#[], #[.slice none 0 0, .slice none 0 0, .string ⟨#[]⟩], []⟩ 8 (by kernel_rfl) (by kernel_rfl) (by kernel_rfl) (by kernel_rfl)) ?_
  intro W base args ds gs before hval0 hW hcnd _
  have hval : ∀ (j : Nat) t v, Try.f3.params[j]? = some t → args[j]? = some v → Value.okWide Try.prog W .any base t v := hval0
  have hW' := hW
  obtain ⟨p, q, hA0, hV, rfl, hfz, hnd⟩ := hW
  have hA : DataW.TrodAll enc Try.prog W 0 (fun _ => true) true Try.f3.params.toList args.toList ds p := hA0
  rw [Try.params3] at hA hval
  obtain ⟨v0, vs0, d0, ds0, p0, q0, hargs, rfl, rfl, h0, r0⟩ := trodAll_cons hA
  obtain ⟨v1, vs1, d1, ds1, p1, q1, rfl, rfl, rfl, h1, r1⟩ := trodAll_cons r0
  obtain ⟨v2, vs2, d2, ds2, p2, q2, rfl, rfl, rfl, h2, r2⟩ := trodAll_cons r1
  obtain ⟨rfl, rfl, rfl⟩ := trodAll_nil r2
  obtain rfl : args = #[v0, v1, v2] := by cases args; simp_all
  obtain ⟨rfl, rfl⟩ := trodVars_none hV
  obtain ⟨a0, len0, cap0, rfl⟩ := okWide_slice Try.underlying22 (hval 0 22 v0 rfl rfl)
  have k0 := h0
  have lt0 : ∀ x ∈ p0, x.block < W.heap.size := by obtain ⟨m, hm⟩ := k0; exact DataW.trod_lt m _ _ _ hm
  obtain ⟨z0, w0⟩ : ∃ zs, IsRow .i64 W a0 len0 cap0 zs := by
    obtain ⟨fuel, hf⟩ := h0
    rcases open_ints Try.underlying22 Try.underlying3 (by kernel_rfl) hf with ⟨hcs, _⟩ | ⟨x, l, c, zs, hcs, _, hl, hm, hz, _, hcell, hwz⟩
    · simp [Value.cells] at hcs
      obtain ⟨rfl, rfl, rfl⟩ := hcs
      exact ⟨[], .inl ⟨rfl, rfl, rfl, rfl⟩⟩
    · simp [Value.cells] at hcs
      obtain ⟨rfl, rfl, rfl⟩ := hcs
      exact ⟨zs, .inr ⟨_, rfl, hl, hm, by simpa using hz, cell_lt hcell (by simpa using hz), hcell, hwz⟩⟩
  obtain ⟨a1, len1, cap1, rfl⟩ := okWide_slice Try.underlying22 (hval 1 22 v1 rfl rfl)
  have k1 := h1
  have lt1 : ∀ x ∈ p1, x.block < W.heap.size := by obtain ⟨m, hm⟩ := k1; exact DataW.trod_lt m _ _ _ hm
  obtain ⟨z1, w1⟩ : ∃ zs, IsRow .i64 W a1 len1 cap1 zs := by
    obtain ⟨fuel, hf⟩ := h1
    rcases open_ints Try.underlying22 Try.underlying3 (by kernel_rfl) hf with ⟨hcs, _⟩ | ⟨x, l, c, zs, hcs, _, hl, hm, hz, _, hcell, hwz⟩
    · simp [Value.cells] at hcs
      obtain ⟨rfl, rfl, rfl⟩ := hcs
      exact ⟨[], .inl ⟨rfl, rfl, rfl, rfl⟩⟩
    · simp [Value.cells] at hcs
      obtain ⟨rfl, rfl, rfl⟩ := hcs
      exact ⟨zs, .inr ⟨_, rfl, hl, hm, by simpa using hz, cell_lt hcell (by simpa using hz), hcell, hwz⟩⟩
  obtain ⟨s2, rfl, rfl, rfl, w2⟩ := open_string Try.underlying9 (hval 2 9 v2 rfl rfl) h2
  clear hA0 hval0
  refine (walkOctetPuts a0 len0 cap0 z0 a1 len1 cap1 z1 s2 W w0 w1 w2).mono fun e W' ⟨he, bel⟩ => ?_
  subst he
  exact ⟨_, rfl, _, _, _, [], _, [], hW', trodAll_mk1 (shut_bool Try.underlying4 _), (trodAll_cons_mk (Below.trod laidOut (by kernel_rfl) (of_decide_eq_true (by kernel_rfl)) k0 bel lt0) (trodAll_cons_mk (Below.trod laidOut (by kernel_rfl) (of_decide_eq_true (by kernel_rfl)) k1 bel lt1) (trodAll_cons_mk (shut_string Try.underlying9 w2) trodAll_mk0))), rfl, bel.frame _, fun h => by cases h⟩

theorem overOctetPuts : Rows.octetPutsRow.holds Try.pinned (OpenSpec.ofChange Rows.octetPutsSpec) :=
  OpenClaim.holds_of_wide 3 Try.f3 rfl rfl rfl rfl rfl rfl rfl ⟨rfl, rfl, rfl, rfl, rfl⟩ rfl rfl rfl rfl rfl (by kernel_rfl) Try.func3 (by kernel_rfl)
    (of_decide_eq_true (by kernel_rfl)) (by unfold Func.isWrapper; first | (rw [if_pos (by decide +kernel)]; kernel_rfl) | (rw [if_neg (by decide +kernel)]; exact ⟨rfl, rfl⟩))
    (fun os started H enc _ => liftedOctetPuts os started H enc)

/-- The statement. -/
theorem octetPuts_holds : Rows.OctetPutsSaid := overOctetPuts
end Go.Proofs.Ytpijnbcibmjnpaa
