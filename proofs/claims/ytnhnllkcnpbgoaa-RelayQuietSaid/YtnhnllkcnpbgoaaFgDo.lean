/- Drop, and room for one more (layer 18). Its condition: at most 2^20 places, in order. -/
import Derived.Test.YtnhnllkcnpbgoaaFgGood
namespace Go.Proofs.Ytnhnllkcnpbgoaa
open Go.RowKit
set_option maxRecDepth 100000

theorem touch_next {F : Nat → Prop} {w w1 w2 : World} (t1 : Touch F w w1) (t2 : Touch (grow F w w1) w1 w2) : Touch F w w2 :=
  ⟨t2.os.trans t1.os, t2.tape.trans t1.tape, t2.output.trans t1.output, Nat.le_trans t1.size t2.size, fun k hk hF => (t2.block k (Nat.lt_of_lt_of_le hk t1.size) (fun hg => hg.elim hF (fun q => by omega))).trans (t1.block k hk hF)⟩
theorem below_next {F : Nat → Prop} {w w1 w2 : World} (b : Below w.heap.size w w1) (t2 : Touch F w1 w2) : Touch F w w2 :=
  ⟨t2.os.trans b.os, t2.tape.trans b.tape, t2.output.trans b.output, Nat.le_trans b.size t2.size, fun k hk hF => (t2.block k (Nat.lt_of_lt_of_le hk b.size) hF).trans (b.block k hk)⟩
theorem grow_wide {F : Nat → Prop} {w w1 w2 : World} (h1 : w.heap.size ≤ w1.heap.size) (k : Nat) (h : grow F w1 w2 k) : grow F w w2 k := h.imp id (fun q => ⟨by omega, q.2⟩)
theorem grow_lo {F : Nat → Prop} {w w' : World} {B : Nat} (hB : B ≤ w.heap.size) (hF : ∀ k, F k → B ≤ k ∧ k < w.heap.size) (hs : w.heap.size ≤ w'.heap.size) (k : Nat) (h : grow F w w' k) : B ≤ k ∧ k < w'.heap.size := by
  rcases h with h | h
  · have := hF k h; omega
  · omega
/-- Room for one more. -/
def roomS (s : Dt) : Dt × Bool := if 24 ≤ s.l.length then (if oldTo s.l s.l.length < 0 then (s, false) else (⟨rmP s.l (oldTo s.l s.l.length).toNat, s.f⟩, true)) else (s, true)
set_option maxHeartbeats 2000000 in
theorem room_any {w : World} {B g : Nat} {F : Nat → Prop} {s : Dt} (hp : Pt w B F g s) (hs : Srt s.l) (hn : s.l.length ≤ 1048000) :
    Calls Try.prog 33 #[.pointer (some ⟨g, 0, none⟩)] w fun e w' => e = .returned (.bool (roomS s).2) ∧ Touch F w w' ∧ Pt w' B (grow F w w') g (roomS s).1 := by
  obtain ⟨A, c, h⟩ := hp
  have H := Lib.hid h
  have HFI := Lib.hid (first_any h hn)
  rw [frs_old hs _ (Nat.le_refl _)] at HFI
  have HN := Lib.hid hn
  have ho := old_in s.l s.l.length
  have c0 : w.cell? ⟨g, 0, none⟩ = some (.slice A s.l.length c) := h.blk.cell 0
  obtain ⟨r, hr⟩ : ∃ r, roomS s = r := ⟨_, rfl⟩
  rw [hr]
  have HR := Lib.hid hr
  obtain ⟨n, hnn⟩ : ∃ n, s.l.length = n := ⟨_, rfl⟩
  have HNN := Lib.hid hnn
  rw [hnn] at c0
  by_cases h24 : 24 ≤ n
  · have n1 : ¬ (n : Int) < 24 := by omega
    obtain ⟨o, hoo⟩ : ∃ o, oldTo s.l s.l.length = o := ⟨_, rfl⟩
    have HOO := Lib.hid hoo
    rw [hoo] at HFI ho
    by_cases hneg : o < 0
    · obtain rfl : o = -1 := by omega
      have HE := Lib.hid (show r = (s, false) by rw [← HR.out]; unfold roomS; rw [HNN.out, if_pos h24, ← HNN.out, HOO.out]; rfl)
      clear h hs hn ho hr hnn h24 hoo hneg
      go_enter Try.func33, Try.ntmps33
      go_wp2_with fail
      refine HFI.out.mono ?_
      rintro e w1 ⟨rfl, b1⟩
      have HB := Lib.hid b1
      have HP := Lib.hid (H.out.grown b1)
      clear b1
      go_wp2_with fail
      go_ret
      rw [HE.out]
      exact ⟨rfl, (Below.touch HB.out).mono (fun k hk hp => absurd hp (by omega)), _, _, HP.out⟩
    · obtain ⟨k, rfl⟩ : ∃ k : Nat, o = k := ⟨o.toNat, by omega⟩
      have hkl : k < s.l.length := by omega
      have HE := Lib.hid (show r = (⟨rmP s.l k, s.f⟩, true) by rw [← HR.out]; unfold roomS; rw [HNN.out, if_pos h24, ← HNN.out, HOO.out, if_neg hneg]; rfl)
      have HKL := Lib.hid hkl
      have k1 : ((k : Int) == -1) = false := by rw [beq_eq_false_iff_ne]; omega
      have hw : wrap64 ((k : Int) + 1) = (k : Int) + 1 := IntWalk.wrap64_in _ (by have := HN.out; omega)
      clear h hs hn ho hr h24 hoo hneg hkl
      go_enter Try.func33, Try.ntmps33
      go_wp2_with fail
      refine HFI.out.mono ?_
      rintro e w1 ⟨rfl, b1⟩
      have h1 := H.out.below b1
      obtain ⟨gA, cap, e, _, _⟩ := h1.row.form (show 0 < s.l.length by have := HKL.out; omega)
      injection e with e1 _ e3
      subst e1 e3
      have HD := Lib.hid (delete_one gA c k s.l B w1 h1.row HN.out HKL.out)
      have HST := Lib.hid (fun (w2 : World) (ho : OwnL 49 w2 B (some ⟨gA, 0, none⟩) c (rmP s.l k)) (ht : Touch (· = gA) w1 w2) => H.out.store b1 (touch_grown (ht.mono fun k _ e => by rw [e]; rfl)) ho (.inl rfl))
      have c1 : w1.cell? ⟨g, 0, none⟩ = some (.slice (some ⟨gA, 0, none⟩) s.l.length c) := h1.blk.cell 0
      rw [hnn] at c1 HD
      clear h1 b1 hnn
      go_wp2_with fail
      rw [hw]
      refine HD.out.mono ?_
      rintro e w2 ⟨rfl, ho, ht⟩
      obtain ⟨f0, d0, htt, hpt⟩ := HST.out w2 ho ht
      have HF2 := Lib.hid (And.intro htt (show Pt _ B _ g ⟨rmP s.l k, s.f⟩ from ⟨_, _, hpt⟩))
      clear ho ht htt hpt hw
      go_wp2_with fail
      go_ret
      rw [HE.out]
      exact ⟨rfl, HF2.out⟩
  · have n1 : (n : Int) < 24 := by omega
    have HE := Lib.hid (show r = (s, true) by rw [← HR.out]; unfold roomS; rw [HNN.out, if_neg h24])
    clear h hs hn ho hr h24 hnn
    go_enter Try.func33, Try.ntmps33
    go_wp2_with fail
    go_ret
    rw [HE.out]
    exact ⟨rfl, Touch.refl _ _, _, _, H.out.grown (Below.refl _ _)⟩
end Go.Proofs.Ytnhnllkcnpbgoaa
