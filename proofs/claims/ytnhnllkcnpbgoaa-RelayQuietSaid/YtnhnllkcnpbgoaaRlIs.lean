/- What the program's relay must answer (layer 19), for the statements' walks; what the statements ask first. No condition. -/
import Derived.Test.YtnhnllkcnpbgoaaRlLaw
import Derived.Deep.RegionHeld3
import Derived.Deep.RegionLaw
namespace Go.Proofs.Ytnhnllkcnpbgoaa
open Go.RowKit
set_option maxRecDepth 100000

/-- What leaves, of a table that knows an address at a port. -/
def rlP (l : List Px) (i : Int) (f : Fr) (known : Int) : List Se := relayP (l.map Px.p) i f known
def rlS (l : List Px) (i : Int) (f : Fr) (s : Dt) : List Se := rlP l i f (findS s.l (classP (l.getD i.toNat px0).pv f) f.dst)
structure RelayIs : Prop where
  relay : ∀ {w : World} {A : Option Addr} {c : Nat} {l : List Px} {B g : Nat} {F : Nat → Prop} {s : Dt} (i : Int) (f : Fr), PxAt w w.heap.size A l → PxFew l → f.data.size ≤ 1000 → Pt w B F g s → Srt s.l → Single s.l → s.l.length ≤ 40 →
    Calls Try.prog 7 #[.slice A l.length c, .int .i64 i, .agg #[.int .i64 f.dst, .int .i64 f.src, .bool f.tagged, .int .i64 f.vid, .int .i64 f.prio, .int .i64 f.typ, .string f.data], .pointer (some ⟨g, 0, none⟩)] w fun e w' => ∃ A' c', e = .returned (.slice A' (rlS l i f s).length c') ∧ SeAt w' w'.heap.size A' (rlS l i f s) ∧ Below w.heap.size w w'
  relay0 : ∀ {w : World} {A : Option Addr} {c : Nat} {l : List Px} (i : Int) (f : Fr), PxAt w w.heap.size A l → PxFew l → f.data.size ≤ 1000 →
    Calls Try.prog 7 #[.slice A l.length c, .int .i64 i, .agg #[.int .i64 f.dst, .int .i64 f.src, .bool f.tagged, .int .i64 f.vid, .int .i64 f.prio, .int .i64 f.typ, .string f.data], .pointer none] w fun e w' => ∃ A' c', e = .returned (.slice A' (rlP l i f (-1)).length c') ∧ SeAt w' w'.heap.size A' (rlP l i f (-1)) ∧ Below w.heap.size w w'
def fAll : Fr := ⟨281474976710655, 0, false, 0, 0, 2048, ⟨#[]⟩⟩
def pAll (b : Nat) : Px := ⟨2, 1, false, some ⟨b, 0, none⟩, 1, [1]⟩
theorem rlS_alive (b : Nat) : rlS [pAll b, pAll b, pAll b] 1 fAll ⟨[], 0⟩ = [⟨0, ⟨281474976710655, 0, true, 1, 0, 2048, ⟨#[]⟩⟩⟩, ⟨2, ⟨281474976710655, 0, true, 1, 0, 2048, ⟨#[]⟩⟩⟩] := by
  have hg : fAll.good = true := by decide
  have hm : manyB 281474976710655 = true := by decide
  have hk : keptB fAll.dst = false := by decide
  have hc : classP 1 fAll = 1 := rfl
  have hc2 : classP 1 ⟨281474976710655, 0, false, 0, 0, 2048, ⟨#[]⟩⟩ = 1 := rfl
  unfold rlS rlP relayP goesB
  simp only [List.map_cons, List.map_nil, Px.p, pAll, hg, hk, hc, List.getD_cons_succ, List.getD_cons_zero, Int.toNat_one]
  simp [relayTo, leavesB, asP, fAll, hm, hc2]
set_option maxHeartbeats 8000000 in
theorem rlalive_any (H : RelayIs) (w : World) : Calls Try.prog 5 #[] w fun e w' => e = .returned (.bool true) ∧ Below w.heap.size w w' := by
  have HREL := fun (V : World) (gp g B : Nat) (F : Nat → Prop) (hbV : Below w.heap.size w V) (hkV : ∀ w' : World, Below V.heap.size V w' → w'.cell? ⟨w.heap.size + 1, 0, none⟩ = some (.int .i64 2) ∧ w'.cell? ⟨w.heap.size + 1, 1, none⟩ = some (.int .i64 1) ∧ w'.cell? ⟨w.heap.size + 1, 2, none⟩ = some (.bool false) ∧ w'.cell? ⟨w.heap.size + 1, 3, none⟩ = some (.slice (some ⟨w.heap.size, 0, none⟩) 1 1)) (h0 : Blk V w.heap.size 3 #[.int .i64 1]) (h1 : Blk V gp 42 #[.int .i64 2, .int .i64 1, .bool false, .slice (some ⟨w.heap.size, 0, none⟩) 1 1, .int .i64 2, .int .i64 1, .bool false, .slice (some ⟨w.heap.size, 0, none⟩) 1 1, .int .i64 2, .int .i64 1, .bool false, .slice (some ⟨w.heap.size, 0, none⟩) 1 1]) (hp : Pt V B F g ⟨[], 0⟩) =>
    show Calls Try.prog 7 #[.slice (some ⟨gp, 0, none⟩) 3 3, .int .i64 1, .agg #[.int .i64 281474976710655, .int .i64 0, .bool false, .int .i64 0, .int .i64 0, .int .i64 2048, .string ⟨#[]⟩], .pointer (some ⟨g, 0, none⟩)] V fun e w' => ∃ A' c', e = .returned (.slice A' 2 c') ∧ SeAt w' w'.heap.size A' [⟨0, ⟨281474976710655, 0, true, 1, 0, 2048, ⟨#[]⟩⟩⟩, ⟨2, ⟨281474976710655, 0, true, 1, 0, 2048, ⟨#[]⟩⟩⟩] ∧ Below w.heap.size w w' ∧ w'.cell? ⟨w.heap.size + 1, 0, none⟩ = some (.int .i64 2) ∧ w'.cell? ⟨w.heap.size + 1, 1, none⟩ = some (.int .i64 1) ∧ w'.cell? ⟨w.heap.size + 1, 2, none⟩ = some (.bool false) ∧ w'.cell? ⟨w.heap.size + 1, 3, none⟩ = some (.slice (some ⟨w.heap.size, 0, none⟩) 1 1) by
      have hx : PxAt V V.heap.size (some ⟨gp, 0, none⟩) [pAll w.heap.size, pAll w.heap.size, pAll w.heap.size] := fun k hk => by
        have e : [pAll w.heap.size, pAll w.heap.size, pAll w.heap.size].getD k px0 = pAll w.heap.size := by
          match k, hk with
          | 0, _ => rfl
          | 1, _ => rfl
          | 2, _ => rfl
        rw [e]
        refine ⟨⟨gp, 0, rfl, h1.lt, ?_⟩, fun q hq => ?_⟩
        · match k, hk with
          | 0, _ => exact ⟨h1.cell 0, h1.cell 1, h1.cell 2, h1.cell 3⟩
          | 1, _ => exact ⟨h1.cell 4, h1.cell 5, h1.cell 6, h1.cell 7⟩
          | 2, _ => exact ⟨h1.cell 8, h1.cell 9, h1.cell 10, h1.cell 11⟩
        · obtain rfl : q = 0 := by have : q < 1 := hq; omega
          exact ⟨w.heap.size, 0, rfl, h0.lt, h0.cell 0⟩
      have := H.relay (c := 3) (l := [pAll w.heap.size, pAll w.heap.size, pAll w.heap.size]) 1 fAll hx ⟨(by show 3 ≤ 10; decide), fun k hk => by
        match k, hk with
        | 0, _ => exact (by decide : 1 ≤ 40)
        | 1, _ => exact (by decide : 1 ≤ 40)
        | 2, _ => exact (by decide : 1 ≤ 40)⟩ (by decide) hp List.Pairwise.nil (fun x hx => by cases hx) (Nat.zero_le _)
      rw [rlS_alive] at this
      exact this.mono fun e w' hh => by
        obtain ⟨A', c', h1, h2, h3⟩ := hh
        exact ⟨A', c', h1, h2, hbV.trans (h3.mono hbV.size), hkV _ h3⟩
  obtain ⟨W2, hW2⟩ : ∃ W2, ((w.alloc (.cells #[.int .i64 1] 3)).alloc (.cells #[.int .i64 2, .int .i64 1, .bool false, .slice (some ⟨w.heap.size, 0, none⟩) 1 1] 42)) = W2 := ⟨_, rfl⟩
  have h02 : Blk W2 w.heap.size 3 #[.int .i64 1] := by rw [← hW2]; exact (Blk.new w _ _).alloc _
  have h12 : Blk W2 (w.heap.size + 1) 42 #[.int .i64 2, .int .i64 1, .bool false, .slice (some ⟨w.heap.size, 0, none⟩) 1 1] := by
    rw [← hW2]
    have := Blk.new (w.alloc (.cells #[.int .i64 1] 3)) 42 #[.int .i64 2, .int .i64 1, .bool false, .slice (some ⟨w.heap.size, 0, none⟩) 1 1]
    rwa [show (w.alloc (.cells #[.int .i64 1] 3)).heap.size = w.heap.size + 1 by simp] at this
  have hbw : Below w.heap.size w W2 := by rw [← hW2]; exact bel_alloc2 w _ _
  have hk := fun (V : World) (hb : Below W2.heap.size W2 V) => show V.cell? ⟨w.heap.size + 1, 0, none⟩ = some (.int .i64 2) ∧ V.cell? ⟨w.heap.size + 1, 1, none⟩ = some (.int .i64 1) ∧ V.cell? ⟨w.heap.size + 1, 2, none⟩ = some (.bool false) ∧ V.cell? ⟨w.heap.size + 1, 3, none⟩ = some (.slice (some ⟨w.heap.size, 0, none⟩) 1 1) from by
    have q := h12.below hb h12.lt
    exact ⟨q.cell 0, q.cell 1, q.cell 2, q.cell 3⟩
  have cD := hk W2.drew (Below.refl _ W2).drew
  have cE := hk (W2.alloc (.cells #[.int .i64 2, .int .i64 1, .bool false, .slice (some ⟨w.heap.size, 0, none⟩) 1 1, .int .i64 2, .int .i64 1, .bool false, .slice (some ⟨w.heap.size, 0, none⟩) 1 1, .int .i64 2, .int .i64 1, .bool false, .slice (some ⟨w.heap.size, 0, none⟩) 1 1] 42)).drew (bel_alloc W2 _).drew
  have HN1 : Hid (Calls Try.prog 10 #[] W2.drew fun e V => ∃ g : Nat, e = .returned (.pointer (some ⟨g, 0, none⟩)) ∧ (V.cell? ⟨w.heap.size + 1, 0, none⟩ = some (.int .i64 2) ∧ V.cell? ⟨w.heap.size + 1, 1, none⟩ = some (.int .i64 1) ∧ V.cell? ⟨w.heap.size + 1, 2, none⟩ = some (.bool false) ∧ V.cell? ⟨w.heap.size + 1, 3, none⟩ = some (.slice (some ⟨w.heap.size, 0, none⟩) 1 1)) ∧ ((V.alloc (.cells #[.int .i64 2, .int .i64 1, .bool false, .slice (some ⟨w.heap.size, 0, none⟩) 1 1, .int .i64 2, .int .i64 1, .bool false, .slice (some ⟨w.heap.size, 0, none⟩) 1 1, .int .i64 2, .int .i64 1, .bool false, .slice (some ⟨w.heap.size, 0, none⟩) 1 1] 42)).cell? ⟨w.heap.size + 1, 0, none⟩ = some (.int .i64 2) ∧ (V.alloc (.cells #[.int .i64 2, .int .i64 1, .bool false, .slice (some ⟨w.heap.size, 0, none⟩) 1 1, .int .i64 2, .int .i64 1, .bool false, .slice (some ⟨w.heap.size, 0, none⟩) 1 1, .int .i64 2, .int .i64 1, .bool false, .slice (some ⟨w.heap.size, 0, none⟩) 1 1] 42)).cell? ⟨w.heap.size + 1, 1, none⟩ = some (.int .i64 1) ∧ (V.alloc (.cells #[.int .i64 2, .int .i64 1, .bool false, .slice (some ⟨w.heap.size, 0, none⟩) 1 1, .int .i64 2, .int .i64 1, .bool false, .slice (some ⟨w.heap.size, 0, none⟩) 1 1, .int .i64 2, .int .i64 1, .bool false, .slice (some ⟨w.heap.size, 0, none⟩) 1 1] 42)).cell? ⟨w.heap.size + 1, 2, none⟩ = some (.bool false) ∧ (V.alloc (.cells #[.int .i64 2, .int .i64 1, .bool false, .slice (some ⟨w.heap.size, 0, none⟩) 1 1, .int .i64 2, .int .i64 1, .bool false, .slice (some ⟨w.heap.size, 0, none⟩) 1 1, .int .i64 2, .int .i64 1, .bool false, .slice (some ⟨w.heap.size, 0, none⟩) 1 1] 42)).cell? ⟨w.heap.size + 1, 3, none⟩ = some (.slice (some ⟨w.heap.size, 0, none⟩) 1 1)) ∧ Hid (Calls Try.prog 7 #[.slice (some ⟨V.heap.size, 0, none⟩) 3 3, .int .i64 1, .agg #[.int .i64 281474976710655, .int .i64 0, .bool false, .int .i64 0, .int .i64 0, .int .i64 2048, .string ⟨#[]⟩], .pointer (some ⟨g, 0, none⟩)] (V.alloc (.cells #[.int .i64 2, .int .i64 1, .bool false, .slice (some ⟨w.heap.size, 0, none⟩) 1 1, .int .i64 2, .int .i64 1, .bool false, .slice (some ⟨w.heap.size, 0, none⟩) 1 1, .int .i64 2, .int .i64 1, .bool false, .slice (some ⟨w.heap.size, 0, none⟩) 1 1] 42)) fun e w' => ∃ A' c', e = .returned (.slice A' 2 c') ∧ SeAt w' w'.heap.size A' [⟨0, ⟨281474976710655, 0, true, 1, 0, 2048, ⟨#[]⟩⟩⟩, ⟨2, ⟨281474976710655, 0, true, 1, 0, 2048, ⟨#[]⟩⟩⟩] ∧ Below w.heap.size w w' ∧ w'.cell? ⟨w.heap.size + 1, 0, none⟩ = some (.int .i64 2) ∧ w'.cell? ⟨w.heap.size + 1, 1, none⟩ = some (.int .i64 1) ∧ w'.cell? ⟨w.heap.size + 1, 2, none⟩ = some (.bool false) ∧ w'.cell? ⟨w.heap.size + 1, 3, none⟩ = some (.slice (some ⟨w.heap.size, 0, none⟩) 1 1))) := Lib.hid ((fnew_any W2.drew W2.heap.size (Nat.le_refl _)).mono fun e V hh => by
    obtain ⟨g, rfl, b5, p5⟩ := hh
    have b6 : Below W2.heap.size W2 V := ⟨b5.os, b5.tape, b5.output, b5.size, b5.block⟩
    obtain ⟨A, c, h⟩ := p5
    exact ⟨g, rfl, hk V b6, hk _ (b6.trans ((bel_alloc V _).mono b6.size)), Lib.hid (HREL _ _ g W2.heap.size _ (hbw.trans ((b6.trans ((bel_alloc V _).mono b6.size)).mono hbw.size)) (fun w' b8 => hk w' ((b6.trans ((bel_alloc V _).mono b6.size)).trans (b8.mono (b6.trans ((bel_alloc V _).mono b6.size)).size))) ((h02.below b6 h02.lt).alloc _) (Blk.new V _ _) ⟨A, c, h.below (bel_alloc V _)⟩)⟩)
  have HN2 : Hid (Calls Try.prog 10 #[] (W2.alloc (.cells #[.int .i64 2, .int .i64 1, .bool false, .slice (some ⟨w.heap.size, 0, none⟩) 1 1, .int .i64 2, .int .i64 1, .bool false, .slice (some ⟨w.heap.size, 0, none⟩) 1 1, .int .i64 2, .int .i64 1, .bool false, .slice (some ⟨w.heap.size, 0, none⟩) 1 1] 42)).drew fun e V => ∃ g : Nat, e = .returned (.pointer (some ⟨g, 0, none⟩)) ∧ (V.cell? ⟨w.heap.size + 1, 0, none⟩ = some (.int .i64 2) ∧ V.cell? ⟨w.heap.size + 1, 1, none⟩ = some (.int .i64 1) ∧ V.cell? ⟨w.heap.size + 1, 2, none⟩ = some (.bool false) ∧ V.cell? ⟨w.heap.size + 1, 3, none⟩ = some (.slice (some ⟨w.heap.size, 0, none⟩) 1 1)) ∧ Hid (Calls Try.prog 7 #[.slice (some ⟨W2.heap.size, 0, none⟩) 3 3, .int .i64 1, .agg #[.int .i64 281474976710655, .int .i64 0, .bool false, .int .i64 0, .int .i64 0, .int .i64 2048, .string ⟨#[]⟩], .pointer (some ⟨g, 0, none⟩)] V fun e w' => ∃ A' c', e = .returned (.slice A' 2 c') ∧ SeAt w' w'.heap.size A' [⟨0, ⟨281474976710655, 0, true, 1, 0, 2048, ⟨#[]⟩⟩⟩, ⟨2, ⟨281474976710655, 0, true, 1, 0, 2048, ⟨#[]⟩⟩⟩] ∧ Below w.heap.size w w' ∧ w'.cell? ⟨w.heap.size + 1, 0, none⟩ = some (.int .i64 2) ∧ w'.cell? ⟨w.heap.size + 1, 1, none⟩ = some (.int .i64 1) ∧ w'.cell? ⟨w.heap.size + 1, 2, none⟩ = some (.bool false) ∧ w'.cell? ⟨w.heap.size + 1, 3, none⟩ = some (.slice (some ⟨w.heap.size, 0, none⟩) 1 1))) := Lib.hid ((fnew_any (W2.alloc (.cells #[.int .i64 2, .int .i64 1, .bool false, .slice (some ⟨w.heap.size, 0, none⟩) 1 1, .int .i64 2, .int .i64 1, .bool false, .slice (some ⟨w.heap.size, 0, none⟩) 1 1, .int .i64 2, .int .i64 1, .bool false, .slice (some ⟨w.heap.size, 0, none⟩) 1 1] 42)).drew W2.heap.size (bel_alloc W2 _).size).mono fun e V hh => by
    obtain ⟨g, rfl, b5, p5⟩ := hh
    have b7 : Below W2.heap.size W2 (W2.alloc (.cells #[.int .i64 2, .int .i64 1, .bool false, .slice (some ⟨w.heap.size, 0, none⟩) 1 1, .int .i64 2, .int .i64 1, .bool false, .slice (some ⟨w.heap.size, 0, none⟩) 1 1, .int .i64 2, .int .i64 1, .bool false, .slice (some ⟨w.heap.size, 0, none⟩) 1 1] 42)).drew := (bel_alloc W2 _).drew
    have b6 := b7.trans (b5.mono b7.size)
    have hq : Blk (W2.alloc (.cells #[.int .i64 2, .int .i64 1, .bool false, .slice (some ⟨w.heap.size, 0, none⟩) 1 1, .int .i64 2, .int .i64 1, .bool false, .slice (some ⟨w.heap.size, 0, none⟩) 1 1, .int .i64 2, .int .i64 1, .bool false, .slice (some ⟨w.heap.size, 0, none⟩) 1 1] 42)).drew W2.heap.size 42 #[.int .i64 2, .int .i64 1, .bool false, .slice (some ⟨w.heap.size, 0, none⟩) 1 1, .int .i64 2, .int .i64 1, .bool false, .slice (some ⟨w.heap.size, 0, none⟩) 1 1, .int .i64 2, .int .i64 1, .bool false, .slice (some ⟨w.heap.size, 0, none⟩) 1 1] := (Blk.new W2 _ _).drew
    exact ⟨g, rfl, hk V b6, Lib.hid (HREL _ _ g W2.heap.size _ (hbw.trans (b6.mono hbw.size)) (fun w' b8 => hk w' (b6.trans (b8.mono b6.size))) (h02.below b6 h02.lt) (hq.below b5 hq.lt) p5)⟩)
  have HW2 := Lib.hid hW2
  clear h02 h12 hW2 HREL hk hbw
  go_enter Try.func5, Try.ntmps5
  go_wp2_with fail
  rw [HW2.out]
  go_region_held3 (fun V => V.cell? ⟨w.heap.size + 1, 0, none⟩ = some (.int .i64 2) ∧ V.cell? ⟨w.heap.size + 1, 1, none⟩ = some (.int .i64 1) ∧ V.cell? ⟨w.heap.size + 1, 2, none⟩ = some (.bool false) ∧ V.cell? ⟨w.heap.size + 1, 3, none⟩ = some (.slice (some ⟨w.heap.size, 0, none⟩) 1 1))
    (first
      | (with_reducible exact cD)
      | (with_reducible exact cA)
      | (with_reducible exact cB)
      | (with_reducible exact cE)
      | (with_reducible exact cF)
      | fail)
    (first
      | (go_at_call 10; (with_reducible refine HN1.out.mono ?_); rintro e w5 ⟨gt, rfl, cA, cB, HR⟩)
      | (go_at_call 10; (with_reducible refine HN2.out.mono ?_); rintro e w5 ⟨gt, rfl, cA, HR⟩)
      | (go_at_call 7; (with_reducible refine HR.out.mono ?_); rintro e w6 ⟨A', c', rfl, hs, b6, cF⟩))
  all_goals
    obtain ⟨b0, o0, rfl, hb0, q0⟩ := hs 0 (by decide)
    obtain ⟨b1, o1, e1, hb1, q1⟩ := hs 1 (by decide)
    injection e1 with e1
    injection e1 with e1 e2
    subst e1 e2
    have z0 : w6.cell? ⟨b0, o0, none⟩ = some (.int .i64 0) := q0.c0
    have z4 : w6.cell? ⟨b0, o0 + 4, none⟩ = some (.int .i64 1) := q0.c4
    have y0 : w6.cell? ⟨b0, o0 + 8, none⟩ = some (.int .i64 2) := q1.c0
    have HB6 := Lib.hid b6
    clear hs q0 q1 b6 cA cD cE cF HR hb0 hb1
    go_wp2_with fail
    go_ret
    exact ⟨rfl, HB6.out⟩
end Go.Proofs.Ytnhnllkcnpbgoaa
