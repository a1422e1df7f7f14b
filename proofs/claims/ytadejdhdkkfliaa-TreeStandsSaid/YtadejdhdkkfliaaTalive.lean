/- alive, of layer 12. No condition. -/
import Derived.Test.YtadejdhdkkfliaaTtick
namespace Go.Proofs.Ytadejdhdkkfliaa
open Go.RowKit
set_option maxRecDepth 100000

def aF : Nat → Pt := tickP 5 2 2 (setP 5 2 0 (fun _ => ptN) 0 true 1)
theorem aF_none (i : Nat) : (aF i).none = true ∧ (aF i).up = decide (i = 0) := by
  have h1 := fun i => anew_up 5 2 2 (oldP 2 (setP 5 2 0 (fun _ => ptN) 0 true 1)) i
  have h2 := fun i => anew_up 5 2 0 (updP (fun _ => ptN) 0 (setPt ptN true 1)) i
  have h3 : (setP 5 2 0 (fun _ => ptN) 0 true 1 i).none = true ∧ (setP 5 2 0 (fun _ => ptN) 0 true 1 i).up = decide (i = 0) := by
    unfold setP
    obtain ⟨a1, _, a3, _⟩ := h2 i
    rw [a1, a3]
    unfold updP
    by_cases e : i = 0
    · rw [if_pos e]; subst e; exact ⟨rfl, rfl⟩
    · rw [if_neg e, decide_eq_false e]; exact ⟨rfl, rfl⟩
  unfold aF tickP
  obtain ⟨a1, _, a3, _⟩ := h1 i
  rw [a1, a3]
  unfold oldP
  split
  · exact ⟨rfl, h3.2⟩
  · exact h3
theorem aF_best : bestP 5 2 aF = (ownV 5, -1) := none_best fun i _ => (aF_none i).1
theorem aF_role (i : Nat) (hi : i < 2) : (aF i).role = if i = 0 then 2 else 0 := by
  have h := anew_role 5 2 2 (oldP 2 (setP 5 2 0 (fun _ => ptN) 0 true 1)) i hi
  have e : (aF i).role = roleP 5 2 aF i := h
  rw [e, none_role (fun i _ => (aF_none i).1) hi, (aF_none i).2]
  by_cases h0 : i = 0
  · subst h0; rfl
  · rw [if_neg h0, decide_eq_false h0]; rfl
theorem aF_says (C : Int) : saysN 5 2 aF C 2 = [⟨0, ⟨5, 0, 5, 0, 0, 2, tells C 2⟩⟩] := by
  unfold saysN
  rw [if_pos (by decide)]
  have h0 := aF_role 0 (by decide)
  have h1 := aF_role 1 (by decide)
  have e : saidOf 5 2 aF C 2 0 = ⟨0, ⟨5, 0, 5, 0, 0, 2, tells C 2⟩⟩ := by
    unfold saidOf ageP
    rw [aF_best]
    rfl
  have s1 : saidTo 5 2 aF C 2 1 = [⟨0, ⟨5, 0, 5, 0, 0, 2, tells C 2⟩⟩] := by
    show (if (aF 0).role = 2 then saidTo 5 2 aF C 2 0 ++ [saidOf 5 2 aF C 2 0] else _) = _
    rw [h0, if_pos rfl, e]
    rfl
  show (if (aF 1).role = 2 then saidTo 5 2 aF C 2 1 ++ [saidOf 5 2 aF C 2 1] else saidTo 5 2 aF C 2 1) = _
  rw [h1, if_neg (by decide), s1]
theorem ptN_ok : POk 0 2 (fun _ => ptN) := fun _ _ => ⟨⟨in0, in0, in0, in0⟩, in0, ⟨Int.le_refl _, by show (0 : Int) ≤ 16777216; decide⟩, fun _ => rfl, ⟨Int.le_refl _, Int.le_refl _⟩, ⟨Int.le_refl _, Int.le_refl _⟩⟩
set_option maxHeartbeats 4000000 in
theorem talive_any (w : World) : Calls Try.prog 8 #[] w fun e w' => e = .returned (.bool true) ∧ Below w.heap.size w w' := by
  have HNW := Lib.hid (tnew_ok 5 2 (by decide) (by decide) (by decide) (by decide) w)
  go_enter Try.func8, Try.ntmps8
  go_wp2_with fail
  refine HNW.out.mono ?_
  rintro e w1 ⟨g, gp, rfl, h1, b1, hg, hgp⟩
  have HST := Lib.hid (tset_ok h1 (by decide) ptN_ok 0 (by decide) true 1 (by decide) (by decide))
  have HB := Lib.hid (And.intro b1 (And.intro hg hgp))
  clear h1 b1 hg hgp
  go_wp2_with (go_at_call 12; refine HST.out.mono ?_; rintro e w2 ⟨rfl, h2, t2⟩)
  have HTK := Lib.hid (tick_any h2 (by decide) (ptN_ok.setP 5 (by decide) (by decide) true (by decide) (by decide)) (Int.le_refl _) (now := 2) (by decide) (by decide) (.inl rfl))
  clear h2
  refine HTK.out.mono ?_
  rintro e w3 ⟨A, c, rfl, ho, hn, h3, t3⟩
  rw [show tickP 5 2 2 (setP 5 2 0 (fun _ => ptN) 0 true 1) = aF from rfl] at ho h3 ⊢
  obtain ⟨C, hC⟩ : ∃ C, chN aF (fun _ => false) 2 2 (-1) = C := ⟨_, rfl⟩
  rw [hC, aF_says] at ho
  rw [hC] at h3
  rw [hC, aF_says]
  rw [List.length_singleton]
  obtain ⟨tc, htc⟩ : ∃ tc, tells C 2 = tc := ⟨_, rfl⟩
  rw [htc] at ho
  obtain ⟨b, rfl, hb1, hb2, hc⟩ := ho.at_ (k := 0) (Nat.lt_succ_self 0)
  have hcap := (own_cap ho).1
  rw [List.length_singleton] at hcap
  have cc0 : (1 : Int) ≤ c := by omega
  have q0 : w3.cell? ⟨b, 0, none⟩ = some (.int .i64 0) := hc.c0
  have q1 : w3.cell? ⟨b, 1, none⟩ = some (.int .i64 5) := hc.c1
  have q2 : w3.cell? ⟨b, 2, none⟩ = some (.int .i64 0) := hc.c2
  have q3 : w3.cell? ⟨b, 3, none⟩ = some (.int .i64 5) := hc.c3
  have q4 : w3.cell? ⟨b, 4, none⟩ = some (.int .i64 0) := hc.c4
  have HR := Lib.hid (fun w (h : TreeW w g gp 5 2 aF (fwN aF 2) C) => role_in h 0 (show 0 < 2 by decide))
  rw [aF_role 0 (by decide), if_pos rfl] at HR
  have hbel : Below w.heap.size w w3 := by
    have t13 : Touch (fun k => w.heap.size ≤ k) w1 w3 := (t2.mono fun k _ hk => by have := HB.out; omega).trans (t3.mono fun k _ hk => by have := HB.out; omega)
    exact ((Below.touch HB.out.1).trans t13).below (Nat.le_refl _) fun k hk => hk
  have HE := Lib.hid (And.intro h3 hbel)
  clear ho hc t2 t3 hC htc h3 hb1 hb2 hn hbel
  go_wp2_with fail
  refine (HR.out _ HE.out.1).mono ?_
  rintro e w4 ⟨rfl, rfl⟩
  go_wp2_with fail
  go_ret
  exact ⟨rfl, HE.out.2⟩
end Go.Proofs.Ytadejdhdkkfliaa
