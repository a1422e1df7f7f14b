/- Two messages that have bytes have the same ones just if they are the same; all begin with 0, and end with two. No condition. -/
import Derived.Test.YtipieipeidedhaaFrame
import Derived.Test.YtipieipeidedhaaMPdu
import Derived.Test.YtipieipeidedhaaMrPutM
import Derived.Test.YtipieipeidedhaaMrAlive
import Derived.Test.YtipieipeidedhaaMrSame
namespace Go.Proofs.Ytipieipeidedhaa
open Go.RowKit Go.ChangeShapes Go.WideShapes

/-- How Bytes ends: an error, or the bytes. -/
theorem mbytes_all (A A' : Option Addr) (c c' : Nat) (m : Msg) (B : Nat) (w : World) (hB : B ≤ w.heap.size) (hl : m.all.length ≤ 400000) (hw : m.ws.length ≤ 400000) (hA : IntsAt w B A m.all) (hA' : WordsAt w B A' m.ws) (hc' : m.ws.length ≤ c') :
    (∃ E : Int, (E = 1 ∨ E = 3) ∧ ∀ w3, Below B w w3 → Calls Try.prog 12 #[.agg #[.slice A m.all.length c, .slice A' m.ws.length c']] w3 fun e w' => e = .returned (.tuple #[.string ⟨#[]⟩, .int .i64 E]) ∧ Below w3.heap.size w3 w') ∨
    (m.Good ∧ m.bytes.length ≤ 400 ∧ ∀ w3, Below B w w3 → Calls Try.prog 12 #[.agg #[.slice A m.all.length c, .slice A' m.ws.length c']] w3 fun e w' => e = .returned (.tuple #[.string (str m.bytes), .int .i64 0]) ∧ Below w3.heap.size w3 w') := by
  by_cases hg : m.Good
  · by_cases h4 : 400 < m.bytes.length
    · refine .inl ⟨3, .inr rfl, fun w3 hb => ?_⟩
      have := mbytes_good A A' c c' m B w3 (Nat.le_trans hB hb.size) hl hw (hA.below hb) (hA'.below hb) hc' hg
      rw [if_pos h4] at this
      exact this
    · refine .inr ⟨hg, by omega, fun w3 hb => ?_⟩
      have := mbytes_good A A' c c' m B w3 (Nat.le_trans hB hb.size) hl hw (hA.below hb) (hA'.below hb) hc' hg
      rw [if_neg h4] at this
      exact this
  · exact .inl ⟨1, .inl rfl, fun w3 hb => mbytes_bad A A' c c' m B w3 (Nat.le_trans hB hb.size) hl hw (hA.below hb) (hA'.below hb) hg⟩
theorem sameM_ne {m m' : Msg} (h : ¬ m = m') : sameM m.all m'.all m.ws m'.ws = false := by
  cases hs : sameM m.all m'.all m.ws m'.ws with
  | false => rfl
  | true =>
    exfalso
    apply h
    simp only [sameM, sameB, Bool.and_eq_true, decide_eq_true_eq] at hs
    obtain ⟨h1, ⟨h2, h3⟩, h4⟩ := hs
    refine Msg.eq ?_ ?_
    · refine List.ext_getElem h2 fun i hi hi' => ?_
      have := h3 i hi
      simpa [List.getD, List.getElem?_eq_getElem hi, List.getElem?_eq_getElem hi'] using this
    · refine List.ext_getElem h1 fun i hi hi' => ?_
      have := h4 i hi
      simp only [List.getD, List.getElem?_eq_getElem hi, List.getElem?_eq_getElem hi', Option.getD_some] at this
      exact Wd.eq this.1 this.2.1 this.2.2.1 this.2.2.2
theorem bytes_ends (m : Msg) : ∃ t, m.bytes = 0 :: t ∧ m.bytes.drop (m.bytes.length - 2) = [0, 0] := by
  refine ⟨_, rfl, ?_⟩
  obtain ⟨X, hX⟩ : ∃ X, m.bytes = X ++ [0, 0] := ⟨[0] ++ (partBytes 1 (decide ((1 : Int) ∈ m.all)) (ofK 1 m.ws) ++ (partBytes 2 (decide ((2 : Int) ∈ m.all)) (ofK 2 m.ws) ++ partBytes 3 (decide ((3 : Int) ∈ m.all)) (ofK 3 m.ws))), by unfold Msg.bytes; simp only [List.append_assoc]⟩
  rw [hX]
  simp
theorem same_self (m : Msg) : sameM m.all m.all m.ws m.ws = true := sameM_yes rfl (by simp [sameB]) (fun k hk => ⟨rfl, rfl, rfl, rfl⟩)

set_option maxHeartbeats 8000000 in
theorem walkMrpduOne (A A' : Option Addr) (c c' : Nat) (m : Msg) (B B' : Option Addr) (d d' : Nat) (n : Msg) (w : World) (hA : IntsAt w w.heap.size A m.all) (hA' : WordsAt w w.heap.size A' m.ws) (hc : m.ws.length ≤ c') (hB : IntsAt w w.heap.size B n.all) (hB' : WordsAt w w.heap.size B' n.ws) (hd : n.ws.length ≤ d') :
    Calls Try.prog 8 #[.agg #[.slice A m.all.length c, .slice A' m.ws.length c'], .agg #[.slice B n.all.length d, .slice B' n.ws.length d']] w fun e w' => e = .returned (.bool true) ∧ Below w.heap.size w w' := by
  have e1 : (w.alloc (.cells #[.slice A m.all.length c, .slice A' m.ws.length c'] 25)).heap.size = w.heap.size + 1 := by simp
  have z0 := (Blk.new w 25 #[.slice A m.all.length c, .slice A' m.ws.length c']).alloc (.cells #[.slice B n.all.length d, .slice B' n.ws.length d'] 25)
  have z1 := Blk.new (w.alloc (.cells #[.slice A m.all.length c, .slice A' m.ws.length c'] 25)) 25 #[.slice B n.all.length d, .slice B' n.ws.length d']
  rw [e1] at z1
  have bel := bel_alloc2 w (.cells #[.slice A m.all.length c, .slice A' m.ws.length c'] 25) (.cells #[.slice B n.all.length d, .slice B' n.ws.length d'] 25)
  clear e1
  obtain ⟨a, ha⟩ : ∃ a, m.all.length = a := ⟨_, rfl⟩
  obtain ⟨b, hb⟩ : ∃ a, m.ws.length = a := ⟨_, rfl⟩
  obtain ⟨a2, ha2⟩ : ∃ a, n.all.length = a := ⟨_, rfl⟩
  obtain ⟨b2, hb2⟩ : ∃ a, n.ws.length = a := ⟨_, rfl⟩
  rw [ha, hb, ha2, hb2] at z0 z1 bel
  rw [ha, hb, ha2, hb2]
  obtain ⟨g1, hg1⟩ : ∃ g, greatB a b = g := ⟨_, rfl⟩
  obtain ⟨g2, hg2⟩ : ∃ g, greatB a2 b2 = g := ⟨_, rfl⟩
  have HGR : ∀ w, Calls Try.prog 10 #[.agg #[.slice A a c, .slice A' b c']] w fun e w' => e = .returned (.bool g1) ∧ Below w.heap.size w w' := fun w => by rw [← hg1]; exact great_any _ _ _ _ _ _ _
  have HGS : ∀ w, Calls Try.prog 10 #[.agg #[.slice B a2 d, .slice B' b2 d']] w fun e w' => e = .returned (.bool g2) ∧ Below w.heap.size w w' := fun w => by rw [← hg2]; exact great_any _ _ _ _ _ _ _
  cases g1 with
  | true =>
    clear hA hA' hB hB' hc hd HGS
    go_enter Try.func8, Try.ntmps8
    go_wp2_with fail
    refine (alive_any _).mono ?_
    rintro e u1 ⟨rfl, bb⟩
    replace z0 := z0.below bb z0.lt
    replace z1 := z1.below bb z1.lt
    replace bel := bel.trans (bb.mono bel.size)
    clear bb
    have q0_0 : u1.cell? ⟨w.heap.size, 0, none⟩ = some (.slice A a c) := z0.cell 0
    have q0_1 : u1.cell? ⟨w.heap.size, 1, none⟩ = some (.slice A' b c') := z0.cell 1
    have q1_0 : u1.cell? ⟨w.heap.size + 1, 0, none⟩ = some (.slice B a2 d) := z1.cell 0
    have q1_1 : u1.cell? ⟨w.heap.size + 1, 1, none⟩ = some (.slice B' b2 d') := z1.cell 1
    go_wp2_with fail
    refine (HGR _).mono ?_
    rintro e u2 ⟨rfl, bb⟩
    clear q0_0 q0_1 q1_0 q1_1
    replace z0 := z0.below bb z0.lt
    replace z1 := z1.below bb z1.lt
    replace bel := bel.trans (bb.mono bel.size)
    clear bb
    go_wp2_with fail
    go_ret
    exact ⟨rfl, bel⟩
  | false =>
    cases g2 with
    | true =>
      clear hA hA' hB hB' hc hd
      go_enter Try.func8, Try.ntmps8
      go_wp2_with fail
      refine (alive_any _).mono ?_
      rintro e u1 ⟨rfl, bb⟩
      replace z0 := z0.below bb z0.lt
      replace z1 := z1.below bb z1.lt
      replace bel := bel.trans (bb.mono bel.size)
      clear bb
      have q0_0 : u1.cell? ⟨w.heap.size, 0, none⟩ = some (.slice A a c) := z0.cell 0
      have q0_1 : u1.cell? ⟨w.heap.size, 1, none⟩ = some (.slice A' b c') := z0.cell 1
      have q1_0 : u1.cell? ⟨w.heap.size + 1, 0, none⟩ = some (.slice B a2 d) := z1.cell 0
      have q1_1 : u1.cell? ⟨w.heap.size + 1, 1, none⟩ = some (.slice B' b2 d') := z1.cell 1
      go_wp2_with fail
      refine (HGR _).mono ?_
      rintro e u2 ⟨rfl, bb⟩
      clear q0_0 q0_1 q1_0 q1_1
      replace z0 := z0.below bb z0.lt
      replace z1 := z1.below bb z1.lt
      replace bel := bel.trans (bb.mono bel.size)
      clear bb
      have q0_0 : u2.cell? ⟨w.heap.size, 0, none⟩ = some (.slice A a c) := z0.cell 0
      have q0_1 : u2.cell? ⟨w.heap.size, 1, none⟩ = some (.slice A' b c') := z0.cell 1
      have q1_0 : u2.cell? ⟨w.heap.size + 1, 0, none⟩ = some (.slice B a2 d) := z1.cell 0
      have q1_1 : u2.cell? ⟨w.heap.size + 1, 1, none⟩ = some (.slice B' b2 d') := z1.cell 1
      go_wp2_with fail
      refine (HGS _).mono ?_
      rintro e u3 ⟨rfl, bb⟩
      clear q0_0 q0_1 q1_0 q1_1
      replace z0 := z0.below bb z0.lt
      replace z1 := z1.below bb z1.lt
      replace bel := bel.trans (bb.mono bel.size)
      clear bb
      go_wp2_with fail
      go_ret
      exact ⟨rfl, bel⟩
    | false =>
      simp only [greatB, decide_eq_false_iff_not] at hg1 hg2
      have HP := mbytes_all A A' c c' m w.heap.size w (Nat.le_refl _) (by omega) (by omega) hA hA' hc
      have HQ := mbytes_all B B' d d' n w.heap.size w (Nat.le_refl _) (by omega) (by omega) hB hB' hd
      have HSM := Lib.hid (fun (w3 : World) (b3 : Below w.heap.size w w3) => sameM_any A B A' B' c d c' d' m.all n.all m.ws n.ws w.heap.size w3 (by omega) (by omega) (hA.below b3) (hB.below b3) (hA'.below b3) (hB'.below b3))
      rw [ha, hb] at HP
      rw [ha2, hb2] at HQ
      rw [ha, hb, ha2, hb2] at HSM
      clear hA hA' hB hB' hc hd ha hb ha2 hb2 hg1 hg2
      rcases HP with ⟨E, hE, HP⟩ | ⟨gp, lp, HP⟩
      · rcases HQ with ⟨F, hF, HQ⟩ | ⟨gq, lq, HQ⟩
        · rcases hE with rfl | rfl <;> rcases hF with rfl | rfl
          all_goals
            go_enter Try.func8, Try.ntmps8
            go_wp2_with fail
            refine (alive_any _).mono ?_
            rintro e u1 ⟨rfl, bb⟩
            replace z0 := z0.below bb z0.lt
            replace z1 := z1.below bb z1.lt
            replace bel := bel.trans (bb.mono bel.size)
            clear bb
            have q0_0 : u1.cell? ⟨w.heap.size, 0, none⟩ = some (.slice A a c) := z0.cell 0
            have q0_1 : u1.cell? ⟨w.heap.size, 1, none⟩ = some (.slice A' b c') := z0.cell 1
            have q1_0 : u1.cell? ⟨w.heap.size + 1, 0, none⟩ = some (.slice B a2 d) := z1.cell 0
            have q1_1 : u1.cell? ⟨w.heap.size + 1, 1, none⟩ = some (.slice B' b2 d') := z1.cell 1
            go_wp2_with fail
            refine (HGR _).mono ?_
            rintro e u2 ⟨rfl, bb⟩
            clear q0_0 q0_1 q1_0 q1_1
            replace z0 := z0.below bb z0.lt
            replace z1 := z1.below bb z1.lt
            replace bel := bel.trans (bb.mono bel.size)
            clear bb
            have q0_0 : u2.cell? ⟨w.heap.size, 0, none⟩ = some (.slice A a c) := z0.cell 0
            have q0_1 : u2.cell? ⟨w.heap.size, 1, none⟩ = some (.slice A' b c') := z0.cell 1
            have q1_0 : u2.cell? ⟨w.heap.size + 1, 0, none⟩ = some (.slice B a2 d) := z1.cell 0
            have q1_1 : u2.cell? ⟨w.heap.size + 1, 1, none⟩ = some (.slice B' b2 d') := z1.cell 1
            go_wp2_with fail
            refine (HGS _).mono ?_
            rintro e u3 ⟨rfl, bb⟩
            clear q0_0 q0_1 q1_0 q1_1
            replace z0 := z0.below bb z0.lt
            replace z1 := z1.below bb z1.lt
            replace bel := bel.trans (bb.mono bel.size)
            clear bb
            have q0_0 : u3.cell? ⟨w.heap.size, 0, none⟩ = some (.slice A a c) := z0.cell 0
            have q0_1 : u3.cell? ⟨w.heap.size, 1, none⟩ = some (.slice A' b c') := z0.cell 1
            have q1_0 : u3.cell? ⟨w.heap.size + 1, 0, none⟩ = some (.slice B a2 d) := z1.cell 0
            have q1_1 : u3.cell? ⟨w.heap.size + 1, 1, none⟩ = some (.slice B' b2 d') := z1.cell 1
            go_wp2_with fail
            refine (HP _ bel).mono ?_
            rintro e u4 ⟨rfl, bb⟩
            clear q0_0 q0_1 q1_0 q1_1
            replace z0 := z0.below bb z0.lt
            replace z1 := z1.below bb z1.lt
            replace bel := bel.trans (bb.mono bel.size)
            clear bb
            have q0_0 : u4.cell? ⟨w.heap.size, 0, none⟩ = some (.slice A a c) := z0.cell 0
            have q0_1 : u4.cell? ⟨w.heap.size, 1, none⟩ = some (.slice A' b c') := z0.cell 1
            have q1_0 : u4.cell? ⟨w.heap.size + 1, 0, none⟩ = some (.slice B a2 d) := z1.cell 0
            have q1_1 : u4.cell? ⟨w.heap.size + 1, 1, none⟩ = some (.slice B' b2 d') := z1.cell 1
            go_wp2_with fail
            refine (HQ _ bel).mono ?_
            rintro e u5 ⟨rfl, bb⟩
            clear q0_0 q0_1 q1_0 q1_1
            replace z0 := z0.below bb z0.lt
            replace z1 := z1.below bb z1.lt
            replace bel := bel.trans (bb.mono bel.size)
            clear bb
            go_wp2_with fail
            go_ret
            exact ⟨rfl, bel⟩
        · rcases hE with rfl | rfl
          all_goals
            go_enter Try.func8, Try.ntmps8
            go_wp2_with fail
            refine (alive_any _).mono ?_
            rintro e u1 ⟨rfl, bb⟩
            replace z0 := z0.below bb z0.lt
            replace z1 := z1.below bb z1.lt
            replace bel := bel.trans (bb.mono bel.size)
            clear bb
            have q0_0 : u1.cell? ⟨w.heap.size, 0, none⟩ = some (.slice A a c) := z0.cell 0
            have q0_1 : u1.cell? ⟨w.heap.size, 1, none⟩ = some (.slice A' b c') := z0.cell 1
            have q1_0 : u1.cell? ⟨w.heap.size + 1, 0, none⟩ = some (.slice B a2 d) := z1.cell 0
            have q1_1 : u1.cell? ⟨w.heap.size + 1, 1, none⟩ = some (.slice B' b2 d') := z1.cell 1
            go_wp2_with fail
            refine (HGR _).mono ?_
            rintro e u2 ⟨rfl, bb⟩
            clear q0_0 q0_1 q1_0 q1_1
            replace z0 := z0.below bb z0.lt
            replace z1 := z1.below bb z1.lt
            replace bel := bel.trans (bb.mono bel.size)
            clear bb
            have q0_0 : u2.cell? ⟨w.heap.size, 0, none⟩ = some (.slice A a c) := z0.cell 0
            have q0_1 : u2.cell? ⟨w.heap.size, 1, none⟩ = some (.slice A' b c') := z0.cell 1
            have q1_0 : u2.cell? ⟨w.heap.size + 1, 0, none⟩ = some (.slice B a2 d) := z1.cell 0
            have q1_1 : u2.cell? ⟨w.heap.size + 1, 1, none⟩ = some (.slice B' b2 d') := z1.cell 1
            go_wp2_with fail
            refine (HGS _).mono ?_
            rintro e u3 ⟨rfl, bb⟩
            clear q0_0 q0_1 q1_0 q1_1
            replace z0 := z0.below bb z0.lt
            replace z1 := z1.below bb z1.lt
            replace bel := bel.trans (bb.mono bel.size)
            clear bb
            have q0_0 : u3.cell? ⟨w.heap.size, 0, none⟩ = some (.slice A a c) := z0.cell 0
            have q0_1 : u3.cell? ⟨w.heap.size, 1, none⟩ = some (.slice A' b c') := z0.cell 1
            have q1_0 : u3.cell? ⟨w.heap.size + 1, 0, none⟩ = some (.slice B a2 d) := z1.cell 0
            have q1_1 : u3.cell? ⟨w.heap.size + 1, 1, none⟩ = some (.slice B' b2 d') := z1.cell 1
            go_wp2_with fail
            refine (HP _ bel).mono ?_
            rintro e u4 ⟨rfl, bb⟩
            clear q0_0 q0_1 q1_0 q1_1
            replace z0 := z0.below bb z0.lt
            replace z1 := z1.below bb z1.lt
            replace bel := bel.trans (bb.mono bel.size)
            clear bb
            have q0_0 : u4.cell? ⟨w.heap.size, 0, none⟩ = some (.slice A a c) := z0.cell 0
            have q0_1 : u4.cell? ⟨w.heap.size, 1, none⟩ = some (.slice A' b c') := z0.cell 1
            have q1_0 : u4.cell? ⟨w.heap.size + 1, 0, none⟩ = some (.slice B a2 d) := z1.cell 0
            have q1_1 : u4.cell? ⟨w.heap.size + 1, 1, none⟩ = some (.slice B' b2 d') := z1.cell 1
            go_wp2_with fail
            refine (HQ _ bel).mono ?_
            rintro e u5 ⟨rfl, bb⟩
            clear q0_0 q0_1 q1_0 q1_1
            replace z0 := z0.below bb z0.lt
            replace z1 := z1.below bb z1.lt
            replace bel := bel.trans (bb.mono bel.size)
            clear bb
            go_wp2_with fail
            go_ret
            exact ⟨rfl, bel⟩
      · rcases HQ with ⟨F, hF, HQ⟩ | ⟨gq, lq, HQ⟩
        · rcases hF with rfl | rfl
          all_goals
            go_enter Try.func8, Try.ntmps8
            go_wp2_with fail
            refine (alive_any _).mono ?_
            rintro e u1 ⟨rfl, bb⟩
            replace z0 := z0.below bb z0.lt
            replace z1 := z1.below bb z1.lt
            replace bel := bel.trans (bb.mono bel.size)
            clear bb
            have q0_0 : u1.cell? ⟨w.heap.size, 0, none⟩ = some (.slice A a c) := z0.cell 0
            have q0_1 : u1.cell? ⟨w.heap.size, 1, none⟩ = some (.slice A' b c') := z0.cell 1
            have q1_0 : u1.cell? ⟨w.heap.size + 1, 0, none⟩ = some (.slice B a2 d) := z1.cell 0
            have q1_1 : u1.cell? ⟨w.heap.size + 1, 1, none⟩ = some (.slice B' b2 d') := z1.cell 1
            go_wp2_with fail
            refine (HGR _).mono ?_
            rintro e u2 ⟨rfl, bb⟩
            clear q0_0 q0_1 q1_0 q1_1
            replace z0 := z0.below bb z0.lt
            replace z1 := z1.below bb z1.lt
            replace bel := bel.trans (bb.mono bel.size)
            clear bb
            have q0_0 : u2.cell? ⟨w.heap.size, 0, none⟩ = some (.slice A a c) := z0.cell 0
            have q0_1 : u2.cell? ⟨w.heap.size, 1, none⟩ = some (.slice A' b c') := z0.cell 1
            have q1_0 : u2.cell? ⟨w.heap.size + 1, 0, none⟩ = some (.slice B a2 d) := z1.cell 0
            have q1_1 : u2.cell? ⟨w.heap.size + 1, 1, none⟩ = some (.slice B' b2 d') := z1.cell 1
            go_wp2_with fail
            refine (HGS _).mono ?_
            rintro e u3 ⟨rfl, bb⟩
            clear q0_0 q0_1 q1_0 q1_1
            replace z0 := z0.below bb z0.lt
            replace z1 := z1.below bb z1.lt
            replace bel := bel.trans (bb.mono bel.size)
            clear bb
            have q0_0 : u3.cell? ⟨w.heap.size, 0, none⟩ = some (.slice A a c) := z0.cell 0
            have q0_1 : u3.cell? ⟨w.heap.size, 1, none⟩ = some (.slice A' b c') := z0.cell 1
            have q1_0 : u3.cell? ⟨w.heap.size + 1, 0, none⟩ = some (.slice B a2 d) := z1.cell 0
            have q1_1 : u3.cell? ⟨w.heap.size + 1, 1, none⟩ = some (.slice B' b2 d') := z1.cell 1
            go_wp2_with fail
            refine (HP _ bel).mono ?_
            rintro e u4 ⟨rfl, bb⟩
            clear q0_0 q0_1 q1_0 q1_1
            replace z0 := z0.below bb z0.lt
            replace z1 := z1.below bb z1.lt
            replace bel := bel.trans (bb.mono bel.size)
            clear bb
            have q0_0 : u4.cell? ⟨w.heap.size, 0, none⟩ = some (.slice A a c) := z0.cell 0
            have q0_1 : u4.cell? ⟨w.heap.size, 1, none⟩ = some (.slice A' b c') := z0.cell 1
            have q1_0 : u4.cell? ⟨w.heap.size + 1, 0, none⟩ = some (.slice B a2 d) := z1.cell 0
            have q1_1 : u4.cell? ⟨w.heap.size + 1, 1, none⟩ = some (.slice B' b2 d') := z1.cell 1
            go_wp2_with fail
            refine (HQ _ bel).mono ?_
            rintro e u5 ⟨rfl, bb⟩
            clear q0_0 q0_1 q1_0 q1_1
            replace z0 := z0.below bb z0.lt
            replace z1 := z1.below bb z1.lt
            replace bel := bel.trans (bb.mono bel.size)
            clear bb
            go_wp2_with fail
            go_ret
            exact ⟨rfl, bel⟩
        · skip
          obtain ⟨tm, htm, hend⟩ := bytes_ends m
          obtain ⟨bb, hbb⟩ : ∃ x, sameM m.all n.all m.ws n.ws = x := ⟨_, rfl⟩
          have hcmp : ((str m.bytes).toList == (str n.bytes).toList) = bb := by
            rw [ByteArray.toList_eq, ByteArray.toList_eq, str_list, str_list]
            by_cases e : m = n
            · subst e
              rw [same_self] at hbb
              rw [← hbb]; simp
            · rw [sameM_ne e] at hbb
              rw [← hbb]
              simpa using fun h => e (bytes_inj gp gq h)
          rw [hbb] at HSM
          obtain ⟨k, hk⟩ : ∃ k, m.bytes.length = k + 2 := ⟨m.bytes.length - 2, by have := congrArg List.length hend; simp at this; omega⟩
          have hz : (str m.bytes).size = k + 2 := by rw [str_size, hk]
          have hlast : ((str m.bytes).extract k (k + 2)).toList = [0, 0] := by
            rw [ByteArray.toList_eq]
            have e1 := ext_list (str m.bytes) k 2
            rw [e1, str_list, show k = m.bytes.length - 2 by omega, hend]
            rfl
          have hfirst : ∃ h : 0 < (str m.bytes).size, (str m.bytes)[0]'h = 0 := by
            refine ⟨by omega, ?_⟩
            have h1 : (str m.bytes).data.toList[0]? = some 0 := by rw [str_list, htm]; rfl
            have h2 : (str m.bytes).data.toList[0]? = some ((str m.bytes)[0]'(by omega)) := by
              rw [List.getElem?_eq_getElem (by rw [str_list, hk]; omega)]
              rfl
            rw [h1] at h2
            exact (Option.some.inj h2).symm
          obtain ⟨S, hS⟩ : ∃ S, str m.bytes = S := ⟨_, rfl⟩
          obtain ⟨T, hT⟩ : ∃ S, str n.bytes = S := ⟨_, rfl⟩
          rw [hS] at HP hcmp hz hlast hfirst
          rw [hT] at HQ hcmp
          obtain ⟨hf0, hf1⟩ := hfirst
          have hf2 : (((S[0]'hf0).toNat : Int) == 0) = true := by rw [hf1]; rfl
          have k0 : (k : Int) ≤ 400 := by omega
          clear hf1 hbb htm hend hk hS hT gp gq lp lq
          go_enter Try.func8, Try.ntmps8
          go_wp2_with fail
          refine (alive_any _).mono ?_
          rintro e u1 ⟨rfl, bb⟩
          replace z0 := z0.below bb z0.lt
          replace z1 := z1.below bb z1.lt
          replace bel := bel.trans (bb.mono bel.size)
          clear bb
          have q0_0 : u1.cell? ⟨w.heap.size, 0, none⟩ = some (.slice A a c) := z0.cell 0
          have q0_1 : u1.cell? ⟨w.heap.size, 1, none⟩ = some (.slice A' b c') := z0.cell 1
          have q1_0 : u1.cell? ⟨w.heap.size + 1, 0, none⟩ = some (.slice B a2 d) := z1.cell 0
          have q1_1 : u1.cell? ⟨w.heap.size + 1, 1, none⟩ = some (.slice B' b2 d') := z1.cell 1
          go_wp2_with fail
          refine (HGR _).mono ?_
          rintro e u2 ⟨rfl, bb⟩
          clear q0_0 q0_1 q1_0 q1_1
          replace z0 := z0.below bb z0.lt
          replace z1 := z1.below bb z1.lt
          replace bel := bel.trans (bb.mono bel.size)
          clear bb
          have q0_0 : u2.cell? ⟨w.heap.size, 0, none⟩ = some (.slice A a c) := z0.cell 0
          have q0_1 : u2.cell? ⟨w.heap.size, 1, none⟩ = some (.slice A' b c') := z0.cell 1
          have q1_0 : u2.cell? ⟨w.heap.size + 1, 0, none⟩ = some (.slice B a2 d) := z1.cell 0
          have q1_1 : u2.cell? ⟨w.heap.size + 1, 1, none⟩ = some (.slice B' b2 d') := z1.cell 1
          go_wp2_with fail
          refine (HGS _).mono ?_
          rintro e u3 ⟨rfl, bb⟩
          clear q0_0 q0_1 q1_0 q1_1
          replace z0 := z0.below bb z0.lt
          replace z1 := z1.below bb z1.lt
          replace bel := bel.trans (bb.mono bel.size)
          clear bb
          have q0_0 : u3.cell? ⟨w.heap.size, 0, none⟩ = some (.slice A a c) := z0.cell 0
          have q0_1 : u3.cell? ⟨w.heap.size, 1, none⟩ = some (.slice A' b c') := z0.cell 1
          have q1_0 : u3.cell? ⟨w.heap.size + 1, 0, none⟩ = some (.slice B a2 d) := z1.cell 0
          have q1_1 : u3.cell? ⟨w.heap.size + 1, 1, none⟩ = some (.slice B' b2 d') := z1.cell 1
          go_wp2_with fail
          refine (HP _ bel).mono ?_
          rintro e u4 ⟨rfl, bb⟩
          clear q0_0 q0_1 q1_0 q1_1
          replace z0 := z0.below bb z0.lt
          replace z1 := z1.below bb z1.lt
          replace bel := bel.trans (bb.mono bel.size)
          clear bb
          have q0_0 : u4.cell? ⟨w.heap.size, 0, none⟩ = some (.slice A a c) := z0.cell 0
          have q0_1 : u4.cell? ⟨w.heap.size, 1, none⟩ = some (.slice A' b c') := z0.cell 1
          have q1_0 : u4.cell? ⟨w.heap.size + 1, 0, none⟩ = some (.slice B a2 d) := z1.cell 0
          have q1_1 : u4.cell? ⟨w.heap.size + 1, 1, none⟩ = some (.slice B' b2 d') := z1.cell 1
          go_wp2_with fail
          refine (HQ _ bel).mono ?_
          rintro e u5 ⟨rfl, bb⟩
          clear q0_0 q0_1 q1_0 q1_1
          replace z0 := z0.below bb z0.lt
          replace z1 := z1.below bb z1.lt
          replace bel := bel.trans (bb.mono bel.size)
          clear bb
          have q0_0 : u5.cell? ⟨w.heap.size, 0, none⟩ = some (.slice A a c) := z0.cell 0
          have q0_1 : u5.cell? ⟨w.heap.size, 1, none⟩ = some (.slice A' b c') := z0.cell 1
          have q1_0 : u5.cell? ⟨w.heap.size + 1, 0, none⟩ = some (.slice B a2 d) := z1.cell 0
          have q1_1 : u5.cell? ⟨w.heap.size + 1, 1, none⟩ = some (.slice B' b2 d') := z1.cell 1
          go_wp2_with fail
          refine (HSM.out _ bel).mono ?_
          rintro e u6 ⟨rfl, nq, rfl⟩
          clear q0_0 q0_1 q1_0 q1_1
          go_wp2_with fail
          go_ret
          exact ⟨rfl, bel_drewN bel nq⟩
set_option maxRecDepth 100000 in
theorem liftedMrpduOne (os : Os) (started : os.Started) (H : Type) (enc : TypeId × Value → H) :
    ReturnsInHanded {} Try.checked os 8 .any (Rows.mrpduOneSpec.pre6 enc Try.prog Try.f8 Rows.mrpduOneRow.domain false) (Rows.mrpduOneSpec.post enc Try.prog Try.f8 false true false false) := by
  refine returnsInHanded_of_change (C := Try.checked) own started (by kernel_rfl) Try.func8
    (ChangeSpec.witness6 (enc := enc) (C := Try.checked) false ⟨#[], #[.agg #[.slice none 0 0, .slice none 0 0], .agg #[.slice none 0 0, .slice none 0 0]], []⟩ 8 (by kernel_rfl) (by kernel_rfl) (by kernel_rfl) (by kernel_rfl)) ?_
  intro W base args ds gs before hval0 hW hcnd _
  have hval : ∀ (j : Nat) t v, Try.f8.params[j]? = some t → args[j]? = some v → Value.okWide Try.prog W .any base t v := hval0
  have hW' := hW
  obtain ⟨p, q, hA0, hV, rfl, hfz, hnd⟩ := hW
  have hA : DataW.TrodAll enc Try.prog W 0 (fun _ => true) true Try.f8.params.toList args.toList ds p := hA0
  rw [Try.params8] at hA hval
  obtain ⟨v0, vs0, d0, ds0, p0, q0, hargs, rfl, rfl, h0, r0⟩ := trodAll_cons hA
  obtain ⟨v1, vs1, d1, ds1, p1, q1, rfl, rfl, rfl, h1, r1⟩ := trodAll_cons r0
  obtain ⟨rfl, rfl, rfl⟩ := trodAll_nil r1
  obtain rfl : args = #[v0, v1] := by cases args; simp_all
  obtain ⟨rfl, rfl⟩ := trodVars_none hV
  have k0 := h0
  have lt0 : ∀ x ∈ p0, x.block < W.heap.size := by obtain ⟨m, hm⟩ := k0; exact DataW.trod_lt m _ _ _ hm
  obtain ⟨A0, A0', c0, c0', m0, rfl, w0, w0', w0''⟩ := open_pdu (hval 0 25 v0 rfl rfl) h0
  have k1 := h1
  have lt1 : ∀ x ∈ p1, x.block < W.heap.size := by obtain ⟨m, hm⟩ := k1; exact DataW.trod_lt m _ _ _ hm
  obtain ⟨A1, A1', c1, c1', m1, rfl, w1, w1', w1''⟩ := open_pdu (hval 1 25 v1 rfl rfl) h1
  clear hA0 hval0
  refine (walkMrpduOne A0 A0' c0 c0' m0 A1 A1' c1 c1' m1 W w0 w0' w0'' w1 w1' w1'').mono fun e W' ⟨he, bel⟩ => ?_
  subst he
  exact ⟨_, rfl, _, _, _, [], _, [], hW', trodAll_mk1 (shut_bool Try.underlying4 _), (trodAll_cons_mk (Below.trod laidOut (by kernel_rfl) (of_decide_eq_true (by kernel_rfl)) k0 bel lt0) (trodAll_cons_mk (Below.trod laidOut (by kernel_rfl) (of_decide_eq_true (by kernel_rfl)) k1 bel lt1) trodAll_mk0)), rfl, bel.frame _, fun h => by cases h⟩

theorem overMrpduOne : Rows.mrpduOneRow.holds Try.pinned (OpenSpec.ofChange Rows.mrpduOneSpec) :=
  OpenClaim.holds_of_wide 8 Try.f8 rfl rfl rfl rfl rfl rfl rfl ⟨rfl, rfl, rfl, rfl, rfl⟩ rfl rfl rfl rfl rfl (by kernel_rfl) Try.func8 (by kernel_rfl)
    (of_decide_eq_true (by kernel_rfl)) (by unfold Func.isWrapper; first | (rw [if_pos (by decide +kernel)]; kernel_rfl) | (rw [if_neg (by decide +kernel)]; exact ⟨rfl, rfl⟩))
    (fun os started H enc _ => liftedMrpduOne os started H enc)

/-- The statement. -/
theorem mrpduOne_holds : Rows.MrpduOneSaid := overMrpduOne

#print axioms mrpduOne_holds
end Go.Proofs.Ytipieipeidedhaa
