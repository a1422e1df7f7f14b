/- OctetReads: a reader answers what the document says, of any text, whatever is asked; a nil one. No condition. -/
import Derived.Test.YtpijnbcibmjnpaaRref
import Derived.Deep.DeepCutAuto
namespace Go.Proofs.Ytpijnbcibmjnpaa
open Go.ChangeShapes Go.WideShapes Go.ChangeAt Go.RowKit
open Go.ChangeMaps (open_string shut_string)

set_option maxHeartbeats 400000 in
theorem get_nil (n : Int) (w : World) :
    Calls Try.prog 14 #[.pointer none, .int .i64 n] w fun e w' => e = .returned (.int .i64 0) ∧ w = w' := by
  go_enter Try.func14, Try.ntmps14
  go_wp2_with fail
  refine (near_any _ _ _).mono ?_
  rintro e w' ⟨rfl, rfl⟩
  go_wp2_with fail
  refine (take_nil _ _).mono ?_
  rintro e w' ⟨rfl, rfl⟩
  go_wp2_with fail
  go_loop [6, 14] (fun t i => t = .int .i64 0 ∧ i = .int .i64 0) (fun _ i => 0)
  case atStart => exact ⟨rfl, rfl⟩
  case round =>
    obtain ⟨rfl, rfl⟩ := hrel
    go_wp2
    go_ret
    exact ⟨rfl, rfl⟩

theorem left_q (g : Nat) (r : RdS) (w : World) (n : Nat) (h : IsR w g r) (hr : r.ok) : Calls Try.prog 19 #[.pointer (some ⟨g, 0, none⟩)] (w.drewN n) fun e w'' => e = .returned (.int .i64 r.left) ∧ ∃ m, w'' = w.drewN m :=
  Calls.quiet_of (left_any g r _ (Blk.drewN h n) hr)
theorem mleft_q (g : Nat) (r : RdS) (w : World) (n : Nat) (h : IsM w g r) (hr : r.ok) : Calls Try.prog 20 #[.pointer (some ⟨g, 0, none⟩)] (w.drewN n) fun e w'' => e = .returned (.int .i64 r.left) ∧ ∃ m, w'' = w.drewN m :=
  Calls.quiet_of (mleft_any g r _ (Blk.drewN h n) hr)
theorem end_q (g : Nat) (r : RdS) (w : World) (n : Nat) (h : IsR w g r) (hr : r.ok) (e : Int) (he : r.end_ = e) : Calls Try.prog 22 #[.pointer (some ⟨g, 0, none⟩)] (w.drewN n) fun x w'' => x = .returned (.int .i64 e) ∧ ∃ m, w'' = w.drewN m := by
  subst he
  exact Calls.quiet_of (end_any g r _ (Blk.drewN h n) hr)
theorem fault_q (g : Nat) (r : RdS) (w : World) (n : Nat) (h : IsR w g r) (e : Int) (he : r.badAt = e) : Calls Try.prog 21 #[.pointer (some ⟨g, 0, none⟩)] (w.drewN n) fun x w'' => x = .returned (.int .i64 e) ∧ ∃ m, w'' = w.drewN m := by
  subst he
  exact Calls.quiet_of_same ((fault_any g r _ (Blk.drewN h n)).mono fun _ _ ⟨a, b⟩ => ⟨a, b.symm⟩)

theorem take_s (r : RdS) (n : Int) : (r.take n).s = r.s := by unfold RdS.take; split <;> rfl
theorem take_at (r : RdS) (n : Int) (s : ByteArray) (hs : r.s = s) (h : r.at_ ≤ s.size) : (r.take n).at_ ≤ s.size := by
  unfold RdS.take
  split
  · rename_i hc
    simp only [RdS.can, Bool.and_eq_true, decide_eq_true_eq] at hc
    subst hs
    show r.at_ + n.toNat ≤ r.s.size
    omega
  · exact h

set_option maxRecDepth 100000 in
set_option maxHeartbeats 20000000 in
theorem walkOctetReads (s0 : ByteArray) (a1 : Option Addr) (len1 cap1 : Nat) (ks ns : Nat → Int) (w : World) (_h0 : s0.size ≤ maxLen) (h1 : IsAsks w a1 len1 ks ns) :
    Calls Try.prog 4 #[.string s0, .slice a1 len1 cap1] w fun e w' => e = .returned (.bool true) ∧ Below w.heap.size w w' := by
  by_cases hg : s0.size ≤ 1024 ∧ len1 ≤ 60
  · obtain ⟨g1, g2⟩ := hg
    have d1 : decide ((1024 : Int) < (s0.size : Int)) = false := by simp; omega
    have d2 : decide ((60 : Int) < (len1 : Int)) = false := by simp; omega
    go_enter Try.func4, Try.ntmps4
    go_wp2_with fail
    refine (alive_any _).mono ?_
    rintro e w1 ⟨rfl, b1⟩
    go_wp2_with fail
    refine (open_any _ _).mono ?_
    rintro e w2 ⟨rfl, r2, b2⟩
    have hw2 := b1.trans (b2.mono b1.size)
    have hB : w.heap.size ≤ w1.heap.size := b1.size
    have hB2 : w1.heap.size < w2.heap.size := Blk.lt r2
    clear b1 b2
    go_wp2_with fail
    go_loopw [28] (fun i wr => ∃ (k : Nat) (r : RdS), k ≤ len1 ∧ i = .int .i64 k ∧ r.s = s0 ∧ r.at_ ≤ s0.size ∧ IsR wr w1.heap.size r ∧ IsM wr w2.heap.size r ∧ Below w.heap.size w wr) (fun i _ => len1 - (intOf i).toNat)
    case atStart => exact ⟨0, ⟨s0, 0, false⟩, Nat.zero_le _, rfl, rfl, Nat.zero_le _, Blk.alloc r2 _, Blk.new _ _ _, hw2.alloc hw2.size _⟩
    case round =>
      obtain ⟨k, r, hk, rfl, hrs, hra, hr, hm, hw⟩ := hrel
      clear r2 hw2
      by_cases hlt : k < len1
      · obtain ⟨b, off, rfl, hbl, hc0, hc1, _, hnw⟩ := h1 k hlt
        have hnk := (wf_i64 hnw).2
        have c0 : wr.cell? ⟨b, off + k * 2, none⟩ = some (.int .i64 (ks k)) := (hw.cell (p := ⟨b, off + k * 2, none⟩) hbl).trans hc0
        have c1 : wr.cell? ⟨b, off + k * 2 + 1, none⟩ = some (.int .i64 (ns k)) := (hw.cell (p := ⟨b, off + k * 2 + 1, none⟩) hbl).trans hc1
        generalize hks : ks k = kk at *
        generalize hns : ns k = nk at *
        have hlt2 : w2.heap.size < wr.heap.size := Blk.lt hm
        have hok : r.ok := ⟨by rw [hrs]; exact hra, by rw [hrs]; omega⟩
        have HRS := Lib.hid hrs
        clear hc0 hc1 hks hns hnw hrs
        by_cases hk0 : kk = 0
        · subst hk0
          have hwz0 := hw.alloc hw.size (.cells #[.int .i64 0, .int .i64 nk] 40)
          have hr0 : IsR (wr.alloc (.cells #[.int .i64 0, .int .i64 nk] 40)).drew w1.heap.size r := Blk.alloc hr _
          have hm0 : IsM (wr.alloc (.cells #[.int .i64 0, .int .i64 nk] 40)).drew w2.heap.size r := Blk.alloc hm _
          have hb0 := Blk.drew (Blk.new wr 40 #[.int .i64 0, .int .i64 nk])
          have k0 : (wr.alloc (.cells #[.int .i64 0, .int .i64 nk] 40)).drew.cell? ⟨wr.heap.size, 1, none⟩ = some (.int .i64 nk) := hb0.cell 1
          have HN1 := Lib.hid hB2
          have HN2 := Lib.hid hlt2
          have HW0 := Lib.hid (Below.drew hwz0)
          have HB3 := Lib.hid (Nat.le_trans hB (Nat.le_of_lt hB2))
          have hraz := hra
          clear hr hm hw hwz0
          go_wp2_with fail
          clear c0 c1
          go_region_law ((first
            | (go_simp; go_at_call 14; (with_reducible refine (get_any w1.heap.size r nk _ hr0 hok).mono ?_); rintro e wa ⟨rfl, ha, ta⟩; have hma : IsM wa w2.heap.size r := Blk.touch (w := (wr.alloc (.cells #[.int .i64 0, .int .i64 nk] 40)).drew) hm0 ta (by have := HN1.out; omega); have hba := hb0.touch ta (by have := HN1.out; have := HN2.out; omega); have ka : wa.cell? ⟨wr.heap.size, 1, none⟩ = some (.int .i64 nk) := hba.cell 1; have hwa := HW0.out.trans (ta.below HW0.out.size (by rintro j rfl; exact hB)))
            | (go_simp; go_at_call 14; (with_reducible refine (get_any w1.heap.size r nk _ hrb hok).mono ?_); rintro e wz ⟨rfl, hrz, tz⟩; have hmz : IsM wz w2.heap.size (r.take (near nk 7)) := Blk.touch (w := wb) hb tz (by have := HN1.out; omega); have hwz := hwb.trans (tz.below hwb.size (by rintro j rfl; exact hB)))
            | (go_simp; go_at_call 15; (with_reducible refine (mget_any w2.heap.size r nk _ hm0 hok).mono ?_); rintro e wb ⟨rfl, hb, tb⟩; have hrb : IsR wb w1.heap.size r := Blk.touch (w := (wr.alloc (.cells #[.int .i64 0, .int .i64 nk] 40)).drew) hr0 tb (by have := HN1.out; omega); have hbb := hb0.touch tb (by have := HN2.out; omega); have kb : wb.cell? ⟨wr.heap.size, 1, none⟩ = some (.int .i64 nk) := hbb.cell 1; have hwb := HW0.out.trans (tb.below HW0.out.size (by rintro j rfl; exact HB3.out)))
            | (go_simp; go_at_call 15; (with_reducible refine (mget_any w2.heap.size r nk _ hma hok).mono ?_); rintro e wz ⟨rfl, hmz, tz⟩; have hrz : IsR wz w1.heap.size (r.take (near nk 7)) := Blk.touch (w := wa) ha tz (by have := HN1.out; omega); have hwz := hwa.trans (tz.below hwa.size (by rintro j rfl; exact HB3.out)))))
          all_goals
            have hsz : (r.take (near nk 7)).s = s0 := (take_s _ _).trans HRS.out
            have haz : (r.take (near nk 7)).at_ ≤ s0.size := take_at r _ s0 HRS.out hraz
            generalize r.take (near nk 7) = rz at *
            clear HRS hraz hok hr0 hm0 hb0 k0 HW0 HN1 HN2 HB3
            obtain ⟨sz, az, bz⟩ := rz
            simp only at hsz haz
            subst hsz
            have hokz : (RdS.mk sz az bz).ok := ⟨haz, by show sz.size ≤ _; omega⟩
            have m1 := IsM.c1 hmz
            have m2 := IsM.c2 hmz
            simp only [RdS.badAt] at m1 m2
            cases bz
            · simp only [Bool.false_eq_true, ite_false] at m2
              by_cases haq : az = sz.size
              · have hE := fun n => end_q w1.heap.size ⟨sz, az, false⟩ wz n hrz hokz 0 (by simp [RdS.end_, haq])
                have hF := fun n => fault_q w1.heap.size ⟨sz, az, false⟩ wz n hrz (-1) rfl
                have hL := fun n => left_q w1.heap.size ⟨sz, az, false⟩ wz n hrz hokz
                have hM := fun n => mleft_q w2.heap.size ⟨sz, az, false⟩ wz n hmz hokz
                have q1 : ((az : Int) == (sz.size : Int)) = true := by rw [haq]; exact beq_self_eq_true _
                have HE := Lib.hid hE
                have HF := Lib.hid hF
                have HL := Lib.hid hL
                have HM := Lib.hid hM
                clear hE hF hL hM haq
                go_wp2_with fail
                go_quiet ((first | (go_at_call 19; exact HL.out _) | (go_at_call 20; exact HM.out _) | (go_at_call 21; exact HF.out _) | (go_at_call 22; exact HE.out _)))
                go_wp2
                go_roundw
                case rel => exact ⟨k + 1, ⟨sz, az, false⟩, by omega, by go_num, rfl, haz, Blk.drewN hrz _, Blk.drewN hmz _, bel_drewN hwz _⟩
                case measure => simp [intOf]; omega
              · have hE := fun n => end_q w1.heap.size ⟨sz, az, false⟩ wz n hrz hokz 4 (by simp [RdS.end_]; omega)
                have hF := fun n => fault_q w1.heap.size ⟨sz, az, false⟩ wz n hrz (-1) rfl
                have hL := fun n => left_q w1.heap.size ⟨sz, az, false⟩ wz n hrz hokz
                have hM := fun n => mleft_q w2.heap.size ⟨sz, az, false⟩ wz n hmz hokz
                have q1 : ((az : Int) == (sz.size : Int)) = false := by simp; omega
                have HE := Lib.hid hE
                have HF := Lib.hid hF
                have HL := Lib.hid hL
                have HM := Lib.hid hM
                clear hE hF hL hM haq
                go_wp2_with fail
                go_quiet ((first | (go_at_call 19; exact HL.out _) | (go_at_call 20; exact HM.out _) | (go_at_call 21; exact HF.out _) | (go_at_call 22; exact HE.out _)))
                go_wp2
                go_roundw
                case rel => exact ⟨k + 1, ⟨sz, az, false⟩, by omega, by go_num, rfl, haz, Blk.drewN hrz _, Blk.drewN hmz _, bel_drewN hwz _⟩
                case measure => simp [intOf]; omega
            · simp only [ite_true] at m2
              have hE := fun n => end_q w1.heap.size ⟨sz, az, true⟩ wz n hrz hokz 4 (by simp [RdS.end_])
              have hF := fun n => fault_q w1.heap.size ⟨sz, az, true⟩ wz n hrz (az : Int) rfl
              have hL := fun n => left_q w1.heap.size ⟨sz, az, true⟩ wz n hrz hokz
              have hM := fun n => mleft_q w2.heap.size ⟨sz, az, true⟩ wz n hmz hokz
              have q1 : decide ((az : Int) < 0) = false := by simp
              have HE := Lib.hid hE
              have HF := Lib.hid hF
              have HL := Lib.hid hL
              have HM := Lib.hid hM
              clear hE hF hL hM m1
              go_wp2_with fail
              go_quiet ((first | (go_at_call 19; exact HL.out _) | (go_at_call 20; exact HM.out _) | (go_at_call 21; exact HF.out _) | (go_at_call 22; exact HE.out _)))
              go_wp2
              go_roundw
              case rel => exact ⟨k + 1, ⟨sz, az, true⟩, by omega, by go_num, rfl, haz, Blk.drewN hrz _, Blk.drewN hmz _, bel_drewN hwz _⟩
              case measure => simp [intOf]; omega
        · by_cases hk1 : kk = 1
          · subst hk1
            have hwz0 := hw.alloc hw.size (.cells #[.int .i64 1, .int .i64 nk] 40)
            have hr0 : IsR (wr.alloc (.cells #[.int .i64 1, .int .i64 nk] 40)).drew w1.heap.size r := Blk.alloc hr _
            have hm0 : IsM (wr.alloc (.cells #[.int .i64 1, .int .i64 nk] 40)).drew w2.heap.size r := Blk.alloc hm _
            have hb0 := Blk.drew (Blk.new wr 40 #[.int .i64 1, .int .i64 nk])
            have k0 : (wr.alloc (.cells #[.int .i64 1, .int .i64 nk] 40)).drew.cell? ⟨wr.heap.size, 1, none⟩ = some (.int .i64 nk) := hb0.cell 1
            have HN1 := Lib.hid hB2
            have HN2 := Lib.hid hlt2
            have HW0 := Lib.hid (Below.drew hwz0)
            have HB3 := Lib.hid (Nat.le_trans hB (Nat.le_of_lt hB2))
            have hraz := hra
            clear hr hm hw hwz0
            go_wp2_with fail
            clear c0 c1
            go_region_law ((first
              | (go_simp; go_at_call 16; (with_reducible refine (raw_any w1.heap.size r nk _ hr0 hok hnk).mono ?_); rintro e wa ⟨rfl, ha, ta⟩; have hma : IsM wa w2.heap.size r := Blk.touch (w := (wr.alloc (.cells #[.int .i64 1, .int .i64 nk] 40)).drew) hm0 ta (by have := HN1.out; omega); have hba := hb0.touch ta (by have := HN1.out; have := HN2.out; omega); have ka : wa.cell? ⟨wr.heap.size, 1, none⟩ = some (.int .i64 nk) := hba.cell 1; have hwa := HW0.out.trans (ta.below HW0.out.size (by rintro j rfl; exact hB)))
              | (go_simp; go_at_call 16; (with_reducible refine (raw_any w1.heap.size r nk _ hrb hok hnk).mono ?_); rintro e wz ⟨rfl, hrz, tz⟩; have hmz : IsM wz w2.heap.size (r.take nk) := Blk.touch (w := wb) hb tz (by have := HN1.out; omega); have hwz := hwb.trans (tz.below hwb.size (by rintro j rfl; exact hB)))
              | (go_simp; go_at_call 17; (with_reducible refine (mraw_any w2.heap.size r nk _ hm0 hok hnk).mono ?_); rintro e wb ⟨rfl, hb, tb⟩; have hrb : IsR wb w1.heap.size r := Blk.touch (w := (wr.alloc (.cells #[.int .i64 1, .int .i64 nk] 40)).drew) hr0 tb (by have := HN1.out; omega); have hbb := hb0.touch tb (by have := HN2.out; omega); have kb : wb.cell? ⟨wr.heap.size, 1, none⟩ = some (.int .i64 nk) := hbb.cell 1; have hwb := HW0.out.trans (tb.below HW0.out.size (by rintro j rfl; exact HB3.out)))
              | (go_simp; go_at_call 17; (with_reducible refine (mraw_any w2.heap.size r nk _ hma hok hnk).mono ?_); rintro e wz ⟨rfl, hmz, tz⟩; have hrz : IsR wz w1.heap.size (r.take nk) := Blk.touch (w := wa) ha tz (by have := HN1.out; omega); have hwz := hwa.trans (tz.below hwa.size (by rintro j rfl; exact HB3.out)))))
            all_goals
              have hsz : (r.take nk).s = s0 := (take_s _ _).trans HRS.out
              have haz : (r.take nk).at_ ≤ s0.size := take_at r _ s0 HRS.out hraz
              generalize r.take nk = rz at *
              clear HRS hraz hok hr0 hm0 hb0 k0 HW0 HN1 HN2 HB3
              obtain ⟨sz, az, bz⟩ := rz
              simp only at hsz haz
              subst hsz
              have hokz : (RdS.mk sz az bz).ok := ⟨haz, by show sz.size ≤ _; omega⟩
              have m1 := IsM.c1 hmz
              have m2 := IsM.c2 hmz
              simp only [RdS.badAt] at m1 m2
              cases bz
              · simp only [Bool.false_eq_true, ite_false] at m2
                by_cases haq : az = sz.size
                · have hE := fun n => end_q w1.heap.size ⟨sz, az, false⟩ wz n hrz hokz 0 (by simp [RdS.end_, haq])
                  have hF := fun n => fault_q w1.heap.size ⟨sz, az, false⟩ wz n hrz (-1) rfl
                  have hL := fun n => left_q w1.heap.size ⟨sz, az, false⟩ wz n hrz hokz
                  have hM := fun n => mleft_q w2.heap.size ⟨sz, az, false⟩ wz n hmz hokz
                  have q1 : ((az : Int) == (sz.size : Int)) = true := by rw [haq]; exact beq_self_eq_true _
                  have HE := Lib.hid hE
                  have HF := Lib.hid hF
                  have HL := Lib.hid hL
                  have HM := Lib.hid hM
                  clear hE hF hL hM haq
                  go_wp2_with fail
                  go_quiet ((first | (go_at_call 19; exact HL.out _) | (go_at_call 20; exact HM.out _) | (go_at_call 21; exact HF.out _) | (go_at_call 22; exact HE.out _)))
                  go_wp2
                  go_roundw
                  case rel => exact ⟨k + 1, ⟨sz, az, false⟩, by omega, by go_num, rfl, haz, Blk.drewN hrz _, Blk.drewN hmz _, bel_drewN hwz _⟩
                  case measure => simp [intOf]; omega
                · have hE := fun n => end_q w1.heap.size ⟨sz, az, false⟩ wz n hrz hokz 4 (by simp [RdS.end_]; omega)
                  have hF := fun n => fault_q w1.heap.size ⟨sz, az, false⟩ wz n hrz (-1) rfl
                  have hL := fun n => left_q w1.heap.size ⟨sz, az, false⟩ wz n hrz hokz
                  have hM := fun n => mleft_q w2.heap.size ⟨sz, az, false⟩ wz n hmz hokz
                  have q1 : ((az : Int) == (sz.size : Int)) = false := by simp; omega
                  have HE := Lib.hid hE
                  have HF := Lib.hid hF
                  have HL := Lib.hid hL
                  have HM := Lib.hid hM
                  clear hE hF hL hM haq
                  go_wp2_with fail
                  go_quiet ((first | (go_at_call 19; exact HL.out _) | (go_at_call 20; exact HM.out _) | (go_at_call 21; exact HF.out _) | (go_at_call 22; exact HE.out _)))
                  go_wp2
                  go_roundw
                  case rel => exact ⟨k + 1, ⟨sz, az, false⟩, by omega, by go_num, rfl, haz, Blk.drewN hrz _, Blk.drewN hmz _, bel_drewN hwz _⟩
                  case measure => simp [intOf]; omega
              · simp only [ite_true] at m2
                have hE := fun n => end_q w1.heap.size ⟨sz, az, true⟩ wz n hrz hokz 4 (by simp [RdS.end_])
                have hF := fun n => fault_q w1.heap.size ⟨sz, az, true⟩ wz n hrz (az : Int) rfl
                have hL := fun n => left_q w1.heap.size ⟨sz, az, true⟩ wz n hrz hokz
                have hM := fun n => mleft_q w2.heap.size ⟨sz, az, true⟩ wz n hmz hokz
                have q1 : decide ((az : Int) < 0) = false := by simp
                have HE := Lib.hid hE
                have HF := Lib.hid hF
                have HL := Lib.hid hL
                have HM := Lib.hid hM
                clear hE hF hL hM m1
                go_wp2_with fail
                go_quiet ((first | (go_at_call 19; exact HL.out _) | (go_at_call 20; exact HM.out _) | (go_at_call 21; exact HF.out _) | (go_at_call 22; exact HE.out _)))
                go_wp2
                go_roundw
                case rel => exact ⟨k + 1, ⟨sz, az, true⟩, by omega, by go_num, rfl, haz, Blk.drewN hrz _, Blk.drewN hmz _, bel_drewN hwz _⟩
                case measure => simp [intOf]; omega
          · by_cases hk2 : kk = 2
            · subst hk2
              cases hrb : r.bad
              · have hwz0 := hw.alloc hw.size (.cells #[.int .i64 2, .int .i64 nk] 40)
                have hr0 : IsR (wr.alloc (.cells #[.int .i64 2, .int .i64 nk] 40)) w1.heap.size r := Blk.alloc hr _
                have hm0 : IsM (wr.alloc (.cells #[.int .i64 2, .int .i64 nk] 40)) w2.heap.size r := Blk.alloc hm _
                have hraz := hra
                clear hr hm hw
                go_wp2_with fail
                clear c0 c1
                refine (fail_any w1.heap.size r _ hr0).mono ?_
                rintro e wa ⟨rfl, ha, ta⟩
                have hma : IsM wa w2.heap.size r := Blk.touch (w := wr.alloc (.cells #[.int .i64 2, .int .i64 nk] 40)) hm0 ta (by omega)
                have hwa := hwz0.trans (ta.below hwz0.size (by rintro j rfl; exact hB))
                have m1 := IsM.c1 hma
                have m2 := IsM.c2 hma
                have hq : r.badAt = -1 := by simp [RdS.badAt, hrb]
                rw [hq] at m2
                have f2 := Blk.frozen hma 2
                have hmz : IsM (wa.setCell ⟨w2.heap.size, 2, none⟩ (.int .i64 (r.at_ : Int))) w2.heap.size r.fail := Blk.set_ hma 2 (.int .i64 (r.at_ : Int))
                have hrz : IsR (wa.setCell ⟨w2.heap.size, 2, none⟩ (.int .i64 (r.at_ : Int))) w1.heap.size r.fail := Blk.far ha (by show w1.heap.size ≠ w2.heap.size; omega) _
                have hwz := hwa.setCell (p := ⟨w2.heap.size, 2, none⟩) (by show w.heap.size ≤ w2.heap.size; omega) (.int .i64 (r.at_ : Int))
                have hsz : r.fail.s = s0 := HRS.out
                have haz : r.fail.at_ ≤ s0.size := hraz
                clear hrb hq hr0 hm0 ta hwz0 hok HRS
                go_upto_region 20 with (fail)
                clear m1 m2 f2 ha hma hwa hraz hra
                generalize wa.setCell ⟨w2.heap.size, 2, none⟩ (.int .i64 (r.at_ : Int)) = wz at *
                generalize r.fail = rz at *
                obtain ⟨sz, az, bz⟩ := rz
                simp only at hsz haz
                subst hsz
                have hokz : (RdS.mk sz az bz).ok := ⟨haz, by show sz.size ≤ _; omega⟩
                have m1 := IsM.c1 hmz
                have m2 := IsM.c2 hmz
                simp only [RdS.badAt] at m1 m2
                cases bz
                · simp only [Bool.false_eq_true, ite_false] at m2
                  by_cases haq : az = sz.size
                  · have hE := fun n => end_q w1.heap.size ⟨sz, az, false⟩ wz n hrz hokz 0 (by simp [RdS.end_, haq])
                    have hF := fun n => fault_q w1.heap.size ⟨sz, az, false⟩ wz n hrz (-1) rfl
                    have hL := fun n => left_q w1.heap.size ⟨sz, az, false⟩ wz n hrz hokz
                    have hM := fun n => mleft_q w2.heap.size ⟨sz, az, false⟩ wz n hmz hokz
                    have q1 : ((az : Int) == (sz.size : Int)) = true := by rw [haq]; exact beq_self_eq_true _
                    have HE := Lib.hid hE
                    have HF := Lib.hid hF
                    have HL := Lib.hid hL
                    have HM := Lib.hid hM
                    clear hE hF hL hM haq
                    go_wp2_with fail
                    go_quiet ((first | (go_at_call 19; exact HL.out _) | (go_at_call 20; exact HM.out _) | (go_at_call 21; exact HF.out _) | (go_at_call 22; exact HE.out _)))
                    go_wp2
                    go_roundw
                    case rel => exact ⟨k + 1, ⟨sz, az, false⟩, by omega, by go_num, rfl, haz, Blk.drewN hrz _, Blk.drewN hmz _, bel_drewN hwz _⟩
                    case measure => simp [intOf]; omega
                  · have hE := fun n => end_q w1.heap.size ⟨sz, az, false⟩ wz n hrz hokz 4 (by simp [RdS.end_]; omega)
                    have hF := fun n => fault_q w1.heap.size ⟨sz, az, false⟩ wz n hrz (-1) rfl
                    have hL := fun n => left_q w1.heap.size ⟨sz, az, false⟩ wz n hrz hokz
                    have hM := fun n => mleft_q w2.heap.size ⟨sz, az, false⟩ wz n hmz hokz
                    have q1 : ((az : Int) == (sz.size : Int)) = false := by simp; omega
                    have HE := Lib.hid hE
                    have HF := Lib.hid hF
                    have HL := Lib.hid hL
                    have HM := Lib.hid hM
                    clear hE hF hL hM haq
                    go_wp2_with fail
                    go_quiet ((first | (go_at_call 19; exact HL.out _) | (go_at_call 20; exact HM.out _) | (go_at_call 21; exact HF.out _) | (go_at_call 22; exact HE.out _)))
                    go_wp2
                    go_roundw
                    case rel => exact ⟨k + 1, ⟨sz, az, false⟩, by omega, by go_num, rfl, haz, Blk.drewN hrz _, Blk.drewN hmz _, bel_drewN hwz _⟩
                    case measure => simp [intOf]; omega
                · simp only [ite_true] at m2
                  have hE := fun n => end_q w1.heap.size ⟨sz, az, true⟩ wz n hrz hokz 4 (by simp [RdS.end_])
                  have hF := fun n => fault_q w1.heap.size ⟨sz, az, true⟩ wz n hrz (az : Int) rfl
                  have hL := fun n => left_q w1.heap.size ⟨sz, az, true⟩ wz n hrz hokz
                  have hM := fun n => mleft_q w2.heap.size ⟨sz, az, true⟩ wz n hmz hokz
                  have q1 : decide ((az : Int) < 0) = false := by simp
                  have HE := Lib.hid hE
                  have HF := Lib.hid hF
                  have HL := Lib.hid hL
                  have HM := Lib.hid hM
                  clear hE hF hL hM m1
                  go_wp2_with fail
                  go_quiet ((first | (go_at_call 19; exact HL.out _) | (go_at_call 20; exact HM.out _) | (go_at_call 21; exact HF.out _) | (go_at_call 22; exact HE.out _)))
                  go_wp2
                  go_roundw
                  case rel => exact ⟨k + 1, ⟨sz, az, true⟩, by omega, by go_num, rfl, haz, Blk.drewN hrz _, Blk.drewN hmz _, bel_drewN hwz _⟩
                  case measure => simp [intOf]; omega
              · have hwz0 := hw.alloc hw.size (.cells #[.int .i64 2, .int .i64 nk] 40)
                have hr0 : IsR (wr.alloc (.cells #[.int .i64 2, .int .i64 nk] 40)) w1.heap.size r := Blk.alloc hr _
                have hm0 : IsM (wr.alloc (.cells #[.int .i64 2, .int .i64 nk] 40)) w2.heap.size r := Blk.alloc hm _
                have hraz := hra
                clear hr hm hw
                go_wp2_with fail
                clear c0 c1
                refine (fail_any w1.heap.size r _ hr0).mono ?_
                rintro e wa ⟨rfl, ha, ta⟩
                have hma : IsM wa w2.heap.size r := Blk.touch (w := wr.alloc (.cells #[.int .i64 2, .int .i64 nk] 40)) hm0 ta (by omega)
                have hwa := hwz0.trans (ta.below hwz0.size (by rintro j rfl; exact hB))
                have m1 := IsM.c1 hma
                have m2 := IsM.c2 hma
                have hq : r.badAt = (r.at_ : Int) := by simp [RdS.badAt, hrb]
                rw [hq] at m2
                have hff : r.fail = r := by obtain ⟨s, a, b⟩ := r; simp only at hrb; subst hrb; rfl
                rw [hff] at ha
                have hsz := HRS.out
                clear hrb hq hff hr0 hm0 ta hwz0 hok HRS
                have hq0 : decide ((r.at_ : Int) < 0) = false := by simp
                go_upto_region 20 with (fail)
                clear m1 m2 hq0
                have haz := hraz
                have hrz := ha
                have hmz := hma
                have hwz := hwa
                generalize wa = wz at *
                clear ha hma hwa hraz hra
                obtain ⟨sz, az, bz⟩ := r
                simp only at hsz haz
                subst hsz
                have hokz : (RdS.mk sz az bz).ok := ⟨haz, by show sz.size ≤ _; omega⟩
                have m1 := IsM.c1 hmz
                have m2 := IsM.c2 hmz
                simp only [RdS.badAt] at m1 m2
                cases bz
                · simp only [Bool.false_eq_true, ite_false] at m2
                  by_cases haq : az = sz.size
                  · have hE := fun n => end_q w1.heap.size ⟨sz, az, false⟩ wz n hrz hokz 0 (by simp [RdS.end_, haq])
                    have hF := fun n => fault_q w1.heap.size ⟨sz, az, false⟩ wz n hrz (-1) rfl
                    have hL := fun n => left_q w1.heap.size ⟨sz, az, false⟩ wz n hrz hokz
                    have hM := fun n => mleft_q w2.heap.size ⟨sz, az, false⟩ wz n hmz hokz
                    have q1 : ((az : Int) == (sz.size : Int)) = true := by rw [haq]; exact beq_self_eq_true _
                    have HE := Lib.hid hE
                    have HF := Lib.hid hF
                    have HL := Lib.hid hL
                    have HM := Lib.hid hM
                    clear hE hF hL hM haq
                    go_wp2_with fail
                    go_quiet ((first | (go_at_call 19; exact HL.out _) | (go_at_call 20; exact HM.out _) | (go_at_call 21; exact HF.out _) | (go_at_call 22; exact HE.out _)))
                    go_wp2
                    go_roundw
                    case rel => exact ⟨k + 1, ⟨sz, az, false⟩, by omega, by go_num, rfl, haz, Blk.drewN hrz _, Blk.drewN hmz _, bel_drewN hwz _⟩
                    case measure => simp [intOf]; omega
                  · have hE := fun n => end_q w1.heap.size ⟨sz, az, false⟩ wz n hrz hokz 4 (by simp [RdS.end_]; omega)
                    have hF := fun n => fault_q w1.heap.size ⟨sz, az, false⟩ wz n hrz (-1) rfl
                    have hL := fun n => left_q w1.heap.size ⟨sz, az, false⟩ wz n hrz hokz
                    have hM := fun n => mleft_q w2.heap.size ⟨sz, az, false⟩ wz n hmz hokz
                    have q1 : ((az : Int) == (sz.size : Int)) = false := by simp; omega
                    have HE := Lib.hid hE
                    have HF := Lib.hid hF
                    have HL := Lib.hid hL
                    have HM := Lib.hid hM
                    clear hE hF hL hM haq
                    go_wp2_with fail
                    go_quiet ((first | (go_at_call 19; exact HL.out _) | (go_at_call 20; exact HM.out _) | (go_at_call 21; exact HF.out _) | (go_at_call 22; exact HE.out _)))
                    go_wp2
                    go_roundw
                    case rel => exact ⟨k + 1, ⟨sz, az, false⟩, by omega, by go_num, rfl, haz, Blk.drewN hrz _, Blk.drewN hmz _, bel_drewN hwz _⟩
                    case measure => simp [intOf]; omega
                · simp only [ite_true] at m2
                  have hE := fun n => end_q w1.heap.size ⟨sz, az, true⟩ wz n hrz hokz 4 (by simp [RdS.end_])
                  have hF := fun n => fault_q w1.heap.size ⟨sz, az, true⟩ wz n hrz (az : Int) rfl
                  have hL := fun n => left_q w1.heap.size ⟨sz, az, true⟩ wz n hrz hokz
                  have hM := fun n => mleft_q w2.heap.size ⟨sz, az, true⟩ wz n hmz hokz
                  have q1 : decide ((az : Int) < 0) = false := by simp
                  have HE := Lib.hid hE
                  have HF := Lib.hid hF
                  have HL := Lib.hid hL
                  have HM := Lib.hid hM
                  clear hE hF hL hM m1
                  go_wp2_with fail
                  go_quiet ((first | (go_at_call 19; exact HL.out _) | (go_at_call 20; exact HM.out _) | (go_at_call 21; exact HF.out _) | (go_at_call 22; exact HE.out _)))
                  go_wp2
                  go_roundw
                  case rel => exact ⟨k + 1, ⟨sz, az, true⟩, by omega, by go_num, rfl, haz, Blk.drewN hrz _, Blk.drewN hmz _, bel_drewN hwz _⟩
                  case measure => simp [intOf]; omega
            · have q0 : (kk == 0) = false := by simpa using hk0
              have q1' : (kk == 1) = false := by simpa using hk1
              have q2 : (kk == 2) = false := by simpa using hk2
              have hwz := hw.alloc hw.size (.cells #[.int .i64 kk, .int .i64 nk] 40)
              have hrz : IsR (wr.alloc (.cells #[.int .i64 kk, .int .i64 nk] 40)) w1.heap.size r := Blk.alloc hr _
              have hmz : IsM (wr.alloc (.cells #[.int .i64 kk, .int .i64 nk] 40)) w2.heap.size r := Blk.alloc hm _
              have hsz := HRS.out
              go_upto_region 20 with (fail)
              have haz := hra
              generalize wr.alloc (.cells #[.int .i64 kk, .int .i64 nk] 40) = wz at *
              clear c0 c1 hr hm hw HRS hok
              obtain ⟨sz, az, bz⟩ := r
              simp only at hsz haz
              subst hsz
              have hokz : (RdS.mk sz az bz).ok := ⟨haz, by show sz.size ≤ _; omega⟩
              have m1 := IsM.c1 hmz
              have m2 := IsM.c2 hmz
              simp only [RdS.badAt] at m1 m2
              cases bz
              · simp only [Bool.false_eq_true, ite_false] at m2
                by_cases haq : az = sz.size
                · have hE := fun n => end_q w1.heap.size ⟨sz, az, false⟩ wz n hrz hokz 0 (by simp [RdS.end_, haq])
                  have hF := fun n => fault_q w1.heap.size ⟨sz, az, false⟩ wz n hrz (-1) rfl
                  have hL := fun n => left_q w1.heap.size ⟨sz, az, false⟩ wz n hrz hokz
                  have hM := fun n => mleft_q w2.heap.size ⟨sz, az, false⟩ wz n hmz hokz
                  have q1 : ((az : Int) == (sz.size : Int)) = true := by rw [haq]; exact beq_self_eq_true _
                  have HE := Lib.hid hE
                  have HF := Lib.hid hF
                  have HL := Lib.hid hL
                  have HM := Lib.hid hM
                  clear hE hF hL hM haq
                  go_wp2_with fail
                  go_quiet ((first | (go_at_call 19; exact HL.out _) | (go_at_call 20; exact HM.out _) | (go_at_call 21; exact HF.out _) | (go_at_call 22; exact HE.out _)))
                  go_wp2
                  go_roundw
                  case rel => exact ⟨k + 1, ⟨sz, az, false⟩, by omega, by go_num, rfl, haz, Blk.drewN hrz _, Blk.drewN hmz _, bel_drewN hwz _⟩
                  case measure => simp [intOf]; omega
                · have hE := fun n => end_q w1.heap.size ⟨sz, az, false⟩ wz n hrz hokz 4 (by simp [RdS.end_]; omega)
                  have hF := fun n => fault_q w1.heap.size ⟨sz, az, false⟩ wz n hrz (-1) rfl
                  have hL := fun n => left_q w1.heap.size ⟨sz, az, false⟩ wz n hrz hokz
                  have hM := fun n => mleft_q w2.heap.size ⟨sz, az, false⟩ wz n hmz hokz
                  have q1 : ((az : Int) == (sz.size : Int)) = false := by simp; omega
                  have HE := Lib.hid hE
                  have HF := Lib.hid hF
                  have HL := Lib.hid hL
                  have HM := Lib.hid hM
                  clear hE hF hL hM haq
                  go_wp2_with fail
                  go_quiet ((first | (go_at_call 19; exact HL.out _) | (go_at_call 20; exact HM.out _) | (go_at_call 21; exact HF.out _) | (go_at_call 22; exact HE.out _)))
                  go_wp2
                  go_roundw
                  case rel => exact ⟨k + 1, ⟨sz, az, false⟩, by omega, by go_num, rfl, haz, Blk.drewN hrz _, Blk.drewN hmz _, bel_drewN hwz _⟩
                  case measure => simp [intOf]; omega
              · simp only [ite_true] at m2
                have hE := fun n => end_q w1.heap.size ⟨sz, az, true⟩ wz n hrz hokz 4 (by simp [RdS.end_])
                have hF := fun n => fault_q w1.heap.size ⟨sz, az, true⟩ wz n hrz (az : Int) rfl
                have hL := fun n => left_q w1.heap.size ⟨sz, az, true⟩ wz n hrz hokz
                have hM := fun n => mleft_q w2.heap.size ⟨sz, az, true⟩ wz n hmz hokz
                have q1 : decide ((az : Int) < 0) = false := by simp
                have HE := Lib.hid hE
                have HF := Lib.hid hF
                have HL := Lib.hid hL
                have HM := Lib.hid hM
                clear hE hF hL hM m1
                go_wp2_with fail
                go_quiet ((first | (go_at_call 19; exact HL.out _) | (go_at_call 20; exact HM.out _) | (go_at_call 21; exact HF.out _) | (go_at_call 22; exact HE.out _)))
                go_wp2
                go_roundw
                case rel => exact ⟨k + 1, ⟨sz, az, true⟩, by omega, by go_num, rfl, haz, Blk.drewN hrz _, Blk.drewN hmz _, bel_drewN hwz _⟩
                case measure => simp [intOf]; omega
      · obtain rfl : k = len1 := by omega
        clear hr hm hra hrs
        go_wp2_with fail
        refine (fail_nil _).mono ?_
        rintro e wa ⟨rfl, rfl⟩
        go_wp2_with fail
        refine (get_nil _ _).mono ?_
        rintro e wa ⟨rfl, rfl⟩
        go_wp2_with fail
        refine (raw_nil _ _).mono ?_
        rintro e wa ⟨rfl, rfl⟩
        go_wp2_with fail
        refine (left_nil _).mono ?_
        rintro e wa ⟨rfl, rfl⟩
        go_wp2_with fail
        refine (fault_nil _).mono ?_
        rintro e wa ⟨rfl, rfl⟩
        go_wp2_with fail
        refine (end_nil _).mono ?_
        rintro e wa ⟨rfl, rfl⟩
        go_wp2_with fail
        go_ret
        exact ⟨rfl, hw⟩
  · by_cases g1 : s0.size ≤ 1024
    · have d1 : decide ((1024 : Int) < (s0.size : Int)) = false := by simp; omega
      have d2 : decide ((60 : Int) < (len1 : Int)) = true := by simp; omega
      go_enter Try.func4, Try.ntmps4
      go_wp2_with fail
      refine (alive_any _).mono ?_
      rintro e w1 ⟨rfl, b1⟩
      go_wp2_with fail
      go_ret
      exact ⟨rfl, b1⟩
    · have d1 : decide ((1024 : Int) < (s0.size : Int)) = true := by simp; omega
      go_enter Try.func4, Try.ntmps4
      go_wp2_with fail
      refine (alive_any _).mono ?_
      rintro e w1 ⟨rfl, b1⟩
      go_wp2_with fail
      go_ret
      exact ⟨rfl, b1⟩
set_option maxRecDepth 100000 in
theorem liftedOctetReads (os : Os) (started : os.Started) (H : Type) (enc : TypeId × Value → H) :
    ReturnsInHanded {} Try.checked os 4 .any (Rows.octetReadsSpec.pre6 enc Try.prog Try.f4 Rows.octetReadsRow.domain false) (Rows.octetReadsSpec.post enc Try.prog Try.f4 false true false false) := by
  refine returnsInHanded_of_change (C := Try.checked) own started (by kernel_rfl) Try.func4
    (ChangeSpec.witness6 (enc := enc) (C := Try.checked) false ⟨#[], #[.string ⟨#[]⟩, .slice none 0 0], []⟩ 8 (by kernel_rfl) (by kernel_rfl) (by kernel_rfl) (by kernel_rfl)) ?_
  intro W base args ds gs before hval0 hW hcnd _
  have hval : ∀ (j : Nat) t v, Try.f4.params[j]? = some t → args[j]? = some v → Value.okWide Try.prog W .any base t v := hval0
  have hW' := hW
  obtain ⟨p, q, hA0, hV, rfl, hfz, hnd⟩ := hW
  have hA : DataW.TrodAll enc Try.prog W 0 (fun _ => true) true Try.f4.params.toList args.toList ds p := hA0
  rw [Try.params4] at hA hval
  obtain ⟨v0, vs0, d0, ds0, p0, q0, hargs, rfl, rfl, h0, r0⟩ := trodAll_cons hA
  obtain ⟨v1, vs1, d1, ds1, p1, q1, rfl, rfl, rfl, h1, r1⟩ := trodAll_cons r0
  obtain ⟨rfl, rfl, rfl⟩ := trodAll_nil r1
  obtain rfl : args = #[v0, v1] := by cases args; simp_all
  obtain ⟨rfl, rfl⟩ := trodVars_none hV
  obtain ⟨s0, rfl, rfl, rfl, w0⟩ := open_string Try.underlying9 (hval 0 9 v0 rfl rfl) h0
  obtain ⟨a1, len1, cap1, rfl⟩ := okWide_slice Try.underlying33 (hval 1 33 v1 rfl rfl)
  have k1 := h1
  have lt1 : ∀ x ∈ p1, x.block < W.heap.size := by obtain ⟨m, hm⟩ := k1; exact DataW.trod_lt m _ _ _ hm
  obtain ⟨ks, ns, w1⟩ : ∃ ks ns, IsAsks W a1 len1 ks ns := by
    obtain ⟨fuel, hf⟩ := h1
    obtain ⟨a, len, cap, ks, ns, hcs, hi⟩ := open_asks hf
    simp [Value.cells] at hcs
    obtain ⟨rfl, rfl, rfl⟩ := hcs
    exact ⟨ks, ns, hi⟩
  clear hA0 hval0
  refine (walkOctetReads s0 a1 len1 cap1 ks ns W w0 w1).mono fun e W' ⟨he, bel⟩ => ?_
  subst he
  exact ⟨_, rfl, _, _, _, [], _, [], hW', trodAll_mk1 (shut_bool Try.underlying4 _), (trodAll_cons_mk (shut_string Try.underlying9 w0) (trodAll_cons_mk (Below.trod laidOut (by kernel_rfl) (of_decide_eq_true (by kernel_rfl)) k1 bel lt1) trodAll_mk0)), rfl, bel.frame _, fun h => by cases h⟩

theorem overOctetReads : Rows.octetReadsRow.holds Try.pinned (OpenSpec.ofChange Rows.octetReadsSpec) :=
  OpenClaim.holds_of_wide 4 Try.f4 rfl rfl rfl rfl rfl rfl rfl ⟨rfl, rfl, rfl, rfl, rfl⟩ rfl rfl rfl rfl rfl (by kernel_rfl) Try.func4 (by kernel_rfl)
    (of_decide_eq_true (by kernel_rfl)) (by unfold Func.isWrapper; first | (rw [if_pos (by decide +kernel)]; kernel_rfl) | (rw [if_neg (by decide +kernel)]; exact ⟨rfl, rfl⟩))
    (fun os started H enc _ => liftedOctetReads os started H enc)

/-- The statement. -/
theorem octetReads_holds : Rows.OctetReadsSaid := overOctetReads
end Go.Proofs.Ytpijnbcibmjnpaa
