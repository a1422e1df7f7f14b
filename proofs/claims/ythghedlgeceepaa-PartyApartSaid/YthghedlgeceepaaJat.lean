/- Whether a table has a state; the cell of a state and an event. No condition but that it has fewer than 2^20 states. -/
import Derived.Test.YthghedlgeceepaaJmem
namespace Go.Proofs.Ythghedlgeceepaa
open Go.RowKit
set_option maxRecDepth 100000

theorem has_any (A : Option Addr) (c : Nat) (t : Tb) (s : Int) (w : World) :
    Calls Try.prog 93 #[.slice A t.length c, .int .i64 s] w fun e w' => e = .returned (.bool (hasB t s)) ∧ Below w.heap.size w w' := by
  obtain ⟨n, hn⟩ : ∃ n, t.length = n := ⟨_, rfl⟩
  have HB := Lib.hid (show hasB t s = (decide (0 ≤ s) && decide (s < (n : Int))) by rw [← hn]; rfl)
  rw [hn]
  clear hn
  by_cases h0 : 0 ≤ s
  · by_cases h1 : s < (n : Int)
    · have HR := Lib.hid (show true = hasB t s by rw [HB.out, decide_eq_true h0, decide_eq_true h1]; rfl)
      go_enter Try.func93, Try.ntmps93
      go_wp2_with fail
      go_ret
      exact ⟨ret_bool HR.out, Below.refl _ _⟩
    · have HR := Lib.hid (show false = hasB t s by rw [HB.out, decide_eq_true h0, decide_eq_false h1]; rfl)
      go_enter Try.func93, Try.ntmps93
      go_wp2_with fail
      go_ret
      exact ⟨ret_bool HR.out, Below.refl _ _⟩
  · have HR := Lib.hid (show false = hasB t s by rw [HB.out, decide_eq_false h0]; rfl)
    go_enter Try.func93, Try.ntmps93
    go_wp2_with fail
    go_ret
    exact ⟨ret_bool HR.out, Below.refl _ _⟩
def atV (t : Tb) (s e : Int) : Value := match cellT t s e with
  | some c => .tuple #[.agg #[.int .i64 c.1, .int .i64 c.2], .bool true]
  | none => .tuple #[.agg #[.int .i64 s, .int .i64 0], .bool false]
theorem ce_size : (Try.prog.info? 119).map (fun i => i.size) = some 2 := by kernel_rfl
theorem results_ce {fn : Func} {p u : Tmp} (h : fn.results = #[.cell p 119, .tmp u]) (tmps : Array Value) (w : World) (g : Nat) (t : TypeId) (cs : Array Value)
    (hp : tmps.getD p undef = .pointer (some ⟨g, 0, none⟩)) (hg : Blk w g t cs) (hc : cs.size = 2) :
    (results fn tmps).run Try.prog w = .ok (.tuple #[.agg cs, tmps.getD u undef]) w := by
  have hl := run_loadVar_row w g t 119 cs (0, 0) _ hg Try.underlying119 rfl (by rw [ce_size, hc])
  rw [results_cell_tmp h, hp]
  show ((loadVar 119 ⟨g, 0, none⟩).run Try.prog w).andThen _ = _
  rw [hl]
  rfl
theorem put2_ret {w0 w : World} {g : Nat} {t : TypeId} (bW : Below w0.heap.size w0 w) (hg : w0.heap.size ≤ g) (hr : Blk w g t #[.int .i64 0, .int .i64 0]) (a b : Int) : Below w0.heap.size w0 ((w.setCell ⟨g, 0, none⟩ (.int .i64 a)).setCell ⟨g, 1, none⟩ (.int .i64 b)) ∧ Blk ((w.setCell ⟨g, 0, none⟩ (.int .i64 a)).setCell ⟨g, 1, none⟩ (.int .i64 b)) g t #[.int .i64 a, .int .i64 b] := by
  have ht : Touch (fun k => k = g) w ((w.setCell ⟨g, 0, none⟩ (.int .i64 a)).setCell ⟨g, 1, none⟩ (.int .i64 b)) := ((Touch.refl (fun k => k = g) w).set_ (a := ⟨g, 0, none⟩) (fun _ => rfl) _).set_ (a := ⟨g, 1, none⟩) (fun _ => rfl) _
  exact ⟨⟨ht.os.trans bW.os, ht.tape.trans bW.tape, ht.output.trans bW.output, Nat.le_trans bW.size ht.size, fun k hk => (ht.block k (Nat.lt_of_lt_of_le hk bW.size) (by omega)).trans (bW.block k hk)⟩, (hr.set_ 0 _).set_ 1 _⟩
theorem atV_none {t : Tb} {s e : Int} (h : cellT t s e = none) : atV t s e = .tuple #[.agg #[.int .i64 s, .int .i64 0], .bool false] := by unfold atV; rw [h]
theorem atV_some {t : Tb} {s e : Int} {c : Ce} (h : cellT t s e = some c) : atV t s e = .tuple #[.agg #[.int .i64 c.1, .int .i64 c.2], .bool true] := by unfold atV; rw [h]
set_option maxHeartbeats 1000000 in
theorem at_any (A : Option Addr) (c : Nat) (t : Tb) (s e : Int) (w : World) (ht : TbAt w w.heap.size A t) :
    Calls Try.prog 83 #[.slice A t.length c, .int .i64 s, .int .i64 e] w fun r w' => r = .returned (atV t s e) ∧ Below w.heap.size w w' := by
  obtain ⟨n, hn⟩ : ∃ n, t.length = n := ⟨_, rfl⟩
  have HH := Lib.hid (show ∀ w0, Calls Try.prog 93 #[.slice A n c, .int .i64 s] w0 fun e w' => e = .returned (.bool (hasB t s)) ∧ Below w0.heap.size w0 w' by rw [← hn]; exact has_any A c t s)
  obtain ⟨v, hv⟩ : ∃ v, atV t s e = v := ⟨_, rfl⟩
  rw [hn, hv]
  have HV := Lib.hid (And.intro hv hn)
  have HT := Lib.hid ht
  clear hn hv ht
  have hfin : ∀ w1 w0 : World, Below (w.alloc (Obj.cells #[Value.int IntKind.i64 0, Value.int IntKind.i64 0] 119)).heap.size (w.alloc (Obj.cells #[Value.int IntKind.i64 0, Value.int IntKind.i64 0] 119)) w1 → Below w.heap.size w w1 ∧ Blk w1 w.heap.size 119 #[.int .i64 0, .int .i64 0] := fun w1 w0 b1 => by
    have b0 := bel_alloc w (Obj.cells #[Value.int IntKind.i64 0, Value.int IntKind.i64 0] 119)
    exact ⟨b0.trans (b1.mono b0.size), (Blk.new w 119 #[.int .i64 0, .int .i64 0]).below b1 (by simp)⟩
  have HF := Lib.hid hfin
  clear hfin
  cases hb : hasB t s with
  | false =>
    rw [hb] at HH
    have hv2 := HV.out.1
    rw [atV_none (by unfold cellT; rw [if_neg (fun h => by rw [hb] at h; cases h.1)])] at hv2
    have HV2 := Lib.hid hv2
    clear hv2 hb
    go_enter Try.func83, Try.ntmps83
    go_wp2_with fail
    refine (HH.out _).mono ?_
    rintro r w1 ⟨rfl, b1⟩
    obtain ⟨hbW, k0⟩ := HF.out w1 w b1
    have f0 := k0.frozen 0
    have f1 := k0.frozen 1
    have r0 : w1.cell? ⟨w.heap.size, 0, none⟩ = some (.int .i64 0) := k0.cell 0
    have r1 : w1.cell? ⟨w.heap.size, 1, none⟩ = some (.int .i64 0) := k0.cell 1
    have HE := Lib.hid (put2_ret hbW (Nat.le_refl _) k0 s 0)
    clear k0 hbW b1
    go_wp2_with fail
    exact bodyPost_ret (results_ce rfl _ _ w.heap.size 119 _ rfl HE.out.2 rfl) rfl ⟨by exact congrArg Ending.returned HV2.out, HE.out.1⟩
  | true =>
    rw [hb] at HH
    have h0s : 0 ≤ s ∧ s.toNat < n ∧ s < n := by
      simp only [hasB, Bool.and_eq_true, decide_eq_true_eq, HV.out.2] at hb
      omega
    obtain ⟨k, rfl⟩ : ∃ k : Nat, s = k := ⟨s.toNat, by omega⟩
    have hkn : k < n := by omega
    have k1 : (k : Int) < n := by omega
    have k2 : (0 : Int) ≤ k := by omega
    obtain ⟨b, off, a, cc, rfl, hbl, p, q⟩ := HT.out k (by rw [HV.out.2]; exact hkn)
    obtain ⟨rw_, hrw⟩ : ∃ r, t.getD k [] = r := ⟨_, rfl⟩
    rw [hrw] at p q
    obtain ⟨m, hm⟩ : ∃ m, rw_.length = m := ⟨_, rfl⟩
    rw [hm] at p
    have hce : cellT t k e = if 0 ≤ e ∧ e < m then some (rw_.getD e.toNat ce0) else none := by
      unfold cellT
      rw [show ((k : Int)).toNat = k from rfl, hrw, hm]
      by_cases h : 0 ≤ e ∧ e < (m : Int)
      · rw [if_pos ⟨hb, h⟩, if_pos h]
      · rw [if_neg (fun c => h c.2), if_neg h]
    have HQ := Lib.hid (And.intro q hm)
    have HC := Lib.hid (And.intro hce hbl)
    have hp : ∀ w1 : World, Below w.heap.size w w1 → w1.cell? ⟨b, off + k, none⟩ = some (.slice a m cc) := fun w1 b1 => (b1.cell (p := ⟨b, off + k, none⟩) hbl).trans p
    have HP := Lib.hid hp
    clear hp hrw hm q hce p hbl hb
    by_cases he0 : 0 ≤ e
    rotate_left
    · have hv2 := HV.out.1
      rw [atV_none (by rw [HC.out.1, if_neg (fun h => he0 h.1)])] at hv2
      have HV2 := Lib.hid hv2
      have he1 : e < 0 := by omega
      clear hv2 he0
      go_enter Try.func83, Try.ntmps83
      go_wp2_with fail
      refine (HH.out _).mono ?_
      rintro r w1 ⟨rfl, b1⟩
      obtain ⟨hbW, k0⟩ := HF.out w1 w b1
      have f0 := k0.frozen 0
      have f1 := k0.frozen 1
      have r0 : w1.cell? ⟨w.heap.size, 0, none⟩ = some (.int .i64 0) := k0.cell 0
      have r1 : w1.cell? ⟨w.heap.size, 1, none⟩ = some (.int .i64 0) := k0.cell 1
      have HE := Lib.hid (put2_ret hbW (Nat.le_refl _) k0 k 0)
      clear k0 hbW b1
      go_wp2_with fail
      exact bodyPost_ret (results_ce rfl _ _ w.heap.size 119 _ rfl HE.out.2 rfl) rfl ⟨by exact congrArg Ending.returned HV2.out, HE.out.1⟩
    · by_cases he2 : e < (m : Int)
      · obtain ⟨j, rfl⟩ : ∃ j : Nat, e = j := ⟨e.toNat, by omega⟩
        obtain ⟨b', off', rfl, hbl', p0, p1⟩ := HQ.out.1 j (by rw [HQ.out.2]; omega)
        obtain ⟨x, hx⟩ : ∃ x, rw_.getD j ce0 = x := ⟨_, rfl⟩
        rw [hx] at p0 p1
        have hv2 := HV.out.1
        rw [atV_some (c := x) (by rw [HC.out.1, if_pos ⟨he0, he2⟩, show ((j : Int)).toNat = j from rfl, hx])] at hv2
        have HV2 := Lib.hid hv2
        have he3 : ¬ ((j : Int) < 0) := by omega
        have he4 : ¬ ((j : Int) ≥ m) := by omega
        have hp : ∀ w1 : World, Below w.heap.size w w1 → w1.cell? ⟨b', off' + j * 2, none⟩ = some (.int .i64 x.1) ∧ w1.cell? ⟨b', off' + j * 2 + 1, none⟩ = some (.int .i64 x.2) := fun w1 b1 => ⟨(b1.cell (p := ⟨b', off' + j * 2, none⟩) hbl').trans p0, (b1.cell (p := ⟨b', off' + j * 2 + 1, none⟩) hbl').trans p1⟩
        have HX := Lib.hid hp
        clear hv2 hp p0 p1 hx hbl'
        go_enter Try.func83, Try.ntmps83
        go_wp2_with fail
        refine (HH.out _).mono ?_
        rintro r w1 ⟨rfl, b1⟩
        obtain ⟨hbW, k0⟩ := HF.out w1 w b1
        have f0 := k0.frozen 0
        have f1 := k0.frozen 1
        have r0 : w1.cell? ⟨w.heap.size, 0, none⟩ = some (.int .i64 0) := k0.cell 0
        have r1 : w1.cell? ⟨w.heap.size, 1, none⟩ = some (.int .i64 0) := k0.cell 1
        have q := HP.out w1 hbW
        obtain ⟨q0, q1⟩ := HX.out w1 hbW
        have HE := Lib.hid (put2_ret hbW (Nat.le_refl _) k0 x.1 x.2)
        clear k0 hbW b1
        go_wp2_with fail
        exact bodyPost_ret (results_ce rfl _ _ w.heap.size 119 _ rfl HE.out.2 rfl) rfl ⟨by exact congrArg Ending.returned HV2.out, HE.out.1⟩
      · have hv2 := HV.out.1
        rw [atV_none (by rw [HC.out.1, if_neg (fun h => he2 h.2)])] at hv2
        have HV2 := Lib.hid hv2
        have he3 : ¬ (e < 0) := by omega
        have he4 : e ≥ (m : Int) := by omega
        clear hv2
        go_enter Try.func83, Try.ntmps83
        go_wp2_with fail
        refine (HH.out _).mono ?_
        rintro r w1 ⟨rfl, b1⟩
        obtain ⟨hbW, k0⟩ := HF.out w1 w b1
        have f0 := k0.frozen 0
        have f1 := k0.frozen 1
        have r0 : w1.cell? ⟨w.heap.size, 0, none⟩ = some (.int .i64 0) := k0.cell 0
        have r1 : w1.cell? ⟨w.heap.size, 1, none⟩ = some (.int .i64 0) := k0.cell 1
        have q := HP.out w1 hbW
        have HE := Lib.hid (put2_ret hbW (Nat.le_refl _) k0 k 0)
        clear k0 hbW b1
        go_wp2_with fail
        exact bodyPost_ret (results_ce rfl _ _ w.heap.size 119 _ rfl HE.out.2 rfl) rfl ⟨by exact congrArg Ending.returned HV2.out, HE.out.1⟩
end Go.Proofs.Ythghedlgeceepaa
