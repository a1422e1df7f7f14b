/- Joined texts. Conditions: those that each names. -/
import Derived.Test.YthghedlgeceepaaPmAt
import Derived.Test.YthghedlgeceepaaRgHear
import Derived.Laws.ResultCell
import Derived.Laws.Rows
import Derived.Deep.RegionLaw
namespace Go.Proofs.Ythghedlgeceepaa
section
/- What a port's part answers when it is asked: find, of, Has, Born, Says, Fails; which modes there are. Its condition: slots in order, at most 16. -/
open Go.RowKit
set_option maxRecDepth 100000

section
variable {w : World} {B g : Nat} {p : Py} {jl : List Int} {F : Nat → Prop} {y : Lay}
set_option maxHeartbeats 4000000 in
theorem pfind_any (h : PyAt w B g p jl F y) (hn : p.l.length ≤ 16) (t v : Int) :
    Calls Try.prog 52 #[.pointer (some ⟨g, 0, none⟩), .agg #[.int .i64 t, .int .i64 v]] w fun e w' =>
      ∃ k : Nat, AtQ y.q t v k ∧ e = .returned (.tuple #[.int .i64 (k : Int), .bool (hereQ y.q t v k)]) ∧ Below w.heap.size w w' := by
  have hb := bel_alloc w (.cells #[.int .i64 t, .int .i64 v] 29)
  have hx := Blk.new w 29 #[.int .i64 t, .int .i64 v]
  have h1 := (h.below hb)
  have hlen := h.len
  obtain ⟨W, hW⟩ : ∃ W, w.alloc (.cells #[.int .i64 t, .int .i64 v] 29) = W := ⟨_, rfl⟩
  rw [hW] at hb hx h1
  have cD : W.drew.cell? ⟨g, 0, none⟩ = some (.slice y.A y.q.length y.c) ∧ W.drew.cell? ⟨w.heap.size, 0, none⟩ = some (.int .i64 t) ∧ W.drew.cell? ⟨w.heap.size, 1, none⟩ = some (.int .i64 v) := ⟨h1.c0, hx.cell 0, hx.cell 1⟩
  have HC := Lib.hid (bsearch_any y.A y.c y.q t v W.drew h1.drew.row.at_ (by omega))
  have HK := Lib.hid (fun (w5 : World) (b5 : Below W.drew.heap.size W.drew w5) => And.intro ((b5.cell (p := ⟨g, 0, none⟩) h1.blk.lt).trans cD.1) (And.intro ((b5.cell (p := ⟨w.heap.size, 0, none⟩) hx.lt).trans cD.2.1) ((b5.cell (p := ⟨w.heap.size, 1, none⟩) hx.lt).trans cD.2.2)))
  have HB := Lib.hid hb
  obtain ⟨n, hnn⟩ : ∃ n, y.q.length = n := ⟨_, rfl⟩
  rw [hnn] at cD HC HK
  have HW := Lib.hid hW
  clear h hb hx h1 hlen hn hnn hW
  go_enter Try.func52, Try.ntmps52
  go_wp2_with fail
  rw [HW.out]
  go_region_held3 (fun w' => w'.cell? ⟨g, 0, none⟩ = some (.slice y.A n y.c) ∧ w'.cell? ⟨w.heap.size, 0, none⟩ = some (.int .i64 t) ∧ w'.cell? ⟨w.heap.size, 1, none⟩ = some (.int .i64 v))
    (first
      | (with_reducible exact cD)
      | (with_reducible exact cA)
      | fail)
    (first
      | (go_at_call 76; (with_reducible (refine HC.out.mono ?_)); rintro e w5 ⟨k, hk, rfl, b5⟩; have cA := HK.out w5 b5))
  have HE := Lib.hid (And.intro hk (HB.out.drew.trans (b5.mono HB.out.size)))
  clear cA b5 cD hk
  go_wp2_with fail
  go_ret2
  exact ⟨k, HE.out.1, rfl, HE.out.2⟩
theorem field_reg (a b c d : Value) (w : World) : Sem.run Try.prog (Instr.field 67 (.agg #[a, b, c, d]) 1) w = .ok c w := rfl
theorem field_app (a b c d : Value) (w : World) : Sem.run Try.prog (Instr.field 67 (.agg #[a, b, c, d]) 2) w = .ok d w := rfl
def kz : Value := .agg #[.int .i64 0, .int .i64 0, .pointer none, .pointer none]
def keptV (q : List Qs) (t v : Int) (k : Nat) : Value := if hereQ q t v k = true then (q.getD k qs0).val else kz
set_option maxHeartbeats 4000000 in
theorem of_any (h : PyAt w B g p jl F y) (hn : p.l.length ≤ 16) (t v : Int) :
    Calls Try.prog 29 #[.pointer (some ⟨g, 0, none⟩), .agg #[.int .i64 t, .int .i64 v]] w fun e w' =>
      ∃ k : Nat, AtQ y.q t v k ∧ e = .returned (keptV y.q t v k) ∧ Below w.heap.size w w' := by
  have hb := bel_alloc2 w (.cells #[.int .i64 t, .int .i64 v] 29) (.cells #[.int .i64 0, .int .i64 0, .pointer none, .pointer none] 67)
  have hx := (Blk.new w 29 #[.int .i64 t, .int .i64 v]).alloc (.cells #[.int .i64 0, .int .i64 0, .pointer none, .pointer none] 67)
  have hz := Blk.new (w.alloc (.cells #[.int .i64 t, .int .i64 v] 29)) 67 #[.int .i64 0, .int .i64 0, .pointer none, .pointer none]
  have hsz : (w.alloc (.cells #[.int .i64 t, .int .i64 v] 29)).heap.size = w.heap.size + 1 := by simp
  rw [hsz] at hz
  have h1 := (h.below hb)
  have hlen := h.len
  obtain ⟨W, hW⟩ : ∃ W, (w.alloc (.cells #[.int .i64 t, .int .i64 v] 29)).alloc (.cells #[.int .i64 0, .int .i64 0, .pointer none, .pointer none] 67) = W := ⟨_, rfl⟩
  rw [hW] at hb hx h1 hz
  have c0 : W.cell? ⟨w.heap.size, 0, none⟩ = some (.int .i64 t) := hx.cell 0
  have c1 : W.cell? ⟨w.heap.size, 1, none⟩ = some (.int .i64 v) := hx.cell 1
  have hf := pfind_any h1 hn t v
  rw [← hW] at c0 c1 hf
  have HF := Lib.hid hf
  have HS := Lib.hid (And.intro h1 (And.intro hb hz))
  obtain ⟨n, hnn⟩ : ∃ n, y.q.length = n := ⟨_, rfl⟩
  have HN := Lib.hid hnn
  have HW := Lib.hid hW
  clear h hb hx h1 hlen hn hnn hW hz hsz hf
  go_enter Try.func29, Try.ntmps29
  go_wp2_with fail
  refine HF.out.mono ?_
  rw [HW.out]
  rintro e w5 ⟨k, hk, rfl, b5⟩
  have hz5 := HS.out.2.2.below b5 HS.out.2.2.lt
  have h5 := HS.out.1.below b5
  have HB5 := Lib.hid (HS.out.2.1.trans (b5.mono HS.out.2.1.size))
  have f0 := hz5.frozen 0
  have f1 := hz5.frozen 1
  have f2 := hz5.frozen 2
  have f3 := hz5.frozen 3
  have z0 := hz5.cell 0
  have z1 := hz5.cell 1
  have z2 := hz5.cell 2
  have z3 := hz5.cell 3
  cases hh : hereQ y.q t v k with
  | false =>
    have hres := Blk.set_ (Blk.set_ (Blk.set_ (Blk.set_ hz5 0 (.int .i64 0)) 1 (.int .i64 0)) 2 (.pointer none)) 3 (.pointer none)
    have hbel := (((HB5.out.setCell (p := ⟨w.heap.size + 1, 0, none⟩) (by simp) (.int .i64 0)).setCell (p := ⟨w.heap.size + 1, 1, none⟩) (by simp) (.int .i64 0)).setCell (p := ⟨w.heap.size + 1, 2, none⟩) (by simp) (.pointer none)).setCell (p := ⟨w.heap.size + 1, 3, none⟩) (by simp) (.pointer none)
    have HE := Lib.hid (And.intro hk (And.intro hres (And.intro hbel (show kz = keptV y.q t v k by unfold keptV; rw [hh]; rfl))))
    clear hz5 h5 b5 hk hh hres hbel
    go_wp2_with fail
    exact bodyPost_ret (results_cell_row rfl _ _ (w.heap.size + 1) 67 _ (0, 0) _ rfl HE.out.2.1 Try.underlying67 rfl kp_size) rfl ⟨k, HE.out.1, by rw [← HE.out.2.2.2]; rfl, HE.out.2.2.1⟩
  | true =>
    obtain ⟨hkl, _⟩ := here_iff.1 hh
    obtain ⟨b, off, hA, _, kc⟩ := h5.row.at_ k hkl
    obtain ⟨x, hx⟩ : ∃ x, y.q.getD k qs0 = x := ⟨_, rfl⟩
    rw [hx] at kc
    have q0 := kc.c0
    have q1 := kc.c1
    have q2 := kc.c2
    have q3 := kc.c3
    have cg := h5.c0
    rw [hA, HN.out] at cg
    have k0 : (0 : Int) ≤ k := by omega
    have k1 : (k : Int) < n := by rw [← HN.out]; omega
    have hres := Blk.set_ (Blk.set_ (Blk.set_ (Blk.set_ hz5 0 (.int .i64 x.s.t)) 1 (.int .i64 x.s.v)) 2 (.pointer (some ⟨x.r, 0, none⟩))) 3 (.pointer (some ⟨x.a, 0, none⟩))
    have hbel := (((HB5.out.setCell (p := ⟨w.heap.size + 1, 0, none⟩) (by simp) (.int .i64 x.s.t)).setCell (p := ⟨w.heap.size + 1, 1, none⟩) (by simp) (.int .i64 x.s.v)).setCell (p := ⟨w.heap.size + 1, 2, none⟩) (by simp) (.pointer (some ⟨x.r, 0, none⟩))).setCell (p := ⟨w.heap.size + 1, 3, none⟩) (by simp) (.pointer (some ⟨x.a, 0, none⟩))
    have HE := Lib.hid (And.intro hk (And.intro hres (And.intro hbel (show x.val = keptV y.q t v k by unfold keptV; rw [hh, if_pos rfl, hx]))))
    clear hz5 h5 b5 hk hh hres hbel hkl hA kc hx
    go_wp2_with fail
    refine bodyPost_ret (results_cell_row rfl _ _ (w.heap.size + 1) 67 _ (0, 0) _ rfl HE.out.2.1 Try.underlying67 rfl kp_size) rfl ⟨k, HE.out.1, ?_, HE.out.2.2.1⟩
    rw [← HE.out.2.2.2]
    rfl
set_option maxHeartbeats 4000000 in
theorem phas_any (h : PyAt w B g p jl F y) {T : Int} (hok : PyOk T p) (t v : Int) :
    Calls Try.prog 18 #[.pointer (some ⟨g, 0, none⟩), .agg #[.int .i64 t, .int .i64 v]] w fun e w' => e = .returned (.bool (hasP p t v)) ∧ Below w.heap.size w w' := by
  have hb := bel_alloc w (.cells #[.int .i64 t, .int .i64 v] 29)
  have hx := Blk.new w 29 #[.int .i64 t, .int .i64 v]
  have h1 := h.below hb
  obtain ⟨W, hW⟩ : ∃ W, w.alloc (.cells #[.int .i64 t, .int .i64 v] 29) = W := ⟨_, rfl⟩
  rw [hW] at hb hx h1
  have c0 : W.cell? ⟨w.heap.size, 0, none⟩ = some (.int .i64 t) := hx.cell 0
  have c1 : W.cell? ⟨w.heap.size, 1, none⟩ = some (.int .i64 v) := hx.cell 1
  have hf := of_any h1 hok.len t v
  rw [← hW] at c0 c1 hf
  have HF := Lib.hid hf
  have HS := Lib.hid (And.intro h1 (And.intro hb hok))
  have HW := Lib.hid hW
  obtain ⟨r, hr⟩ : ∃ r, hasP p t v = r := ⟨_, rfl⟩
  have HR := Lib.hid hr
  rw [hr]
  clear h hb hx h1 hW hf hok hr
  go_enter Try.func18, Try.ntmps18
  go_wp2_with fail
  refine HF.out.mono ?_
  rw [HW.out]
  rintro e w5 ⟨k, hk, rfl, b5⟩
  have h5 := HS.out.1.below b5
  have HB5 := Lib.hid (HS.out.2.1.trans (b5.mono HS.out.2.1.size))
  have ho := HS.out.2.2.ord
  rw [← h5.ls] at ho
  cases hh : hereQ y.q t v k with
  | false =>
    rw [show keptV y.q t v k = kz by unfold keptV; rw [hh]; rfl]
    have hfi := find_gone hk ho hh
    rw [h5.ls] at hfi
    have HN := Lib.hid (rhas_nil w5)
    have HE := Lib.hid (HR.out.symm.trans (by unfold hasP; rw [hfi]))
    unfold kz
    clear h5 b5 hk hh hfi ho
    have fr := field_reg
    have fa := field_app
    go_wp2_with fail
    refine HN.out.mono ?_
    rintro e w6 ⟨rfl, rfl⟩
    go_wp2_with fail
    go_ret
    exact ⟨by rw [HE.out]; rfl, HB5.out⟩
  | true =>
    obtain ⟨hkl, _⟩ := here_iff.1 hh
    rw [show keptV y.q t v k = (y.q.getD k qs0).val by unfold keptV; rw [hh]; rfl]
    have hfi := find_here hk ho hh
    rw [h5.ls] at hfi
    have hm := getD_mem' hkl
    have hsl := HS.out.2.2.all _ (show (y.q.getD k qs0).s ∈ p.l by rw [← h5.ls]; exact List.mem_map_of_mem hm)
    have hea := h5.slots.each _ hm
    have HN := Lib.hid (rhas_any hea.1)
    have HE := Lib.hid (HR.out.symm.trans (by unfold hasP; rw [hfi]))
    obtain ⟨x, hx⟩ : ∃ x, y.q.getD k qs0 = x := ⟨_, rfl⟩
    rw [hx] at HN HE ⊢
    unfold Qs.val
    clear h5 b5 hk hh hfi hsl hea hm hkl ho hx
    have fr := field_reg
    have fa := field_app
    go_wp2_with fail
    refine HN.out.mono ?_
    rintro e w6 ⟨rfl, rfl⟩
    go_wp2_with fail
    go_ret
    exact ⟨by rw [HE.out]; rfl, HB5.out⟩
set_option maxHeartbeats 4000000 in
theorem pborn_any (h : PyAt w B g p jl F y) {T : Int} (hok : PyOk T p) (t v : Int) (now : Int) :
    Calls Try.prog 19 #[.pointer (some ⟨g, 0, none⟩), .agg #[.int .i64 t, .int .i64 v], .int .i64 now] w fun e w' => e = .returned (.int .i64 (bornP p t v now)) ∧ Below w.heap.size w w' := by
  have hb := bel_alloc w (.cells #[.int .i64 t, .int .i64 v] 29)
  have hx := Blk.new w 29 #[.int .i64 t, .int .i64 v]
  have h1 := h.below hb
  obtain ⟨W, hW⟩ : ∃ W, w.alloc (.cells #[.int .i64 t, .int .i64 v] 29) = W := ⟨_, rfl⟩
  rw [hW] at hb hx h1
  have c0 : W.cell? ⟨w.heap.size, 0, none⟩ = some (.int .i64 t) := hx.cell 0
  have c1 : W.cell? ⟨w.heap.size, 1, none⟩ = some (.int .i64 v) := hx.cell 1
  have hf := of_any h1 hok.len t v
  rw [← hW] at c0 c1 hf
  have HF := Lib.hid hf
  have HS := Lib.hid (And.intro h1 (And.intro hb hok))
  have HW := Lib.hid hW
  obtain ⟨r, hr⟩ : ∃ r, bornP p t v now = r := ⟨_, rfl⟩
  have HR := Lib.hid hr
  rw [hr]
  clear h hb hx h1 hW hf hok hr
  go_enter Try.func19, Try.ntmps19
  go_wp2_with fail
  refine HF.out.mono ?_
  rw [HW.out]
  rintro e w5 ⟨k, hk, rfl, b5⟩
  have h5 := HS.out.1.below b5
  have HB5 := Lib.hid (HS.out.2.1.trans (b5.mono HS.out.2.1.size))
  have ho := HS.out.2.2.ord
  rw [← h5.ls] at ho
  cases hh : hereQ y.q t v k with
  | false =>
    rw [show keptV y.q t v k = kz by unfold keptV; rw [hh]; rfl]
    have hfi := find_gone hk ho hh
    rw [h5.ls] at hfi
    have HN := Lib.hid (rborn_nil now w5)
    have HE := Lib.hid (HR.out.symm.trans (by unfold bornP; rw [hfi]))
    unfold kz
    clear h5 b5 hk hh hfi ho
    have fr := field_reg
    have fa := field_app
    go_wp2_with fail
    refine HN.out.mono ?_
    rintro e w6 ⟨rfl, rfl⟩
    go_wp2_with fail
    go_ret
    exact ⟨by rw [HE.out]; rfl, HB5.out⟩
  | true =>
    obtain ⟨hkl, _⟩ := here_iff.1 hh
    rw [show keptV y.q t v k = (y.q.getD k qs0).val by unfold keptV; rw [hh]; rfl]
    have hfi := find_here hk ho hh
    rw [h5.ls] at hfi
    have hm := getD_mem' hkl
    have hsl := HS.out.2.2.all _ (show (y.q.getD k qs0).s ∈ p.l by rw [← h5.ls]; exact List.mem_map_of_mem hm)
    have hea := h5.slots.each _ hm
    have HN := Lib.hid (rborn_any hea.1 now)
    have HE := Lib.hid (HR.out.symm.trans (by unfold bornP; rw [hfi]))
    obtain ⟨x, hx⟩ : ∃ x, y.q.getD k qs0 = x := ⟨_, rfl⟩
    rw [hx] at HN HE ⊢
    unfold Qs.val
    clear h5 b5 hk hh hfi hsl hea hm hkl ho hx
    have fr := field_reg
    have fa := field_app
    go_wp2_with fail
    refine HN.out.mono ?_
    rintro e w6 ⟨rfl, rfl⟩
    go_wp2_with fail
    go_ret
    exact ⟨by rw [HE.out]; rfl, HB5.out⟩
set_option maxHeartbeats 4000000 in
theorem psays_any (h : PyAt w B g p jl F y) {T : Int} (hok : PyOk T p) (t v : Int) :
    Calls Try.prog 20 #[.pointer (some ⟨g, 0, none⟩), .agg #[.int .i64 t, .int .i64 v]] w fun e w' => e = .returned (.bool (saysP p t v)) ∧ Below w.heap.size w w' := by
  have hb := bel_alloc w (.cells #[.int .i64 t, .int .i64 v] 29)
  have hx := Blk.new w 29 #[.int .i64 t, .int .i64 v]
  have h1 := h.below hb
  obtain ⟨W, hW⟩ : ∃ W, w.alloc (.cells #[.int .i64 t, .int .i64 v] 29) = W := ⟨_, rfl⟩
  rw [hW] at hb hx h1
  have c0 : W.cell? ⟨w.heap.size, 0, none⟩ = some (.int .i64 t) := hx.cell 0
  have c1 : W.cell? ⟨w.heap.size, 1, none⟩ = some (.int .i64 v) := hx.cell 1
  have hf := of_any h1 hok.len t v
  rw [← hW] at c0 c1 hf
  have HF := Lib.hid hf
  have HS := Lib.hid (And.intro h1 (And.intro hb hok))
  have HW := Lib.hid hW
  obtain ⟨r, hr⟩ : ∃ r, saysP p t v = r := ⟨_, rfl⟩
  have HR := Lib.hid hr
  rw [hr]
  clear h hb hx h1 hW hf hok hr
  go_enter Try.func20, Try.ntmps20
  go_wp2_with fail
  refine HF.out.mono ?_
  rw [HW.out]
  rintro e w5 ⟨k, hk, rfl, b5⟩
  have h5 := HS.out.1.below b5
  have HB5 := Lib.hid (HS.out.2.1.trans (b5.mono HS.out.2.1.size))
  have ho := HS.out.2.2.ord
  rw [← h5.ls] at ho
  cases hh : hereQ y.q t v k with
  | false =>
    rw [show keptV y.q t v k = kz by unfold keptV; rw [hh]; rfl]
    have hfi := find_gone hk ho hh
    rw [h5.ls] at hfi
    have HN := Lib.hid (aspeaks_nil w5)
    have HE := Lib.hid (HR.out.symm.trans (by unfold saysP; rw [hfi]))
    unfold kz
    clear h5 b5 hk hh hfi ho
    have fr := field_reg
    have fa := field_app
    go_wp2_with fail
    refine HN.out.mono ?_
    rintro e w6 ⟨rfl, rfl⟩
    go_wp2_with fail
    go_ret
    exact ⟨by rw [HE.out]; rfl, HB5.out⟩
  | true =>
    obtain ⟨hkl, _⟩ := here_iff.1 hh
    rw [show keptV y.q t v k = (y.q.getD k qs0).val by unfold keptV; rw [hh]; rfl]
    have hfi := find_here hk ho hh
    rw [h5.ls] at hfi
    have hm := getD_mem' hkl
    have hsl := HS.out.2.2.all _ (show (y.q.getD k qs0).s ∈ p.l by rw [← h5.ls]; exact List.mem_map_of_mem hm)
    have hea := h5.slots.each _ hm
    have HN := Lib.hid (aspeaks_any hea.2 hsl.st)
    have HE := Lib.hid (HR.out.symm.trans (by unfold saysP; rw [hfi]))
    obtain ⟨x, hx⟩ : ∃ x, y.q.getD k qs0 = x := ⟨_, rfl⟩
    rw [hx] at HN HE ⊢
    unfold Qs.val
    clear h5 b5 hk hh hfi hsl hea hm hkl ho hx
    have fr := field_reg
    have fa := field_app
    go_wp2_with fail
    refine HN.out.mono ?_
    rintro e w6 ⟨rfl, rfl⟩
    go_wp2_with fail
    go_ret
    exact ⟨by rw [HE.out]; rfl, HB5.out⟩
set_option maxHeartbeats 1000000 in
theorem pfails_any (h : PyAt w B g p jl F y) : Calls Try.prog 21 #[.pointer (some ⟨g, 0, none⟩)] w fun e w' => e = .returned (.int .i64 (wrap64 p.fails)) ∧ w = w' := by
  have c4 := h.c4
  obtain ⟨f, hf⟩ : ∃ f, wrap64 (p.fails : Int) = f := ⟨_, rfl⟩
  rw [hf] at c4 ⊢
  clear h hf
  go_enter Try.func21, Try.ntmps21
  go_wp2_with fail
  go_ret
  exact ⟨rfl, rfl⟩
set_option maxHeartbeats 1000000 in
theorem goodMode_any (m : Int) (w : World) : Calls Try.prog 25 #[.int .i64 m] w fun e w' => e = .returned (.bool (goodMd m)) ∧ Below w.heap.size w w' := by
  cases hm : goodMd m with
  | true =>
    have HN := Lib.hid (rnew_ok m hm w)
    clear hm
    go_enter Try.func25, Try.ntmps25
    go_wp2_with fail
    refine HN.out.mono ?_
    rintro e w1 ⟨g, rfl, _, b1, _⟩
    have HB := Lib.hid b1
    clear b1
    go_wp2_with fail
    go_ret
    exact ⟨rfl, HB.out⟩
  | false =>
    have HN := Lib.hid (rnew_bad m hm w)
    clear hm
    go_enter Try.func25, Try.ntmps25
    go_wp2_with fail
    refine HN.out.mono ?_
    rintro e w1 ⟨rfl, rfl⟩
    go_wp2_with fail
    go_ret
    exact ⟨rfl, Below.refl _ _⟩
end
end
section
/- What is idle goes; an attribute comes, or there is no room: sweep, come. Its condition: slots that can be, at most 16. -/
open Go.RowKit
set_option maxRecDepth 100000

section
variable {w : World} {B g : Nat} {p : Py} {jl : List Int} {F : Nat → Prop} {y : Lay}
theorem keep_map (q : List Qs) : (keepQ q).map (·.s) = tidyL (q.map (·.s)) := by
  unfold keepQ tidyL idQ
  rw [List.filter_map]
  rfl
/-- Another list of slots, in the same row. -/
theorem PyAt.swept {w' : World} (h : PyAt w B g p jl F y) (ho : OwnK w' 0 y.A y.c (keepQ y.q)) (ht : Touch (fun k => (Value.slice y.A y.q.length y.c).ownBlock = some k) w w') :
    PyAt (w'.setCell ⟨g, 0, none⟩ (.slice y.A (keepQ y.q).length y.c)) B g (tidyP p) jl F ⟨keepQ y.q, y.A, y.c, y.gd, y.Ad, y.cd⟩ ∧ Touch F w (w'.setCell ⟨g, 0, none⟩ (.slice y.A (keepQ y.q).length y.c)) := by
  have hg : (Value.slice y.A y.q.length y.c).ownBlock ≠ some g := own_ne h.row h.blk (by decide)
  have hg' : (Value.slice y.A (keepQ y.q).length y.c).ownBlock ≠ some g := fun e => hg (by rw [← e]; exact block_any _ _ _ _ _)
  have hb := h.blk.touch ht hg
  have hq : QsAt w' (keepQ y.q) := (h.slots.keep ht (fun k hk e => by
    obtain ⟨x, hx, rfl | rfl⟩ := hk
    · exact own_ne h.row (h.slots.each x hx).1 (by decide) e
    · exact own_ne h.row (h.slots.each x hx).2 (by decide) e)).filter _
  have hd : DrawOf w' y.gd y.Ad y.cd jl (placeD jl p.at_) := h.draws.keep ht (own_ne h.row h.draws.blk (by decide)) (fun b hb e => by
    exact own_own h.row h.draws.own (by decide) (show (Value.slice y.Ad jl.length y.cd).ownBlock = some b by rw [← hb]; exact block_any _ _ _ _ _) e)
  have htF : Touch F w (w'.setCell ⟨g, 0, none⟩ (.slice y.A (keepQ y.q).length y.c)) := (ht.mono fun k _ hk => h.frow k (by rw [← hk]; exact block_any _ _ _ _ _)).set_ (fun _ => h.fg) _
  have tg : Touch (fun k => k = g) w' (w'.setCell ⟨g, 0, none⟩ (.slice y.A (keepQ y.q).length y.c)) := (Touch.refl (fun k => k = g) w').set_ (a := ⟨g, 0, none⟩) (fun _ => rfl) _
  refine ⟨⟨Blk.set_ hb 0 _, ownsRow_setCell_other (a := ⟨g, 0, none⟩) ho hg' _, ?_, hq.keep tg (fun k hk e => ?_), hd.keep tg (fun e => ?_) (fun b hb e => ?_), h.fg, h.frow, h.fgd, h.fdr, fun k hk => ?_, fun k hk => ⟨(h.lt k hk).1, Nat.lt_of_lt_of_le (h.lt k hk).2 htF.size⟩⟩, htF⟩
  · show (keepQ y.q).map (·.s) = tidyL p.l
    rw [keep_map, h.ls]
  · subst e
    obtain ⟨x, hx, rfl | rfl⟩ := hk
    · have h2 := (hq.each x hx).1
      unfold RgAt Blk at h2
      unfold Blk at hb
      rw [hb] at h2
      injection h2 with h2
      injection h2 with _ h2
      exact absurd h2 (by decide)
    · have h2 := (hq.each x hx).2
      unfold ApAt Blk at h2
      unfold Blk at hb
      rw [hb] at h2
      injection h2 with h2
      injection h2 with _ h2
      exact absurd h2 (by decide)
  · have h2 := hd.blk
    unfold Blk at h2 hb
    rw [e, hb] at h2
    injection h2 with h2
    injection h2 with _ h2
    exact absurd h2 (by decide)
  · subst e
    exact own_ne hd.own hb (by decide) (show (Value.slice y.Ad jl.length y.cd).ownBlock = some b by rw [← ‹(Value.slice y.Ad 0 0).ownBlock = some b›]; exact block_any _ _ _ _ _)
  · obtain ⟨x, hx, e⟩ := hk
    exact h.fq k ⟨x, (List.mem_filter.1 hx).1, e⟩
set_option maxHeartbeats 4000000 in
theorem sweep_any (h : PyAt w B g p jl F y) (hn : p.l.length ≤ 16) :
    Calls Try.prog 28 #[.pointer (some ⟨g, 0, none⟩)] w fun e w' => e = .returned (.tuple #[]) ∧ PyF w' B g (tidyP p) jl F ∧ Touch F w w' := by
  have hlen := h.len
  have c0 := h.c0
  have HD := Lib.hid (del_any y.A y.c y.q 0 w h.row (by omega) h.slots)
  have H0 := Lib.hid h
  obtain ⟨n, hnn⟩ : ∃ n, y.q.length = n := ⟨_, rfl⟩
  rw [hnn] at c0
  have HN := Lib.hid hnn
  rw [hnn] at HD
  clear h hn hlen hnn
  go_enter Try.func28, Try.ntmps28
  go_wp2_with fail
  refine HD.out.mono ?_
  rintro e w1 ⟨rfl, ho, ht⟩
  rw [← HN.out] at ht
  have HE := Lib.hid (H0.out.swept ho ht)
  have f0 : w1.frozen? ⟨g, 0, none⟩ = false := (H0.out.blk.touch ht (own_ne H0.out.row H0.out.blk (by decide))).frozen 0
  have d0 : w1.cell? ⟨g, 0, none⟩ = some (.slice y.A n y.c) := by rw [← HN.out]; exact (H0.out.blk.touch ht (own_ne H0.out.row H0.out.blk (by decide))).cell 0
  obtain ⟨m, hm⟩ : ∃ m, (keepQ y.q).length = m := ⟨_, rfl⟩
  rw [hm] at HE ⊢
  clear ho ht c0 hm
  go_wp2_with fail
  exact bodyPost_end (results_none rfl _ _ _) rfl ⟨rfl, ⟨_, HE.out.1⟩, HE.out.2⟩
theorem blk_ne {t t' : TypeId} {a b : Nat} {cs cs' : Array Value} (h : Blk w a t cs) (h' : Blk w b t' cs') (ht : t ≠ t') : a ≠ b := fun e => by
  subst e
  unfold Blk at *
  rw [h] at h'
  injection h' with h'
  injection h' with _ h'
  exact ht h'
/-- Its own cells lie apart from all else of it. -/
theorem PyAt.apart (h : PyAt w B g p jl F y) : (∀ k, QFoot y.q k → k ≠ g) ∧ y.gd ≠ g ∧ (∀ b, (Value.slice y.Ad 0 0).ownBlock = some b → b ≠ g) ∧ (Value.slice y.A y.q.length y.c).ownBlock ≠ some g := by
  refine ⟨fun k hk => ?_, blk_ne h.draws.blk h.blk (by decide), fun b hb e => ?_, own_ne h.row h.blk (by decide)⟩
  · obtain ⟨x, hx, rfl | rfl⟩ := hk
    · exact blk_ne (h.slots.each x hx).1 h.blk (by decide)
    · exact blk_ne (h.slots.each x hx).2 h.blk (by decide)
  · subst e
    exact own_ne h.draws.own h.blk (by decide) (by rw [← hb]; exact block_any _ _ _ _ _)
/-- Its other cells are turned: when all is asked for next, whether that is to be told, how often there was no room. -/
theorem PyAt.head (h : PyAt w B g p jl F y) {p' : Py} (i : Nat) (u : Value) (hl : p'.l = p.l) (ha : p'.at_ = p.at_)
    (hb : Blk (w.setCell ⟨g, i, none⟩ u) g 61 #[.slice y.A y.q.length y.c, .pointer (some ⟨y.gd, 0, none⟩), .int .i64 p'.due, .bool p'.ask, .int .i64 (wrap64 p'.fails)]) :
    PyAt (w.setCell ⟨g, i, none⟩ u) B g p' jl F y ∧ Touch F w (w.setCell ⟨g, i, none⟩ u) := by
  have ha' := h.apart
  have tg : Touch (fun k => k = g) w (w.setCell ⟨g, i, none⟩ u) := (Touch.refl (fun k => k = g) w).set_ (a := ⟨g, i, none⟩) (fun _ => rfl) _
  refine ⟨⟨hb, ownsRow_setCell_other (a := ⟨g, i, none⟩) h.row ha'.2.2.2 _, by rw [hl]; exact h.ls, h.slots.keep tg ha'.1, ?_, h.fg, h.frow, h.fgd, h.fdr, h.fq, fun k hk => ⟨(h.lt k hk).1, Nat.lt_of_lt_of_le (h.lt k hk).2 tg.size⟩⟩, tg.mono fun k _ e => by rw [e]; exact h.fg⟩
  rw [ha]
  exact h.draws.keep tg ha'.2.1 ha'.2.2.1
theorem wrap_succ (n : Nat) : wrap64 (wrap64 (n : Int) + 1) = wrap64 ((n + 1 : Nat) : Int) := by
  unfold wrap64
  omega
/-- An attribute that is there is where it is. -/
theorem at_key {q : List Qs} {t v : Int} {k : Nat} (ho : (q.map (·.s)).Pairwise lessS) (hk : k < q.length) (e : (q.getD k qs0).s.t = t ∧ (q.getD k qs0).s.v = v) : AtQ q t v k := by
  rw [getD_get hk] at e
  rw [List.pairwise_map] at ho
  refine ⟨Nat.le_of_lt hk, ?_, .inr ?_⟩
  · by_cases h0 : k = 0
    · exact .inl h0
    · right
      have h1 : k - 1 < q.length := by omega
      have hl := List.pairwise_iff_getElem.1 ho (k - 1) k h1 hk (by omega)
      rw [getD_get h1]
      exact (ahead_less e).2 hl
  · rw [getD_get hk]
    unfold aheadQ lessB
    rw [decide_eq_false]
    rw [e.1, e.2]
    omega
/-- What came of an attribute: it was there, or came; or there is no room. -/
def Came (w w' : World) (B g : Nat) (p : Py) (jl : List Int) (F : Nat → Prop) (t v : Int) (e : Ending) : Prop :=
  Touch F w w' ∧ ((∃ p1 y1 k, roomP p t v = some p1 ∧ PyAt w' B g p1 jl (grow F w w') y1 ∧ k < y1.q.length ∧ ((y1.q.getD k qs0).s.t = t ∧ (y1.q.getD k qs0).s.v = v) ∧ e = .returned (.tuple #[(y1.q.getD k qs0).val, .bool true])) ∨
    (roomP p t v = none ∧ e = .returned (.tuple #[kz, .bool false]) ∧ PyF w' B g (failP p) jl F))
end
end
section
/- An attribute comes to a port's part, or there is no room: come. Its condition: slots that can be, at most 16. -/
open Go.RowKit
set_option maxRecDepth 100000

theorem kresults_pair {fn : Func} {p u : Tmp} (h : fn.results = #[.cell p 67, .tmp u]) (tmps : Array Value) (w : World) (g : Nat) (t : TypeId) (cs : Array Value)
    (hp : tmps.getD p undef = .pointer (some ⟨g, 0, none⟩)) (hg : Blk w g t cs) (hc : cs.size = 4) :
    (results fn tmps).run Try.prog w = .ok (.tuple #[.agg cs, tmps.getD u undef]) w := by
  have hl := run_loadVar_row w g t 67 cs (0, 0) _ hg Try.underlying67 rfl (by rw [kp_size, hc])
  rw [results_cell_tmp h, hp]
  show ((loadVar 67 ⟨g, 0, none⟩).run Try.prog w).andThen _ = _
  rw [hl]
  rfl
theorem reg_new (w : World) : Calls Try.prog 51 #[.int .i64 0] w fun e w' => ∃ g, e = .returned (.tuple #[.pointer (some ⟨g, 0, none⟩), .int .i64 0]) ∧ RgAt w' g ⟨0, 0, 0, 0⟩ ∧ Below w.heap.size w w' ∧ w.heap.size ≤ g := rnew_ok 0 rfl w
section
variable {w : World} {B g : Nat} {p : Py} {jl : List Int} {F : Nat → Prop} {y : Lay}
/-- A slot's four cells are stored in a block by itself. -/
def put4 (W : World) (N : Nat) (a b c d : Value) : World := (((W.setCell ⟨N, 0, none⟩ a).setCell ⟨N, 1, none⟩ b).setCell ⟨N, 2, none⟩ c).setCell ⟨N, 3, none⟩ d
theorem put4_blk {W : World} {N : Nat} {x0 x1 x2 x3 : Value} {t : TypeId} (h : Blk W N t #[x0, x1, x2, x3]) (a b c d : Value) : Blk (put4 W N a b c d) N t #[a, b, c, d] := Blk.set_ (Blk.set_ (Blk.set_ (Blk.set_ h 0 a) 1 b) 2 c) 3 d
theorem put4_touch (W : World) (N : Nat) (a b c d : Value) : Touch (fun k => k = N) W (put4 W N a b c d) :=
  ((((Touch.refl (fun k => k = N) W).set_ (a := ⟨N, 0, none⟩) (fun _ => rfl) _).set_ (a := ⟨N, 1, none⟩) (fun _ => rfl) _).set_ (a := ⟨N, 2, none⟩) (fun _ => rfl) _).set_ (a := ⟨N, 3, none⟩) (fun _ => rfl) _
theorem below_touch {w0 W : World} (h : Below w0.heap.size w0 W) (P : Nat → Prop) : Touch P w0 W := (Below.touch h).mono fun k hk hp => absurd hp (by omega)
theorem touch_new {w0 W W' : World} (h : Touch F w0 W) {N : Nat} (hN : w0.heap.size ≤ N) (ht : Touch (fun k => k = N) W W') : Touch F w0 W' :=
  ⟨ht.os.trans h.os, ht.tape.trans h.tape, ht.output.trans h.output, Nat.le_trans h.size ht.size, fun k hk hp => (ht.block k (Nat.lt_of_lt_of_le hk h.size) (by omega)).trans (h.block k hk hp)⟩
theorem ins_mem {q : List Qs} {k : Nat} {x z : Qs} (h : z ∈ insQ q k x) : z = x ∨ z ∈ q := by
  unfold insQ at h
  rcases List.mem_append.1 h with h | h
  · exact .inr (List.mem_of_mem_take h)
  · rcases List.mem_cons.1 h with h | h
    · exact .inl h
    · exact .inr (List.mem_of_mem_drop h)
theorem ins_getD {q : List Qs} {k : Nat} {x : Qs} (hk : k ≤ q.length) : (insQ q k x).getD k qs0 = x := by
  unfold insQ
  rw [List.getD_eq_getElem?_getD, List.getElem?_append_right (by rw [List.length_take]; omega), List.length_take, Nat.min_eq_left hk, Nat.sub_self]
  rfl
/-- Slots with one more among them. -/
theorem QsAt.ins {W : World} {q : List Qs} {k : Nat} {x : Qs} (h : QsAt W q) (hr : RgAt W x.r x.s.r) (ha : ApAt W x.a x.s.a) (hn : ∀ z ∈ q, z.r ≠ x.r ∧ z.a ≠ x.a) : QsAt W (insQ q k x) := by
  refine ⟨fun z hz => ?_, ?_⟩
  · rcases ins_mem hz with rfl | hz
    · exact ⟨hr, ha⟩
    · exact h.each z hz
  · have hp := h.apart
    rw [← List.take_append_drop k q, List.pairwise_append] at hp
    unfold insQ
    rw [List.pairwise_append]
    refine ⟨hp.1, List.pairwise_cons.2 ⟨fun z hz => ?_, hp.2.1⟩, fun a ha' b hb => ?_⟩
    · have := hn z (List.mem_of_mem_drop hz)
      exact ⟨fun e => this.1 e.symm, fun e => this.2 e.symm⟩
    · rcases List.mem_cons.1 hb with rfl | hb
      · exact hn a (List.mem_of_mem_take ha')
      · exact hp.2.2 a ha' b hb
/-- A slot came. -/
theorem PyAt.inserted {V w9 : World} (h : PyAt V B g p jl F y) {t v : Int} {k : Nat} (hk : AtQ y.q t v k) (ho : p.l.Pairwise lessS) {gr ga : Nat} (hr : RgAt V gr ⟨0, 0, 0, 0⟩) (ha : ApAt V ga ⟨0, 0⟩) (hgr : ¬ F gr) (hga : ¬ F ga) {a' : Option Addr} {c' : Nat}
    (hown : OwnK w9 0 a' c' (insQ y.q k ⟨newS t v, gr, ga⟩)) (hg : V.grownBy w9 (Value.slice y.A y.q.length y.c).ownBlock) (hmv : (Value.slice a' 0 0).ownBlock = (Value.slice y.A 0 0).ownBlock ∨ ∃ k, V.heap.size ≤ k ∧ (Value.slice a' 0 0).ownBlock = some k)
    {F' : Nat → Prop} (hF : ∀ k, F k → F' k) (hFr : F' gr) (hFa : F' ga) (hFn : ∀ k, V.heap.size ≤ k → k < w9.heap.size → F' k) (hlt : ∀ k, F' k → B ≤ k ∧ k < w9.heap.size) :
    PyAt (w9.setCell ⟨g, 0, none⟩ (.slice a' (insQ y.q k ⟨newS t v, gr, ga⟩).length c')) B g (withL p (insK (newS t v) p.l)) jl F' ⟨insQ y.q k ⟨newS t v, gr, ga⟩, a', c', y.gd, y.Ad, y.cd⟩ ∧ Touch F V (w9.setCell ⟨g, 0, none⟩ (.slice a' (insQ y.q k ⟨newS t v, gr, ga⟩).length c')) := by
  have hap := h.apart
  have tg : Touch (fun k => (Value.slice y.A y.q.length y.c).ownBlock = some k) V w9 := ⟨hg.os, hg.tape, hg.output, hg.size, fun k hk hp => hg.block k hk (fun e => hp e.symm)⟩
  have hrowF : ∀ b, (Value.slice y.A y.q.length y.c).ownBlock = some b → F b := fun b hb => h.frow b (by rw [← hb]; exact block_any _ _ _ _ _)
  have hq9 : QsAt w9 y.q := h.slots.keep tg (fun j hj e => by
    obtain ⟨z, hz, rfl | rfl⟩ := hj
    · exact own_ne h.row (h.slots.each z hz).1 (by decide) e
    · exact own_ne h.row (h.slots.each z hz).2 (by decide) e)
  have hr9 := hr.touch tg (fun e => hgr (hrowF _ e))
  have ha9 := ha.touch tg (fun e => hga (hrowF _ e))
  have hqi : QsAt w9 (insQ y.q k ⟨newS t v, gr, ga⟩) := hq9.ins hr9 ha9 (fun z hz => ⟨fun e => hgr (by have e2 : z.r = gr := e; rw [← e2]; exact h.fq _ ⟨z, hz, .inl rfl⟩), fun e => hga (by have e2 : z.a = ga := e; rw [← e2]; exact h.fq _ ⟨z, hz, .inr rfl⟩)⟩)
  have hb9 := h.blk.touch tg hap.2.2.2
  have hd9 : DrawOf w9 y.gd y.Ad y.cd jl (placeD jl p.at_) := h.draws.keep tg (own_ne h.row h.draws.blk (by decide)) (fun b hb e =>
    own_own h.row h.draws.own (by decide) (show (Value.slice y.Ad jl.length y.cd).ownBlock = some b by rw [← hb]; exact block_any _ _ _ _ _) e)
  obtain ⟨u, hu⟩ : ∃ u, Value.slice a' (insQ y.q k ⟨newS t v, gr, ga⟩).length c' = u := ⟨_, rfl⟩
  have hgo : (Value.slice a' (insQ y.q k ⟨newS t v, gr, ga⟩).length c').ownBlock ≠ some g := own_ne hown hb9 (by decide)
  have ts : Touch (fun k => k = g) w9 (w9.setCell ⟨g, 0, none⟩ u) := (Touch.refl (fun k => k = g) w9).set_ (a := ⟨g, 0, none⟩) (fun _ => rfl) _
  have hmap : (insQ y.q k ⟨newS t v, gr, ga⟩).map (·.s) = insK (newS t v) p.l := by
    rw [← h.ls] at ho
    rw [ins_map (x := ⟨newS t v, gr, ga⟩) hk ho, h.ls]
  refine ⟨⟨?_, ?_, hmap, ?_, ?_, hF _ h.fg, fun b hb => ?_, hF _ h.fgd, fun b hb => hF _ (h.fdr b hb), fun j hj => ?_, fun j hj => ⟨(hlt j hj).1, by have := (hlt j hj).2; have := ts.size; rw [hu]; omega⟩⟩, ?_⟩
  · exact Blk.set_ hb9 0 _
  · exact ownsRow_setCell_other (a := ⟨g, 0, none⟩) hown hgo _
  · rw [hu]
    exact hqi.keep ts (fun j hj e => by
      subst e
      obtain ⟨z, hz, rfl | rfl⟩ := hj
      · exact blk_ne (hqi.each z hz).1 hb9 (by decide) rfl
      · exact blk_ne (hqi.each z hz).2 hb9 (by decide) rfl)
  · rw [hu]
    exact hd9.keep ts hap.2.1 hap.2.2.1
  · rcases hmv with e | ⟨j, hj, e⟩
    · exact hF _ (h.frow b (by rw [← e]; exact hb))
    · have e2 : j = b := by rw [e] at hb; injection hb
      subst e2
      exact hFn j hj (World.ownsRow.lt hown j (by rw [← e]; exact block_any _ _ _ _ _)).2
  · obtain ⟨z, hz, e⟩ := hj
    rcases ins_mem hz with rfl | hz
    · rcases e with rfl | rfl
      · exact hFr
      · exact hFa
    · exact hF _ (h.fq _ ⟨z, hz, e⟩)
  · rw [hu]
    exact (tg.mono fun j _ e => hrowF j e).trans (ts.mono fun j _ e => by rw [e]; exact h.fg)
/-- Behind the insert's store: the part, what is new, what came along. -/
structure NewP (w w5 WX : World) (B g : Nat) (p : Py) (jl : List Int) (F : Nat → Prop) (y : Lay) (t v : Int) (gr ga N1 N2 k : Nat) : Prop where
  at_ : ∃ a' c', PyAt WX B g (withL p (insK (newS t v) p.l)) jl (grow F w5 WX) ⟨insQ y.q k ⟨newS t v, gr, ga⟩, a', c', y.gd, y.Ad, y.cd⟩
  tch : Touch F w WX
  res : Blk WX N1 67 #[.int .i64 0, .int .i64 0, .pointer none, .pointer none]
  new : Blk WX N2 67 #[.int .i64 t, .int .i64 v, .pointer (some ⟨gr, 0, none⟩), .pointer (some ⟨ga, 0, none⟩)]
set_option maxHeartbeats 8000000 in
theorem come_any (h : PyAt w B g p jl F y) {T : Int} (hok : PyOk T p) (hB : B ≤ w.heap.size) (t v : Int) :
    Calls Try.prog 26 #[.pointer (some ⟨g, 0, none⟩), .agg #[.int .i64 t, .int .i64 v]] w fun e w' => Came w w' B g p jl F t v e := by
  have hb := bel_alloc2 w (.cells #[.int .i64 t, .int .i64 v] 29) (.cells #[.int .i64 0, .int .i64 0, .pointer none, .pointer none] 67)
  have hx := (Blk.new w 29 #[.int .i64 t, .int .i64 v]).alloc (.cells #[.int .i64 0, .int .i64 0, .pointer none, .pointer none] 67)
  have hz := Blk.new (w.alloc (.cells #[.int .i64 t, .int .i64 v] 29)) 67 #[.int .i64 0, .int .i64 0, .pointer none, .pointer none]
  have hsz : (w.alloc (.cells #[.int .i64 t, .int .i64 v] 29)).heap.size = w.heap.size + 1 := by simp
  rw [hsz] at hz
  have h1 := (h.below hb)
  have hlen := h.len
  have hn := hok.len
  obtain ⟨W, hW⟩ : ∃ W, (w.alloc (.cells #[.int .i64 t, .int .i64 v] 29)).alloc (.cells #[.int .i64 0, .int .i64 0, .pointer none, .pointer none] 67) = W := ⟨_, rfl⟩
  rw [hW] at hb hx h1 hz
  have c0 : W.cell? ⟨w.heap.size, 0, none⟩ = some (.int .i64 t) := hx.cell 0
  have c1 : W.cell? ⟨w.heap.size, 1, none⟩ = some (.int .i64 v) := hx.cell 1
  have hf := pfind_any h1 hn t v
  rw [← hW] at c0 c1 hf
  have HF := Lib.hid hf
  have HS := Lib.hid (And.intro h1 (And.intro hb (And.intro hz (And.intro hx hok))))
  have HL := Lib.hid h.lt
  obtain ⟨n, hnn⟩ : ∃ n, y.q.length = n := ⟨_, rfl⟩
  have HN := Lib.hid (And.intro hnn (And.intro hlen hn))
  have HW := Lib.hid hW
  clear h hb hx h1 hlen hn hnn hW hz hsz hf hok
  go_enter Try.func26, Try.ntmps26
  go_wp2_with fail
  refine HF.out.mono ?_
  rw [HW.out]
  rintro e w5 ⟨k, hk, rfl, b5⟩
  have hz5 := HS.out.2.2.1.below b5 HS.out.2.2.1.lt
  have hx5 := HS.out.2.2.2.1.below b5 HS.out.2.2.2.1.lt
  have h5 := HS.out.1.below b5
  have HB5 := Lib.hid (HS.out.2.1.trans (b5.mono HS.out.2.1.size))
  have ho := HS.out.2.2.2.2.ord
  rw [← h5.ls] at ho
  have HO := Lib.hid ho
  have HHAS := Lib.hid (show hereQ y.q t v k = hasK p.l t v by rw [← h5.ls]; exact here_has hk ho)
  clear c0 c1 ho
  cases hh : hereQ y.q t v k with
  | true =>
    obtain ⟨hkl, hkey⟩ := here_iff.1 hh
    obtain ⟨b, off, hA, _, kc⟩ := h5.row.at_ k hkl
    have HK := Lib.hid (And.intro hkl hkey)
    obtain ⟨x, hx⟩ : ∃ x, y.q.getD k qs0 = x := ⟨_, rfl⟩
    rw [hx] at kc
    have HX := Lib.hid hx
    have q0 := kc.c0
    have q1 := kc.c1
    have q2 := kc.c2
    have q3 := kc.c3
    have f0 := hz5.frozen 0
    have f1 := hz5.frozen 1
    have f2 := hz5.frozen 2
    have f3 := hz5.frozen 3
    have z0 := hz5.cell 0
    have z1 := hz5.cell 1
    have z2 := hz5.cell 2
    have z3 := hz5.cell 3
    have cg := h5.c0
    rw [hA, HN.out.1] at cg
    have k0 : (0 : Int) ≤ k := by omega
    have k1 : (k : Int) < n := by rw [← HN.out.1]; omega
    have hres := put4_blk hz5 (.int .i64 x.s.t) (.int .i64 x.s.v) (.pointer (some ⟨x.r, 0, none⟩)) (.pointer (some ⟨x.a, 0, none⟩))
    have htn := put4_touch w5 (w.heap.size + 1) (.int .i64 x.s.t) (.int .i64 x.s.v) (.pointer (some ⟨x.r, 0, none⟩)) (.pointer (some ⟨x.a, 0, none⟩))
    have hfin := h5.keep htn (fun j hj e => by have := (HL.out j hj).2; omega)
    have HE := Lib.hid (And.intro hres (And.intro (touch_new (below_touch HB5.out F) (by omega) htn) (hfin.grown (w0 := w) HL.out hB (Nat.le_trans HB5.out.size htn.size))))
    have HR := Lib.hid (show roomP p t v = some p by unfold roomP; rw [if_pos (HHAS.out.symm.trans hh)])
    clear hz5 hx5 b5 hk hh hres hkl hA kc hx hkey htn hfin h5 hB
    go_wp2_with fail
    refine bodyPost_ret (kresults_pair rfl _ _ (w.heap.size + 1) 67 _ rfl HE.out.1 rfl) rfl ⟨HE.out.2.1, .inl ⟨p, y, k, HR.out, HE.out.2.2, HK.out.1, HK.out.2, ?_⟩⟩
    rw [HX.out]
    rfl
  | false =>
    have hnot : hasK p.l t v = false := by rw [← HHAS.out]; exact hh
    have cg := h5.c0
    rw [HN.out.1] at cg
    by_cases hfull : 16 ≤ n
    · obtain ⟨fl, hfl⟩ : ∃ fl, wrap64 (p.fails : Int) = fl := ⟨_, rfl⟩
      have c4 := h5.c4
      rw [hfl] at c4
      have f4 := h5.blk.frozen 4
      have hb2 := Blk.set_ h5.blk 4 (.int .i64 (wrap64 (fl + 1)))
      have hhd := h5.head (p' := failP p) 4 (.int .i64 (wrap64 (fl + 1))) rfl rfl (by
        rw [show wrap64 ((failP p).fails : Int) = wrap64 (fl + 1) by rw [← hfl, wrap_succ]; rfl]
        exact hb2)
      have hne : w.heap.size + 1 ≠ g := fun e => by have := (HL.out g h5.fg).2; omega
      have hz6 := hz5.far (a := ⟨g, 4, none⟩) hne (.int .i64 (wrap64 (fl + 1)))
      have f0 := hz6.frozen 0
      have f1 := hz6.frozen 1
      have f2 := hz6.frozen 2
      have f3 := hz6.frozen 3
      have z0 := hz6.cell 0
      have z1 := hz6.cell 1
      have z2 := hz6.cell 2
      have z3 := hz6.cell 3
      have hres := put4_blk hz6 (.int .i64 0) (.int .i64 0) (.pointer none) (.pointer none)
      have htn := put4_touch (w5.setCell ⟨g, 4, none⟩ (.int .i64 (wrap64 (fl + 1)))) (w.heap.size + 1) (.int .i64 0) (.int .i64 0) (.pointer none) (.pointer none)
      have hfin := hhd.1.keep htn (fun j hj e => by have := (HL.out j hj).2; omega)
      have HE := Lib.hid (And.intro hres (And.intro (touch_new ((below_touch HB5.out F).trans hhd.2) (by omega) htn) hfin))
      have HR := Lib.hid (show roomP p t v = none by unfold roomP; rw [if_neg (by rw [hnot]; decide), if_pos (by rw [← HN.out.2.1, HN.out.1]; exact hfull)])
      have e16 : (16 : Int) ≤ n := by omega
      clear hz5 hx5 b5 hk hh hres htn hfin h5 hB hnot hfull hfl hb2 hhd hne hz6
      go_wp2_with fail
      exact bodyPost_ret (kresults_pair rfl _ _ (w.heap.size + 1) 67 _ rfl HE.out.1 rfl) rfl ⟨HE.out.2.1, .inr ⟨HR.out, rfl, y, HE.out.2.2⟩⟩
    · have e16 : (n : Int) < 16 := by omega
      have HRN := Lib.hid (reg_new w5)
      have H5 := Lib.hid (And.intro h5 (And.intro hz5 (And.intro hx5 (And.intro hk (And.intro hnot hfull)))))
      have HBB := Lib.hid hB
      clear hz5 hx5 b5 hk hh h5 hB hnot hfull
      go_wp2_with fail
      refine HRN.out.mono ?_
      rintro e w6 ⟨gr, rfl, hr6, b6, hgr⟩
      have hx6 := H5.out.2.2.1.below b6 H5.out.2.2.1.lt
      have c0 : w6.cell? ⟨w.heap.size, 0, none⟩ = some (.int .i64 t) := hx6.cell 0
      have c1 : w6.cell? ⟨w.heap.size, 1, none⟩ = some (.int .i64 v) := hx6.cell 1
      have h6 := H5.out.1.below b6
      have hz6 := H5.out.2.1.below b6 H5.out.2.1.lt
      have hb8 := bel_alloc2 w6 (.cells #[.int .i64 0, .int .i64 0] 95) (.cells #[.int .i64 t, .int .i64 v, .pointer (some ⟨gr, 0, none⟩), .pointer (some ⟨w6.heap.size, 0, none⟩)] 67)
      have hap8 : ApAt ((w6.alloc (.cells #[.int .i64 0, .int .i64 0] 95)).alloc (.cells #[.int .i64 t, .int .i64 v, .pointer (some ⟨gr, 0, none⟩), .pointer (some ⟨w6.heap.size, 0, none⟩)] 67)) w6.heap.size ⟨0, 0⟩ := (Blk.new w6 95 #[.int .i64 0, .int .i64 0]).alloc _
      have hk8 := Blk.new (w6.alloc (.cells #[.int .i64 0, .int .i64 0] 95)) 67 #[.int .i64 t, .int .i64 v, .pointer (some ⟨gr, 0, none⟩), .pointer (some ⟨w6.heap.size, 0, none⟩)]
      have hs8 : (w6.alloc (.cells #[.int .i64 0, .int .i64 0] 95)).heap.size = w6.heap.size + 1 := by simp
      rw [hs8] at hk8
      obtain ⟨W8, hW8⟩ : ∃ W8, (w6.alloc (.cells #[.int .i64 0, .int .i64 0] 95)).alloc (.cells #[.int .i64 t, .int .i64 v, .pointer (some ⟨gr, 0, none⟩), .pointer (some ⟨w6.heap.size, 0, none⟩)] 67) = W8 := ⟨_, rfl⟩
      rw [hW8] at hb8 hap8 hk8
      have hr8 := hr6.below hb8 hr6.lt
      have h8 := h6.below hb8
      have hz8 := hz6.below hb8 hz6.lt
      have HW8 := Lib.hid hW8
      have hbw8 : Below w.heap.size w W8 := HB5.out.trans ((b6.trans (hb8.mono b6.size)).mono HB5.out.size)
      have hg0 : W8.drew.cell? ⟨g, 0, none⟩ = some (.slice y.A n y.c) := by rw [← HN.out.1]; exact h8.c0
      have hg1 : ∀ o : Obj, (W8.alloc o).cell? ⟨g, 0, none⟩ = some (.slice y.A n y.c) := fun o => by rw [← HN.out.1]; exact (h8.below (bel_alloc W8 o)).c0
      have hk0 : W8.drew.cell? ⟨w6.heap.size + 1, 0, none⟩ = some (.int .i64 t) := hk8.cell 0
      have hk1 : W8.drew.cell? ⟨w6.heap.size + 1, 1, none⟩ = some (.int .i64 v) := hk8.cell 1
      have hk2 : W8.drew.cell? ⟨w6.heap.size + 1, 2, none⟩ = some (.pointer (some ⟨gr, 0, none⟩)) := hk8.cell 2
      have hk3 : W8.drew.cell? ⟨w6.heap.size + 1, 3, none⟩ = some (.pointer (some ⟨w6.heap.size, 0, none⟩)) := hk8.cell 3
      have HINS := Lib.hid (fun (V : World) (hV : PyAt V B g p jl F y ∧ Blk V W8.heap.size 67 #[.int .i64 t, .int .i64 v, .pointer (some ⟨gr, 0, none⟩), .pointer (some ⟨w6.heap.size, 0, none⟩)]) => show Calls Try.prog 53 #[.slice y.A n y.c, .int .i64 (k : Int), .slice (some ⟨W8.heap.size, 0, none⟩) 1 1] V _ by
        rw [← HN.out.1]
        exact insert_any y.A y.c k W8.heap.size y.q ⟨newS t v, gr, w6.heap.size⟩ 0 V hV.1.row (by have := HN.out; omega) hV.2 (fun e => by have h1 := (HL.out _ (H5.out.1.frow _ (by rw [← e]; exact block_any _ _ _ _ _))).2; have h2 := hbw8.size; omega) H5.out.2.2.2.1.le (Nat.zero_le _))
      have HV1 := Lib.hid (show PyAt (W8.alloc (.cells #[.int .i64 t, .int .i64 v, .pointer (some ⟨gr, 0, none⟩), .pointer (some ⟨w6.heap.size, 0, none⟩)] 67)).drew B g p jl F y ∧ Blk (W8.alloc (.cells #[.int .i64 t, .int .i64 v, .pointer (some ⟨gr, 0, none⟩), .pointer (some ⟨w6.heap.size, 0, none⟩)] 67)).drew W8.heap.size 67 #[.int .i64 t, .int .i64 v, .pointer (some ⟨gr, 0, none⟩), .pointer (some ⟨w6.heap.size, 0, none⟩)] from ⟨(h8.below (bel_alloc _ _)).drew, (Blk.new _ _ _).drew⟩)
      have HV2 := Lib.hid (show PyAt (W8.drew.alloc (.cells #[.int .i64 t, .int .i64 v, .pointer (some ⟨gr, 0, none⟩), .pointer (some ⟨w6.heap.size, 0, none⟩)] 67)) B g p jl F y ∧ Blk (W8.drew.alloc (.cells #[.int .i64 t, .int .i64 v, .pointer (some ⟨gr, 0, none⟩), .pointer (some ⟨w6.heap.size, 0, none⟩)] 67)) W8.heap.size 67 #[.int .i64 t, .int .i64 v, .pointer (some ⟨gr, 0, none⟩), .pointer (some ⟨w6.heap.size, 0, none⟩)] from ⟨h8.drew.below (bel_alloc _ _), Blk.new W8.drew _ _⟩)
      have H8 := Lib.hid (And.intro h8 (And.intro hz8 (And.intro hr8 (And.intro hap8 (And.intro hk8 (And.intro hbw8 (And.intro hb8 (And.intro b6 hgr))))))))
      have HS2 := Lib.hid (show w6.heap.size + 2 = W8.heap.size by rw [← hW8]; simp)
      have i0 : (0 : Int) ≤ k := by omega
      have HAFT := Lib.hid (fun (V : World) (hV : PyAt V B g p jl F y) (hb : Below W8.heap.size W8 V) (w9 : World) (a' : Option Addr) (c' : Nat) (ho9 : OwnK w9 0 a' c' (insQ y.q k ⟨newS t v, gr, w6.heap.size⟩)) (hg9 : V.grownBy w9 (Value.slice y.A y.q.length y.c).ownBlock) (hmv : (Value.slice a' 0 0).ownBlock = (Value.slice y.A 0 0).ownBlock ∨ ∃ k, V.heap.size ≤ k ∧ (Value.slice a' 0 0).ownBlock = some k) =>
        show w9.frozen? ⟨g, 0, none⟩ = false ∧ w9.cell? ⟨g, 0, none⟩ = some (.slice y.A n y.c) ∧ NewP w w5 (w9.setCell ⟨g, 0, none⟩ (.slice a' (insQ y.q k ⟨newS t v, gr, w6.heap.size⟩).length c')) B g p jl F y t v gr w6.heap.size (w.heap.size + 1) (w6.heap.size + 1) k by
        have s8 := H8.out.2.2.2.2.2.1.size
        have s6 := H8.out.2.2.2.2.2.2.1.size
        have s65 := H8.out.2.2.2.2.2.2.2.1.size
        have s5 := HB5.out.size
        have sg := H8.out.2.2.2.2.2.2.2.2
        have hrl := H8.out.2.2.1.lt
        have hkl := H8.out.2.2.2.2.1.lt
        have sV := hb.size
        have s9 := hg9.size
        have ins := hV.inserted H5.out.2.2.2.1 HS.out.2.2.2.2.ord (H8.out.2.2.1.below hb hrl) (H8.out.2.2.2.1.below hb H8.out.2.2.2.1.lt) (fun e => by have := (HL.out _ e).2; omega) (fun e => by have := (HL.out _ e).2; omega) ho9 hg9 hmv (F' := grow F w5 w9) (fun _ e => .inl e) (.inr (by omega)) (.inr (by omega)) (fun j h1 h2 => .inr (by omega)) (fun j hj => by
          rcases hj with hj | hj
          · have := HL.out j hj; omega
          · have := HBB.out; have := hj.1; have := hj.2; omega)
        have hrow : ∀ N, w.heap.size ≤ N → N < V.heap.size → w9.heap[N]? = V.heap[N]? := fun N h1 h2 => hg9.block N h2 (fun e => by
          have := (HL.out N (hV.frow N (by rw [e]; exact block_any _ _ _ _ _))).2
          omega)
        have hb9 : Blk w9 g 61 #[.slice y.A y.q.length y.c, .pointer (some ⟨y.gd, 0, none⟩), .int .i64 p.due, .bool p.ask, .int .i64 (wrap64 p.fails)] := blk_grown hV.blk hV.row (by decide) hg9
        have hgl := (HL.out g hV.fg).2
        have hres : Blk w9 (w.heap.size + 1) 67 #[.int .i64 0, .int .i64 0, .pointer none, .pointer none] := (hrow _ (by omega) (by have := H8.out.2.1.lt; omega)).trans (H8.out.2.1.below hb H8.out.2.1.lt)
        have hnew : Blk w9 (w6.heap.size + 1) 67 #[.int .i64 t, .int .i64 v, .pointer (some ⟨gr, 0, none⟩), .pointer (some ⟨w6.heap.size, 0, none⟩)] := (hrow _ (by omega) (by omega)).trans (H8.out.2.2.2.2.1.below hb hkl)
        have hcell := hb9.cell 0
        rw [HN.out.1] at hcell
        refine ⟨hb9.frozen 0, hcell, ⟨a', c', ?_⟩, (below_touch (H8.out.2.2.2.2.2.1) F).trans ((below_touch hb F).trans ins.2), hres.far (by show w.heap.size + 1 ≠ g; omega) _, hnew.far (by show w6.heap.size + 1 ≠ g; omega) _⟩
        refine ins.1.wide (fun j hj => ?_) (fun j hj => ?_)
        · rcases hj with hj | hj
          · exact .inl hj
          · exact .inr (by simpa [World.setCell] using hj)
        · rcases hj with hj | hj
          · have := HL.out j hj
            simp [World.setCell]
            omega
          · have h1 := hj.1
            have h2 := HBB.out
            exact ⟨by omega, hj.2⟩)
      have HBL1 := Lib.hid (show Below W8.heap.size W8 (W8.alloc (.cells #[.int .i64 t, .int .i64 v, .pointer (some ⟨gr, 0, none⟩), .pointer (some ⟨w6.heap.size, 0, none⟩)] 67)).drew from (bel_alloc _ _).drew)
      have HLEN := Lib.hid (insQ_length y.q k ⟨newS t v, gr, w6.heap.size⟩ H5.out.2.2.2.1.le)
      clear hr6 b6 hgr hx6 h6 hz6 hb8 hap8 hk8 hs8 hW8 hr8 h8 hz8 hbw8
      go_wp2_with fail
      rw [HW8.out]
      go_region_law ((first
        | (go_simp; go_at_call 53; (with_reducible (refine (HINS.out _ HV1.out).mono ?_)); rintro e w9 ⟨a', c', rfl, ho9, hg9, hmv⟩; obtain ⟨f0, d0, hfin⟩ := HAFT.out _ HV1.out.1 HBL1.out w9 a' c' ho9 hg9 hmv; have HFIN := Lib.hid hfin; clear ho9 hg9 hmv hfin)))
      all_goals
        refine step_world (q := fun WX => NewP w w5 WX B g p jl F y t v gr w6.heap.size (w.heap.size + 1) (w6.heap.size + 1) k) HFIN.out ?_
        rintro WX hN
        clear HFIN f0 d0 hg0 hg1 hk0 hk1 hk2 hk3 c0 c1 cg
        have m0 := hN.new.cell 0
        have m1 := hN.new.cell 1
        have m2 := hN.new.cell 2
        have m3 := hN.new.cell 3
        have f0 := hN.res.frozen 0
        have f1 := hN.res.frozen 1
        have f2 := hN.res.frozen 2
        have f3 := hN.res.frozen 3
        have z0 := hN.res.cell 0
        have z1 := hN.res.cell 1
        have z2 := hN.res.cell 2
        have z3 := hN.res.cell 3
        obtain ⟨A1, C1, hat⟩ := hN.at_
        have htn := put4_touch WX (w.heap.size + 1) (.int .i64 t) (.int .i64 v) (.pointer (some ⟨gr, 0, none⟩)) (.pointer (some ⟨w6.heap.size, 0, none⟩))
        have hres := put4_blk hN.res (.int .i64 t) (.int .i64 v) (.pointer (some ⟨gr, 0, none⟩)) (.pointer (some ⟨w6.heap.size, 0, none⟩))
        have hlt5 := H5.out.2.1.lt
        have hfin := hat.keep htn (fun j hj e => by
          rcases hj with hj | hj
          · have := (HL.out j hj).2; omega
          · omega)
        have hs5 := HB5.out.size
        have hfin2 := hfin.wide (F' := grow F w (put4 WX (w.heap.size + 1) (.int .i64 t) (.int .i64 v) (.pointer (some ⟨gr, 0, none⟩)) (.pointer (some ⟨w6.heap.size, 0, none⟩)))) (fun j hj => by
          rcases hj with hj | hj
          · exact .inl hj
          · have := htn.size; exact .inr (by omega)) (grow_lt HL.out HBB.out (Nat.le_trans hN.tch.size htn.size))
        have htt := touch_new hN.tch (by omega) htn
        have hpos := ins_getD (x := ⟨newS t v, gr, w6.heap.size⟩) H5.out.2.2.2.1.le
        have hroom : roomP p t v = some (withL p (insK (newS t v) p.l)) := by
          unfold roomP
          rw [if_neg (by rw [H5.out.2.2.2.2.1]; decide), if_neg (by rw [← HN.out.2.1, HN.out.1]; exact H5.out.2.2.2.2.2)]
        have HE := Lib.hid (And.intro hres (And.intro htt (And.intro hroom (And.intro hfin2 hpos))))
        clear hN hat htn hres hfin hfin2 htt hpos hroom hs5 hlt5
        go_wp2_with fail
        refine bodyPost_ret (kresults_pair rfl _ _ (w.heap.size + 1) 67 _ rfl HE.out.1 rfl) rfl ⟨HE.out.2.1, .inl ⟨_, _, k, HE.out.2.2.1, HE.out.2.2.2.1, ?_, ?_, ?_⟩⟩
        · show k < (insQ y.q k _).length
          rw [HLEN.out]
          have := H5.out.2.2.2.1.le
          omega
        · show ((insQ y.q k _).getD k qs0).s.t = t ∧ ((insQ y.q k _).getD k qs0).s.v = v
          rw [HE.out.2.2.2.2]
          exact ⟨rfl, rfl⟩
        · show _ = Ending.returned (.tuple #[((insQ y.q k _).getD k qs0).val, .bool true])
          rw [HE.out.2.2.2.2]
          rfl
end
end
end Go.Proofs.Ythghedlgeceepaa
