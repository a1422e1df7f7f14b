/- RelayBounds (layer 19), over what the program's relay must answer. Its condition: the form's reach. -/
import Derived.Test.YtnhnllkcnpbgoaaRlIs
import Derived.BigQuiet
namespace Go.Proofs.Ytnhnllkcnpbgoaa
open Go.RowKit
set_option maxRecDepth 100000

theorem map_px (l : List Px) (k : Nat) : (l.map Px.p).getD k po0 = (l.getD k px0).p := by
  rw [List.getD_eq_getElem?_getD, List.getElem?_map, List.getD_eq_getElem?_getD]
  cases l[k]? <;> rfl
/-- What is so of each that is sent. -/
structure SentOk (l : List Px) (i : Int) (f : Fr) (x : Se) : Prop where
  i0 : 0 ≤ i
  i1 : i < l.length
  lt : x.p < l.length
  ne : (x.p : Int) ≠ i
  st : (l.getD x.p px0).st = 2
  mem : classP (l.getD i.toNat px0).pv f ∈ (l.getD x.p px0).ms
  dst : x.f.dst = f.dst
  src : x.f.src = f.src
  data : x.f.data = f.data
theorem sent_ok {l : List Px} {i : Int} {f : Fr} {known : Int} {x : Se} (h : x ∈ rlP l i f known) : SentOk l i f x := by
  obtain ⟨h1, h2, h3, h4⟩ := relayP_mem h
  rw [List.length_map] at h2
  unfold goesB at h1
  unfold leavesB at h3
  rw [map_px] at h1
  rw [map_px, map_px] at h3
  simp only [Bool.and_eq_true, decide_eq_true_eq, List.length_map] at h1 h3
  refine ⟨h1.1.1.1.1.1, h1.1.1.1.1.2, h2, h3.1.1.1, h3.1.1.2, h3.1.2, ?_, ?_, ?_⟩
  all_goals
    rw [h4]
    unfold asP
    split <;> rfl
theorem se_mem {r : List Se} {k : Nat} (h : k < r.length) : r.getD k se0 ∈ r := by
  rw [List.getD_eq_getElem?_getD, List.getElem?_eq_getElem h]
  exact List.getElem_mem h
theorem se_up {l : List Px} {i : Int} {f : Fr} {known : Int} {k : Nat} (h : k + 1 < (rlP l i f known).length) : ((rlP l i f known).getD k se0).p < ((rlP l i f known).getD (k + 1) se0).p := by
  have := List.pairwise_iff_getElem.1 (relayP_up (l.map Px.p) i f known) k (k + 1) (by show k < (rlP l i f known).length; omega) h (by omega)
  rw [List.getD_eq_getElem?_getD, List.getD_eq_getElem?_getD, List.getElem?_eq_getElem h, List.getElem?_eq_getElem (show k < (rlP l i f known).length by omega)]
  exact this
theorem rlS_new (l : List Px) (i : Int) (f : Fr) : rlS l i f ⟨[], 0⟩ = rlP l i f (-1) := rfl
theorem take_mem {ms : List Int} {k : Nat} (hk : k < ms.length) (c : Int) : c ∈ ms.take (k + 1) ↔ c ∈ ms.take k ∨ ms.getD k 0 = c := by
  rw [List.take_add_one, List.mem_append, List.getD_eq_getElem?_getD, List.getElem?_eq_getElem hk]
  simp only [Option.toList_some, List.mem_singleton, Option.getD_some]
  exact ⟨fun h => h.imp id Eq.symm, fun h => h.imp id Eq.symm⟩
set_option maxHeartbeats 16000000 in
theorem walkBounds (H : RelayIs) (A : Option Addr) (c : Nat) (l : List Px) (i : Int) (f : Fr) (Ap : Option Addr) (cp : Nat) (pl : List Pl) (w : World) (hA : PxAt w w.heap.size A l) (hl : l.length * 48 ≤ 140737488351232) (hP : PlsAt w w.heap.size Ap pl) (hm : pl.length ≤ maxLen) :
    Calls Try.prog 3 #[.slice A l.length c, .int .i64 i, f.v, .slice Ap pl.length cp] w fun e w' => e = .returned (.bool true) ∧ Below w.heap.size w w' := by
  have HAL := Lib.hid (fun W => rlalive_any H W)
  have HPL := Lib.hid (fun (W : World) (hb : Below w.heap.size w W) => rlplain_any A c l W ((hA.below hb).more hb.size) hl)
  have HTB := Lib.hid (fun (W : World) (hb : Below w.heap.size w W) (h40 : pl.length ≤ 40) => table_any Ap cp pl W ((hP.below hb).more hb.size) h40)
  have HRT := Lib.hid (fun (W : World) (hb : Below w.heap.size w W) (g : Nat) (B : Nat) (F : Nat → Prop) (s : Dt) (hp : Pt W B F g s) (hs : Srt s.l) (hi : Single s.l) (hn : s.l.length ≤ 40) (hf : PxFew l) (hd : f.data.size ≤ 1000) => H.relay (c := c) i f ((hA.below hb).more hb.size) hf hd hp hs hi hn)
  have HR0 := Lib.hid (fun (W : World) (hb : Below w.heap.size w W) (hf : PxFew l) (hd : f.data.size ≤ 1000) => H.relay0 (c := c) i f ((hA.below hb).more hb.size) hf hd)
  have HOK := Lib.hid (fun (known : Int) (x : Se) (h : x ∈ rlP l i f known) => sent_ok h)
  have HSF := Lib.hid (And.intro hA (And.intro (table_ok pl pl.length).1 (And.intro (table_ok pl pl.length).2 (table_single pl pl.length))))
  obtain ⟨n, hnn⟩ : ∃ n, l.length = n := ⟨_, rfl⟩
  obtain ⟨m, hmm⟩ : ∃ m, pl.length = m := ⟨_, rfl⟩
  have HN := Lib.hid (And.intro hnn (And.intro hmm hm))
  have HF := Lib.hid (show ∃ g : Fr, g = f from ⟨f, rfl⟩)
  obtain ⟨f0, f1, f2, f3, f4, f5, f6⟩ := f
  show Calls _ _ #[_, _, .agg #[.int .i64 f0, .int .i64 f1, .bool f2, .int .i64 f3, .int .i64 f4, .int .i64 f5, .string f6], _] w _
  have hbx := Blk.new w 24 #[.int .i64 f0, .int .i64 f1, .bool f2, .int .i64 f3, .int .i64 f4, .int .i64 f5, .string f6]
  have hb0 := bel_alloc w (.cells #[.int .i64 f0, .int .i64 f1, .bool f2, .int .i64 f3, .int .i64 f4, .int .i64 f5, .string f6] 24)
  have HBX := Lib.hid (And.intro hbx hb0)
  rw [hnn] at HPL HRT HR0 ⊢
  rw [hmm] at HTB HSF ⊢
  clear hA hl hP hm hnn hmm hbx hb0 HF
  go_enter Try.func3, Try.ntmps3
  go_wp2_with fail
  refine (HAL.out _).mono ?_
  rintro e w1 ⟨rfl, b1⟩
  have HB1 := Lib.hid (HBX.out.2.trans (b1.mono HBX.out.2.size))
  have HX1 := Lib.hid (HBX.out.1.below b1 HBX.out.1.lt)
  clear b1
  go_wp2_with fail
  refine (HPL.out _ HB1.out).mono ?_
  rintro e w2 ⟨hres, b2⟩
  have HB2 := Lib.hid (HB1.out.trans (b2.mono HB1.out.size))
  have HX2 := Lib.hid (HX1.out.below b2 HX1.out.lt)
  have x6 : w2.cell? ⟨w.heap.size, 6, none⟩ = some (.string f6) := HX2.out.cell 6
  clear b2
  rcases hres with ⟨z, rfl⟩ | ⟨A1, c1, rfl, hv, hc1, hfew⟩
  · go_wp2_with fail
    go_ret
    exact ⟨rfl, HB2.out⟩
  have HV := Lib.hid (And.intro hv (And.intro hc1 hfew))
  clear hv hc1 hfew
  by_cases h40 : 40 < (m : Int)
  · go_wp2_with fail
    go_ret
    exact ⟨rfl, HB2.out⟩
  have h40' : (m : Int) ≤ 40 := by omega
  clear h40
  by_cases h1k : 1000 < (f6.size : Int)
  · go_wp2_with fail
    go_ret
    exact ⟨rfl, HB2.out⟩
  have h1k' : (f6.size : Int) ≤ 1000 := by omega
  clear h1k
  obtain ⟨sl, hsl⟩ : ∃ sl, rlS l i ⟨f0, f1, f2, f3, f4, f5, f6⟩ (tableS pl m) = sl := ⟨_, rfl⟩
  have HSE := Lib.hid (show ∀ k, k < sl.length → SentOk l i ⟨f0, f1, f2, f3, f4, f5, f6⟩ (sl.getD k se0) from fun k hk => HOK.out _ _ (by have := se_mem hk; rw [← hsl] at this ⊢; exact this))
  have HUP := Lib.hid (show ∀ k, k + 1 < sl.length → (sl.getD k se0).p < (sl.getD (k + 1) se0).p from fun k hk => by rw [← hsl] at hk ⊢; exact se_up hk)
  have hk := fun (V : World) (hb : Below w2.heap.size w2 V) => show V.cell? ⟨w.heap.size, 0, none⟩ = some (.int .i64 f0) ∧ V.cell? ⟨w.heap.size, 1, none⟩ = some (.int .i64 f1) ∧ V.cell? ⟨w.heap.size, 2, none⟩ = some (.bool f2) ∧ V.cell? ⟨w.heap.size, 3, none⟩ = some (.int .i64 f3) ∧ V.cell? ⟨w.heap.size, 4, none⟩ = some (.int .i64 f4) ∧ V.cell? ⟨w.heap.size, 5, none⟩ = some (.int .i64 f5) ∧ V.cell? ⟨w.heap.size, 6, none⟩ = some (.string f6) from by
    have q := HX2.out.below hb HX2.out.lt
    exact ⟨q.cell 0, q.cell 1, q.cell 2, q.cell 3, q.cell 4, q.cell 5, q.cell 6⟩
  have HK := Lib.hid hk
  have HSL := Lib.hid (show sl.length ≤ l.length by rw [← hsl]; have := relayP_len (l.map Px.p) i ⟨f0, f1, f2, f3, f4, f5, f6⟩ (findS (tableS pl m).l (classP (l.getD i.toNat px0).pv ⟨f0, f1, f2, f3, f4, f5, f6⟩) f0); rw [List.length_map] at this; exact this)
  have cD := hk w2.drew (Below.refl _ w2).drew
  obtain ⟨rn, hrn⟩ : ∃ rn, sl.length = rn := ⟨_, rfl⟩
  have HRN := Lib.hid hrn
  have hd1k : f6.size ≤ 1000 := by omega
  have HT : Hid (Calls Try.prog 8 #[.slice Ap m cp] w2.drew fun e V => ∃ g : Nat, e = .returned (.pointer (some ⟨g, 0, none⟩)) ∧ (V.cell? ⟨w.heap.size, 0, none⟩ = some (.int .i64 f0) ∧ V.cell? ⟨w.heap.size, 1, none⟩ = some (.int .i64 f1) ∧ V.cell? ⟨w.heap.size, 2, none⟩ = some (.bool f2) ∧ V.cell? ⟨w.heap.size, 3, none⟩ = some (.int .i64 f3) ∧ V.cell? ⟨w.heap.size, 4, none⟩ = some (.int .i64 f4) ∧ V.cell? ⟨w.heap.size, 5, none⟩ = some (.int .i64 f5) ∧ V.cell? ⟨w.heap.size, 6, none⟩ = some (.string f6)) ∧ Below w2.heap.size w2 V ∧ Hid (Calls Try.prog 7 #[.slice A n c, .int .i64 i, .agg #[.int .i64 f0, .int .i64 f1, .bool f2, .int .i64 f3, .int .i64 f4, .int .i64 f5, .string f6], .pointer (some ⟨g, 0, none⟩)] V fun e w' => ∃ A' c', e = .returned (.slice A' rn c') ∧ (w'.cell? ⟨w.heap.size, 0, none⟩ = some (.int .i64 f0) ∧ w'.cell? ⟨w.heap.size, 1, none⟩ = some (.int .i64 f1) ∧ w'.cell? ⟨w.heap.size, 2, none⟩ = some (.bool f2) ∧ w'.cell? ⟨w.heap.size, 3, none⟩ = some (.int .i64 f3) ∧ w'.cell? ⟨w.heap.size, 4, none⟩ = some (.int .i64 f4) ∧ w'.cell? ⟨w.heap.size, 5, none⟩ = some (.int .i64 f5) ∧ w'.cell? ⟨w.heap.size, 6, none⟩ = some (.string f6)) ∧ SeAt w' w'.heap.size A' sl ∧ Below V.heap.size V w')) := Lib.hid ((HTB.out w2.drew HB2.out.drew (by have := HN.out; omega)).mono fun e V hh => by
    obtain ⟨g, F, rfl, b5, p5⟩ := hh
    have b6 : Below w2.heap.size w2 V := ⟨b5.os, b5.tape, b5.output, b5.size, b5.block⟩
    refine ⟨g, rfl, hk V b6, b6, Lib.hid ((HRT.out V (HB2.out.trans (b6.mono HB2.out.size)) g _ F _ p5 HSF.out.2.1 HSF.out.2.2.2 (by have := HSF.out.2.2.1; have := HN.out; omega) HV.out.2.2 hd1k).mono fun e w' hh => ?_)⟩
    obtain ⟨A', c', h1, h2, h3⟩ := hh
    rw [hsl] at h1 h2
    rw [hrn] at h1
    exact ⟨A', c', h1, hk w' (b6.trans (h3.mono b6.size)), h2, h3⟩)
  have h0n : (0 : Int) ≤ rn := by omega
  clear hk hsl HSF HTB HOK hrn
  go_wp2_with fail
  go_region_held3 (fun V => V.cell? ⟨w.heap.size, 0, none⟩ = some (.int .i64 f0) ∧ V.cell? ⟨w.heap.size, 1, none⟩ = some (.int .i64 f1) ∧ V.cell? ⟨w.heap.size, 2, none⟩ = some (.bool f2) ∧ V.cell? ⟨w.heap.size, 3, none⟩ = some (.int .i64 f3) ∧ V.cell? ⟨w.heap.size, 4, none⟩ = some (.int .i64 f4) ∧ V.cell? ⟨w.heap.size, 5, none⟩ = some (.int .i64 f5) ∧ V.cell? ⟨w.heap.size, 6, none⟩ = some (.string f6))
    (first
      | (with_reducible exact cD)
      | (with_reducible exact cA)
      | (with_reducible exact cB)
      | fail)
    (first
      | (go_at_call 8; (with_reducible refine HT.out.mono ?_); rintro e w3 ⟨gt, rfl, cA, b3, HR⟩)
      | (go_at_call 7; (with_reducible refine HR.out.mono ?_); rintro e w4 ⟨A', c', rfl, cB, hs, b4⟩))
  have HB4 := Lib.hid (show Below w2.heap.size w2 w4 from b3.trans (b4.mono b3.size))
  have HS4 := Lib.hid hs
  have HV4 := Lib.hid (show PxAt w4 w4.heap.size A1 l from (HV.out.1.below HB4.out).more HB4.out.size)
  have HX4 := Lib.hid (HX2.out.below HB4.out HX2.out.lt)
  clear cA cB cD hs b3 b4 HT HR x6
  go_wp2_with fail
  go_loopw [11, 47] (fun lv jv wr => ∃ (j : Nat) (La : Int), j ≤ rn ∧ jv = .int .i64 j ∧ lv = .int .i64 La ∧ Hid (Below w4.heap.size w4 wr ∧ (j < rn → La < (sl.getD j se0).p))) (fun _ jv _ => rn - (intOf jv).toNat)
  case atStart => exact ⟨0, -1, Nat.zero_le _, rfl, rfl, Lib.hid ⟨Below.refl _ _, fun _ => by omega⟩⟩
  case round =>
    obtain ⟨j, La, hj, rfl, rfl, hS⟩ := hrel
    by_cases hlt : j < rn
    · obtain ⟨b, off, rfl, hbl, hc⟩ := HS4.out j (by rw [HRN.out]; exact hlt)
      have hc := hc.below hS.out.1 hbl
      have hx := HSE.out j (by rw [HRN.out]; exact hlt)
      have hla := hS.out.2 hlt
      have HNX := Lib.hid (show j + 1 < rn → ((sl.getD j se0).p : Int) < (sl.getD (j + 1) se0).p from fun h => by have := HUP.out j (by rw [HRN.out]; exact h); omega)
      obtain ⟨x, hxx⟩ : ∃ x, sl.getD j se0 = x := ⟨_, rfl⟩
      rw [hxx] at hc hx hla HNX
      obtain ⟨xp, xd, xs, xt, xv, xq, xy, xdata⟩ := x
      obtain ⟨hi0, hi1, hxl, hxne, hxst, hxm, hxd, hxs, hxdata⟩ := hx
      simp only at hxl hxne hxst hxm hxd hxs hxdata hla HNX
      obtain ⟨q0, q1, q2, q3, q4, q5, q6, q7⟩ := hc
      simp only at q0 q1 q2 q3 q4 q5 q6 q7
      rw [hxd] at q1
      rw [hxs] at q2
      rw [hxdata] at q7
      obtain ⟨ni, hni⟩ : ∃ ni : Nat, i = ni := ⟨i.toNat, by omega⟩
      subst hni
      have hnl : ni < l.length := by omega
      rw [Int.toNat_natCast] at hxm
      obtain ⟨⟨bA, oA, rfl, hbA, hcA⟩, hms⟩ := HV4.out xp hxl
      obtain ⟨⟨bA', oA', eA, _, hcI⟩, _⟩ := HV4.out ni hnl
      injection eA with eA
      injection eA with eA1 eA2
      subst eA1 eA2
      obtain ⟨wo, hwo⟩ : ∃ wo, wo = wr := ⟨_, rfl⟩
      subst hwo
      have hal := bel_alloc wo (.cells #[.int .i64 (xp : Int), .int .i64 f0, .int .i64 f1, .bool xt, .int .i64 xv, .int .i64 xq, .int .i64 xy, .string f6] 35)
      have zx := Blk.new wo 35 #[.int .i64 (xp : Int), .int .i64 f0, .int .i64 f1, .bool xt, .int .i64 xv, .int .i64 xq, .int .i64 xy, .string f6]
      have hb41 : Below w4.heap.size w4 (wo.alloc (.cells #[.int .i64 (xp : Int), .int .i64 f0, .int .i64 f1, .bool xt, .int .i64 xv, .int .i64 xq, .int .i64 xy, .string f6] 35)) := hS.out.1.trans (hal.mono hS.out.1.size)
      have hcA := hcA.below hb41 hbA
      have hcI := hcI.below hb41 hbA
      have hms := hms.below hb41
      obtain ⟨y, hy⟩ : ∃ y, l.getD xp px0 = y := ⟨_, rfl⟩
      obtain ⟨v, hv⟩ : ∃ v, l.getD ni px0 = v := ⟨_, rfl⟩
      have HLX := Lib.hid hy
      rw [hy] at hcA hms hxst hxm
      rw [hv] at hcI hxm
      obtain ⟨y0, y1, y2, yA, yc, ys⟩ := y
      obtain ⟨v0, v1, v2, vA, vc, vs⟩ := v
      simp only at hxst hxm hms
      subst hxst
      have e0 : (wo.alloc (.cells #[.int .i64 (xp : Int), .int .i64 f0, .int .i64 f1, .bool xt, .int .i64 xv, .int .i64 xq, .int .i64 xy, .string f6] 35)).cell? ⟨bA, oA + xp * 4, none⟩ = some (.int .i64 2) := hcA.c0
      have e3 : (wo.alloc (.cells #[.int .i64 (xp : Int), .int .i64 f0, .int .i64 f1, .bool xt, .int .i64 xv, .int .i64 xq, .int .i64 xy, .string f6] 35)).cell? ⟨bA, oA + xp * 4 + 3, none⟩ = some (.slice yA ys.length yc) := hcA.c3
      have HI := Lib.hid hcI
      have HMS := Lib.hid hms
      have HXM := Lib.hid hxm
      have HZX := Lib.hid zx
      have HB41 := Lib.hid hb41
      have HNW := Lib.hid (And.intro hbA hbl)
      obtain ⟨yn, hyn⟩ : ∃ yn, ys.length = yn := ⟨_, rfl⟩
      have HYN := Lib.hid hyn
      have HY40 := Lib.hid (show yn ≤ 40 by rw [← hyn]; have := HV.out.2.2.ms xp hxl; rw [HLX.out] at this; exact this)
      rw [hyn] at e3
      have k0 : (0 : Int) ≤ xp := by omega
      have k1 : (xp : Int) < n := by have := HN.out.1; omega
      have k2 : ((xp : Int) == (ni : Int)) = false := by rw [beq_eq_false_iff_ne]; exact hxne
      have k3 : ¬ ((xp : Int) ≤ La) := by omega
      have k4 : (xp : Int) ≤ 9223372036854775807 := by have := HV.out.2.2.len; omega
      have j1 : (j : Int) < rn := by omega
      have j0 : (0 : Int) ≤ j := by omega
      have HJ := Lib.hid (show wrap64 ((j : Int) + 1) = (j : Int) + 1 from IntWalk.wrap64_in _ (by have := HRN.out; have := HN.out; have := HV.out.2.2.len; have hq : sl.length ≤ l.length := HSL.out; omega))
      have HLT := Lib.hid hlt
      clear hal zx hb41 hcA hcI hms hy hv hxm hyn hbA hbl hxx hxd hxs hxdata hxl hla hxne hj hlt hS hi0 hi1
      obtain ⟨cl, hcl⟩ : ∃ cl, classP v1 ⟨f0, f1, f2, f3, f4, f5, f6⟩ = cl := ⟨_, rfl⟩
      obtain ⟨vn, hvn⟩ : ∃ vn, vs.length = vn := ⟨_, rfl⟩
      have HC : Hid (∀ W, Calls Try.prog 9 #[.agg #[.int .i64 v0, .int .i64 v1, .bool v2, .slice vA vn vc], .agg #[.int .i64 f0, .int .i64 f1, .bool f2, .int .i64 f3, .int .i64 f4, .int .i64 f5, .string f6]] W fun e w' => e = .returned (.int .i64 cl) ∧ Below W.heap.size W w') := Lib.hid (fun W => by rw [← hcl, ← hvn]; exact rclass_any ⟨v0, v1, v2, vA, vc, vs⟩ ⟨f0, f1, f2, f3, f4, f5, f6⟩ W)
      have HCL := Lib.hid hcl
      rw [hcl] at HXM
      have HKI := Lib.hid (fun (V : World) (hb : Below (wo.alloc (.cells #[.int .i64 (xp : Int), .int .i64 f0, .int .i64 f1, .bool xt, .int .i64 xv, .int .i64 xq, .int .i64 xy, .string f6] 35)).heap.size (wo.alloc (.cells #[.int .i64 (xp : Int), .int .i64 f0, .int .i64 f1, .bool xt, .int .i64 xv, .int .i64 xq, .int .i64 xy, .string f6] 35)) V) => show V.cell? ⟨bA, oA + ni * 4, none⟩ = some (.int .i64 v0) ∧ V.cell? ⟨bA, oA + ni * 4 + 1, none⟩ = some (.int .i64 v1) ∧ V.cell? ⟨bA, oA + ni * 4 + 2, none⟩ = some (.bool v2) ∧ V.cell? ⟨bA, oA + ni * 4 + 3, none⟩ = some (.slice vA vn vc) ∧ V.cell? ⟨w.heap.size, 0, none⟩ = some (.int .i64 f0) ∧ V.cell? ⟨w.heap.size, 1, none⟩ = some (.int .i64 f1) ∧ V.cell? ⟨w.heap.size, 2, none⟩ = some (.bool f2) ∧ V.cell? ⟨w.heap.size, 3, none⟩ = some (.int .i64 f3) ∧ V.cell? ⟨w.heap.size, 4, none⟩ = some (.int .i64 f4) ∧ V.cell? ⟨w.heap.size, 5, none⟩ = some (.int .i64 f5) ∧ V.cell? ⟨w.heap.size, 6, none⟩ = some (.string f6) from by
        have h1 := HI.out.below (hb.mono (Nat.le_trans HB41.out.size (Nat.le_refl _))) HNW.out.1
        have h2 : V.cell? ⟨bA, oA + ni * 4 + 3, none⟩ = some (.slice vA vs.length vc) := h1.c3
        rw [hvn] at h2
        have q := HX4.out.below (HB41.out.trans (hb.mono HB41.out.size)) HX4.out.lt
        exact ⟨h1.c0, h1.c1, h1.c2, h2, q.cell 0, q.cell 1, q.cell 2, q.cell 3, q.cell 4, q.cell 5, q.cell 6⟩)
      clear hcl hvn
      have n0 : (0 : Int) ≤ ni := by omega
      have n1 : (ni : Int) < n := by have := HN.out.1; omega
      clear hnl
      go_wp2_with fail
      go_loopw [14, 86] (fun bv kv wr => ∃ (k : Nat) (bb : Bool), k ≤ yn ∧ kv = .int .i64 k ∧ bv = .bool bb ∧ Hid (Below (wo.alloc (.cells #[.int .i64 (xp : Int), .int .i64 f0, .int .i64 f1, .bool xt, .int .i64 xv, .int .i64 xq, .int .i64 xy, .string f6] 35)).heap.size (wo.alloc (.cells #[.int .i64 (xp : Int), .int .i64 f0, .int .i64 f1, .bool xt, .int .i64 xv, .int .i64 xq, .int .i64 xy, .string f6] 35)) wr ∧ (bb = true ↔ cl ∈ ys.take k))) (fun _ kv _ => yn - (intOf kv).toNat)
      case atStart => exact ⟨0, false, Nat.zero_le _, rfl, rfl, Lib.hid ⟨Below.refl _ _, by simp⟩⟩
      case round =>
        obtain ⟨k, bb, hk, rfl, rfl, hS2⟩ := hrel
        by_cases hkl : k < yn
        · obtain ⟨b2, o2, rfl, hb2, hc2⟩ := HMS.out k (by rw [HYN.out]; exact hkl)
          have g2 := (hS2.out.1.cell (p := ⟨b2, o2 + k, none⟩) (Nat.lt_of_lt_of_le hb2 HB41.out.size)).trans hc2
          obtain ⟨mv, hmv⟩ : ∃ mv, ys.getD k 0 = mv := ⟨_, rfl⟩
          rw [hmv] at g2
          have cD := HKI.out wr.drew hS2.out.1.drew
          have HTK := Lib.hid (show cl ∈ ys.take (k + 1) ↔ cl ∈ ys.take k ∨ mv = cl by rw [← hmv]; exact take_mem (by rw [HYN.out]; exact hkl) cl)
          have HKL := Lib.hid hkl
          have m1 : (k : Int) < yn := by omega
          have m0 : (0 : Int) ≤ k := by omega
          have HKK := Lib.hid (show wrap64 ((k : Int) + 1) = (k : Int) + 1 from IntWalk.wrap64_in _ (by have := HYN.out; have := HV.out.2.2.ms; have := HY40.out; omega))
          clear hc2 hmv hk hkl hb2
          cases bb with
          | true =>
            clear cD
            go_wp2_with fail
            go_quiet (fail)
            go_wp2_with fail
            go_roundw
            case rel =>
              rw [HKK.out]
              exact ⟨k + 1, true, HKL.out, by rw [Int.natCast_add]; rfl, rfl, Lib.hid ⟨bel_drewN hS2.out.1 _, ⟨fun _ => HTK.out.2 (.inl (hS2.out.2.1 (by first | rfl | trivial))), fun _ => rfl⟩⟩⟩
            case measure =>
              rw [HKK.out]
              show yn - ((k : Int) + 1).toNat < yn - ((k : Int)).toNat
              have := HKL.out
              omega
          | false =>
            go_wp2_with fail
            go_region_held3 (fun V => V.cell? ⟨bA, oA + ni * 4, none⟩ = some (.int .i64 v0) ∧ V.cell? ⟨bA, oA + ni * 4 + 1, none⟩ = some (.int .i64 v1) ∧ V.cell? ⟨bA, oA + ni * 4 + 2, none⟩ = some (.bool v2) ∧ V.cell? ⟨bA, oA + ni * 4 + 3, none⟩ = some (.slice vA vn vc) ∧ V.cell? ⟨w.heap.size, 0, none⟩ = some (.int .i64 f0) ∧ V.cell? ⟨w.heap.size, 1, none⟩ = some (.int .i64 f1) ∧ V.cell? ⟨w.heap.size, 2, none⟩ = some (.bool f2) ∧ V.cell? ⟨w.heap.size, 3, none⟩ = some (.int .i64 f3) ∧ V.cell? ⟨w.heap.size, 4, none⟩ = some (.int .i64 f4) ∧ V.cell? ⟨w.heap.size, 5, none⟩ = some (.int .i64 f5) ∧ V.cell? ⟨w.heap.size, 6, none⟩ = some (.string f6))
              (first
                | (with_reducible exact cD)
                | (with_reducible exact cA)
                | fail)
              (first
                | (go_at_call 9; (with_reducible refine (HC.out _).mono ?_); rintro e w5 ⟨rfl, b5⟩; have cA := HKI.out w5 (hS2.out.1.drew.trans (b5.mono hS2.out.1.size))))
            have HB5 := Lib.hid (hS2.out.1.drew.trans (b5.mono hS2.out.1.size))
            clear cA cD b5
            go_wp2_with fail
            go_roundw
            case rel =>
              rw [HKK.out]
              refine ⟨k + 1, (mv == cl), HKL.out, by rw [Int.natCast_add]; rfl, rfl, Lib.hid ⟨HB5.out, ?_⟩⟩
              rw [HTK.out, beq_iff_eq]
              have := hS2.out.2
              exact ⟨fun h => .inr h, fun h => h.elim (fun h => absurd (this.2 h) (by decide)) id⟩
            case measure =>
              rw [HKK.out]
              show yn - ((k : Int) + 1).toNat < yn - ((k : Int)).toNat
              have := HKL.out
              omega
        · obtain rfl : yn = k := by omega
          have hbb : bb = true := hS2.out.2.2 (by rw [List.take_of_length_le (by rw [HYN.out]; exact Nat.le_refl _)]; exact HXM.out)
          subst hbb
          have cF := HKI.out wr hS2.out.1
          have zc := HZX.out.below hS2.out.1 HZX.out.lt
          have z0 := zc.cell 0
          have z1 := zc.cell 1
          have z2 := zc.cell 2
          have z7 := zc.cell 7
          obtain ⟨_, _, _, _, w0c, w1c, w2c, w3c, w4c, w5c, w6c⟩ := cF
          have y1 : ¬ (yn : Int) < yn := by omega
          have HB6 := Lib.hid (HB41.out.trans (hS2.out.1.mono HB41.out.size))
          clear hk hkl zc
          go_wp2_with fail
          go_roundw
          case rel =>
            rw [HJ.out]
            exact ⟨j + 1, xp, HLT.out, by rw [Int.natCast_add]; rfl, rfl, Lib.hid ⟨HB6.out, HNX.out⟩⟩
          case measure =>
            rw [HJ.out]
            show rn - ((j : Int) + 1).toNat < rn - ((j : Int)).toNat
            have := HLT.out
            omega
    · obtain rfl : rn = j := by omega
      have HBE := Lib.hid hS.out.1
      have j1 : ¬ (rn : Int) < rn := by omega
      obtain ⟨wo, hwo⟩ : ∃ wo, wo = wr := ⟨_, rfl⟩
      subst hwo
      have HB24 := Lib.hid (HB2.out.trans ((HB4.out.trans (HBE.out.mono HB4.out.size)).mono HB2.out.size))
      have hk5 := fun (V : World) (hb : Below wo.heap.size wo V) => show V.cell? ⟨w.heap.size, 0, none⟩ = some (.int .i64 f0) ∧ V.cell? ⟨w.heap.size, 1, none⟩ = some (.int .i64 f1) ∧ V.cell? ⟨w.heap.size, 2, none⟩ = some (.bool f2) ∧ V.cell? ⟨w.heap.size, 3, none⟩ = some (.int .i64 f3) ∧ V.cell? ⟨w.heap.size, 4, none⟩ = some (.int .i64 f4) ∧ V.cell? ⟨w.heap.size, 5, none⟩ = some (.int .i64 f5) ∧ V.cell? ⟨w.heap.size, 6, none⟩ = some (.string f6) from by
        have hb4 := HBE.out.trans (hb.mono HBE.out.size)
        have q := HX4.out.below hb4 HX4.out.lt
        exact ⟨q.cell 0, q.cell 1, q.cell 2, q.cell 3, q.cell 4, q.cell 5, q.cell 6⟩
      have cD := hk5 wo.drew (Below.refl _ wo).drew
      obtain ⟨ql, hql⟩ : ∃ ql, rlP l i ⟨f0, f1, f2, f3, f4, f5, f6⟩ (-1) = ql := ⟨_, rfl⟩
      obtain ⟨qn, hqn⟩ : ∃ qn, ql.length = qn := ⟨_, rfl⟩
      have HQN := Lib.hid (And.intro hqn (show ql.length ≤ l.length by rw [← hql]; have := relayP_len (l.map Px.p) i ⟨f0, f1, f2, f3, f4, f5, f6⟩ (-1); rw [List.length_map] at this; exact this))
      -- the two calls and the new table, wherever they come
      have HZ0 := Lib.hid (fun (V : World) (hb : Below wo.heap.size wo V) => show Calls Try.prog 7 #[.slice A n c, .int .i64 i, .agg #[.int .i64 f0, .int .i64 f1, .bool f2, .int .i64 f3, .int .i64 f4, .int .i64 f5, .string f6], .pointer none] V fun e w' => ∃ A' c', e = .returned (.slice A' qn c') ∧ (w'.cell? ⟨w.heap.size, 0, none⟩ = some (.int .i64 f0) ∧ w'.cell? ⟨w.heap.size, 1, none⟩ = some (.int .i64 f1) ∧ w'.cell? ⟨w.heap.size, 2, none⟩ = some (.bool f2) ∧ w'.cell? ⟨w.heap.size, 3, none⟩ = some (.int .i64 f3) ∧ w'.cell? ⟨w.heap.size, 4, none⟩ = some (.int .i64 f4) ∧ w'.cell? ⟨w.heap.size, 5, none⟩ = some (.int .i64 f5) ∧ w'.cell? ⟨w.heap.size, 6, none⟩ = some (.string f6)) ∧ Hid (∀ V', Below w'.heap.size w' V' → SeAt V' w'.heap.size A' ql) ∧ Below wo.heap.size wo w' ∧ Below V.heap.size V w' from (HR0.out V (HB24.out.trans (hb.mono HB24.out.size)) HV.out.2.2 hd1k).mono fun e w' hh => by
        obtain ⟨A', c', h1, h2, h3⟩ := hh
        rw [hql] at h1 h2
        rw [hqn] at h1
        have hb' := hb.trans (h3.mono hb.size)
        exact ⟨A', c', h1, hk5 w' hb', Lib.hid (fun V' hb'' => h2.below hb''), hb', h3⟩)
      have HZ1 := Lib.hid (fun (V : World) (hb : Below wo.heap.size wo V) (g B : Nat) (F : Nat → Prop) (hp : Pt V B F g ⟨[], 0⟩) => show Calls Try.prog 7 #[.slice A n c, .int .i64 i, .agg #[.int .i64 f0, .int .i64 f1, .bool f2, .int .i64 f3, .int .i64 f4, .int .i64 f5, .string f6], .pointer (some ⟨g, 0, none⟩)] V fun e w' => ∃ A' c', e = .returned (.slice A' qn c') ∧ (w'.cell? ⟨w.heap.size, 0, none⟩ = some (.int .i64 f0) ∧ w'.cell? ⟨w.heap.size, 1, none⟩ = some (.int .i64 f1) ∧ w'.cell? ⟨w.heap.size, 2, none⟩ = some (.bool f2) ∧ w'.cell? ⟨w.heap.size, 3, none⟩ = some (.int .i64 f3) ∧ w'.cell? ⟨w.heap.size, 4, none⟩ = some (.int .i64 f4) ∧ w'.cell? ⟨w.heap.size, 5, none⟩ = some (.int .i64 f5) ∧ w'.cell? ⟨w.heap.size, 6, none⟩ = some (.string f6)) ∧ Hid (∀ V', Below w'.heap.size w' V' → SeAt V' w'.heap.size A' ql) ∧ Below wo.heap.size wo w' ∧ Below V.heap.size V w' from (HRT.out V (HB24.out.trans (hb.mono HB24.out.size)) g B F _ hp List.Pairwise.nil (fun x hx => by cases hx) (Nat.zero_le _) HV.out.2.2 hd1k).mono fun e w' hh => by
        obtain ⟨A', c', h1, h2, h3⟩ := hh
        rw [rlS_new, hql] at h1 h2
        rw [hqn] at h1
        have hb' := hb.trans (h3.mono hb.size)
        exact ⟨A', c', h1, hk5 w' hb', Lib.hid (fun V' hb'' => h2.below hb''), hb', h3⟩)
      have HZN := Lib.hid (fun (V : World) (hb : Below wo.heap.size wo V) => show Calls Try.prog 10 #[] V fun e w' => ∃ g : Nat, e = .returned (.pointer (some ⟨g, 0, none⟩)) ∧ (w'.cell? ⟨w.heap.size, 0, none⟩ = some (.int .i64 f0) ∧ w'.cell? ⟨w.heap.size, 1, none⟩ = some (.int .i64 f1) ∧ w'.cell? ⟨w.heap.size, 2, none⟩ = some (.bool f2) ∧ w'.cell? ⟨w.heap.size, 3, none⟩ = some (.int .i64 f3) ∧ w'.cell? ⟨w.heap.size, 4, none⟩ = some (.int .i64 f4) ∧ w'.cell? ⟨w.heap.size, 5, none⟩ = some (.int .i64 f5) ∧ w'.cell? ⟨w.heap.size, 6, none⟩ = some (.string f6)) ∧ Hid (∀ V', Below w'.heap.size w' V' → Pt V' wo.heap.size (grow noF V w') g ⟨[], 0⟩) ∧ Below wo.heap.size wo w' ∧ Below V.heap.size V w' from (fnew_any V wo.heap.size hb.size).mono fun e w' hh => by
        obtain ⟨g, h1, h2, A', c', h3⟩ := hh
        have hb' := hb.trans (h2.mono hb.size)
        exact ⟨g, h1, hk5 w' hb', Lib.hid (fun V' hb'' => ⟨A', c', h3.below hb''⟩), hb', h2⟩)
      have HBD := Lib.hid (show Below wo.heap.size wo wo.drew from (Below.refl _ wo).drew)
      clear hk5 hql hqn hj hlt hS
      go_wp2_with fail
      go_region_held3 (fun V => V.cell? ⟨w.heap.size, 0, none⟩ = some (.int .i64 f0) ∧ V.cell? ⟨w.heap.size, 1, none⟩ = some (.int .i64 f1) ∧ V.cell? ⟨w.heap.size, 2, none⟩ = some (.bool f2) ∧ V.cell? ⟨w.heap.size, 3, none⟩ = some (.int .i64 f3) ∧ V.cell? ⟨w.heap.size, 4, none⟩ = some (.int .i64 f4) ∧ V.cell? ⟨w.heap.size, 5, none⟩ = some (.int .i64 f5) ∧ V.cell? ⟨w.heap.size, 6, none⟩ = some (.string f6))
        (first
          | (with_reducible exact cD)
          | (with_reducible exact cA)
          | (with_reducible exact cB)
          | (with_reducible exact cC)
          | fail)
        (first
          | (go_at_call 10; (with_reducible refine (HZN.out _ HBD.out).mono ?_); rintro e w5 ⟨gt, rfl, cA, HN5, hw5, b5⟩)
          | (go_at_call 10; (with_reducible refine (HZN.out _ hw6).mono ?_); rintro e w5 ⟨gt, rfl, cA, HN5, hw5, b5⟩)
          | (go_at_call 7; (with_reducible refine (HZ0.out _ HBD.out).mono ?_); rintro e w6 ⟨A6, c6, rfl, cB, HS6, hw6, b6⟩)
          | (go_at_call 7; (with_reducible refine (HZ0.out _ hw5).mono ?_); rintro e w6 ⟨A6, c6, rfl, cB, HS6, hw6, b6⟩)
          | (go_at_call 7; (with_reducible refine (HZ0.out _ hw7).mono ?_); rintro e w6 ⟨A6, c6, rfl, cB, HS6, hw6, b6⟩)
          | (go_at_call 7; (with_reducible refine (HZ1.out _ hw5 _ _ _ (HN5.out _ (Below.refl _ _))).mono ?_); rintro e w7 ⟨A7, c7, rfl, cC, HS7, hw7, b7⟩)
          | (go_at_call 7; (with_reducible refine (HZ1.out _ hw6 _ _ _ (HN5.out _ b6)).mono ?_); rintro e w7 ⟨A7, c7, rfl, cC, HS7, hw7, b7⟩))
      have HS6' := Lib.hid (HS6.out w7 (b5.trans (b7.mono b5.size)))
      have HS7' := Lib.hid (HS7.out w7 (Below.refl _ _))
      have HB7 := Lib.hid (HB24.out.trans (hw7.mono HB24.out.size))
      have HQ := Lib.hid (show w6.heap.size ≤ w7.heap.size from Nat.le_trans b5.size b7.size)
      clear HS6 HS7 HN5 cA cB cC cD hw5 hw6 hw7 b5 b6 b7
      go_wp2_with fail
      go_loopw [145] (fun kv wr => ∃ k : Nat, k ≤ qn ∧ kv = .int .i64 k ∧ Hid (Below w7.heap.size w7 wr)) (fun kv _ => qn - (intOf kv).toNat)
      case atStart => exact ⟨0, Nat.zero_le _, rfl, Lib.hid (Below.refl _ _)⟩
      case round =>
        obtain ⟨k, hk, rfl, hS3⟩ := hrel
        by_cases hkl : k < qn
        · obtain ⟨b, off, rfl, hbl, hc⟩ := HS6'.out k (by rw [HQN.out.1]; exact hkl)
          obtain ⟨b', off', rfl, hbl', hc'⟩ := HS7'.out k (by rw [HQN.out.1]; exact hkl)
          have hc := hc.below hS3.out (Nat.lt_of_lt_of_le hbl HQ.out)
          have hc' := hc'.below hS3.out hbl'
          obtain ⟨x, hx⟩ : ∃ x, ql.getD k se0 = x := ⟨_, rfl⟩
          rw [hx] at hc hc'
          obtain ⟨xp, xd, xs, xt, xv, xq, xy, xdata⟩ := x
          obtain ⟨q0, q1, q2, q3, q4, q5, q6, q7⟩ := hc
          obtain ⟨p0, p1, p2, p3, p4, p5, p6, p7⟩ := hc'
          simp only at q0 q1 q2 q3 q4 q5 q6 q7 p0 p1 p2 p3 p4 p5 p6 p7
          have m1 : (k : Int) < qn := by omega
          have m0 : (0 : Int) ≤ k := by omega
          have HKL := Lib.hid hkl
          have HKK := Lib.hid (show wrap64 ((k : Int) + 1) = (k : Int) + 1 from IntWalk.wrap64_in _ (by have := HQN.out; have := HV.out.2.2.len; omega))
          clear hx hbl hbl' hk hkl
          go_wp2_with fail
          go_quiet (fail)
          go_wp2_with fail
          go_roundw
          case rel =>
            rw [HKK.out]
            exact ⟨k + 1, HKL.out, by rw [Int.natCast_add]; rfl, Lib.hid (bel_drewN hS3.out _)⟩
          case measure =>
            rw [HKK.out]
            show qn - ((k : Int) + 1).toNat < qn - ((k : Int)).toNat
            have := HKL.out
            omega
        · obtain rfl : qn = k := by omega
          have m1 : ¬ (qn : Int) < qn := by omega
          clear hk hkl
          go_wp2_with fail
          go_ret
          exact ⟨rfl, HB7.out.trans (hS3.out.mono HB7.out.size)⟩
end Go.Proofs.Ytnhnllkcnpbgoaa
