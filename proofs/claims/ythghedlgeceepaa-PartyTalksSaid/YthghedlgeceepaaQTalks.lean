/- The statement PartyTalks: two ports that hear at once all that the other one says: what one is to say the other one has, from the next Join-th tick on, as long as it is said; and Leave ticks, and two more, behind its end it has it no more. No condition. -/
import Derived.Test.YthghedlgeceepaaPmTalk
import Derived.Test.YthghedlgeceepaaFrame
namespace Go.Proofs.Ythghedlgeceepaa
open Go.ChangeShapes Go.WideShapes Go.ChangeAt Go.RowKit
set_option maxRecDepth 100000

/-- Numbers that came in, as a list. -/
theorem row_list {W : World} {a : Option Addr} {len cap : Nat} {zs : List Int} (h : IsRow .i64 W a len cap zs) : (zs.take len).length = len ∧ (zs.take len = [] ∨ ∃ b off, a = some ⟨b, off, none⟩ ∧ b < W.heap.size ∧ ∀ j, j < (zs.take len).length → W.cell? ⟨b, off + j, none⟩ = some (.int .i64 ((zs.take len).getD j 0))) := by
  have hl : (zs.take len).length = len := by rw [List.length_take]; have := h.len_le; omega
  refine ⟨hl, ?_⟩
  by_cases h0 : len = 0
  · subst h0
    exact .inl rfl
  · obtain ⟨b, off, e, hb, _⟩ := h.at_ (i := 0) (by omega)
    refine .inr ⟨b, off, e, hb, fun j hj => ?_⟩
    rw [hl] at hj
    obtain ⟨b', off', e', _, hc⟩ := h.at_ (i := j) hj
    rw [e] at e'
    injection e' with e'
    injection e' with e1 e2
    subst e1 e2
    rw [hc]
    congr 2
    rw [List.getD_eq_getElem?_getD, List.getD_eq_getElem?_getD, List.getElem?_take, if_pos hj]
theorem row_new {W V : World} {a : Option Addr} {len cap : Nat} {zs : List Int} (h : IsRow .i64 W a len cap zs) (hb : Below W.heap.size W V) : (zs.take len = [] ∨ ∃ b off, a = some ⟨b, off, none⟩ ∧ ∀ j, j < (zs.take len).length → V.cell? ⟨b, off + j, none⟩ = some (.int .i64 ((zs.take len).getD j 0))) := by
  rcases (row_list h).2 with e | ⟨b, off, e, hl, hc⟩
  · exact .inl e
  · exact .inr ⟨b, off, e, fun j hj => (hb.cell (p := ⟨b, off + j, none⟩) hl).trans (hc j hj)⟩
/-- While nothing is wanted. -/
def Inv1 (_ : Int) (pa pb : Py) : Prop := pa.l = [] ∧ pb.l = []
/-- While it is wanted, from a tick on. -/
def Inv2 (s now : Int) (pa pb : Py) : Prop := (now = s ∧ pa.l = [] ∧ pb.l = []) ∨ (s < now ∧ (∃ st, (st = 1 ∨ st = 2 ∨ st = 3) ∧ PA pa st now ∧ Told now st pb) ∧ (now % 2 = 0 ∨ s + 2 ≤ now → ∃ r, PB pb r))
theorem inv1_step (jA jB : Nat → Int) {now : Int} {pa pb : Py} (h : Inv1 (now - 1) pa pb) : Inv1 now (talkA jA jB pa pb now) (talkB jA jB pa pb now) := talk_none h.1 h.2 jA jB now
theorem told_has {now st : Int} {pb : Py} (h : Told now st pb) (hh : hasP pb 1 9 = true) : ∃ r, PB pb r := by
  rcases h with ⟨h, _⟩ | ⟨r, h, _⟩
  · rw [has_none h] at hh
    cases hh
  · exact ⟨r, h⟩
theorem inv2_step (jA jB : Nat → Int) {s now : Int} {pa pb : Py} (h0 : 0 ≤ s) (hs : s < now) (h : Inv2 s (now - 1) pa pb) :
    Inv2 s now (talkA jA jB (wantP pa 1 9 now false) pb now) (talkB jA jB (wantP pa 1 9 now false) pb now) ∧ (s + 2 ≤ now → hasP (talkB jA jB (wantP pa 1 9 now false) pb now) 1 9 = true) := by
  have key : ∃ st, (st = 1 ∨ st = 2 ∨ st = 3) ∧ PA (wantP pa 1 9 now false) st now ∧ Told (now - 1) st pb := by
    rcases h with ⟨_, ha, hb⟩ | ⟨_, ⟨st, hst, ha, ht⟩, _⟩
    · exact ⟨1, .inl rfl, want_none ha (by omega), .inl ⟨hb, rfl⟩⟩
    · exact ⟨st, hst, want_more ha hst (by omega), ht⟩
  obtain ⟨st, hst, ha, ht⟩ := key
  obtain ⟨st', hst', ha', ht', hev, hpb⟩ := told_step (by omega) ha hst ht jA jB
  have hhas : now % 2 = 0 ∨ s + 2 ≤ now → hasP (talkB jA jB (wantP pa 1 9 now false) pb now) 1 9 = true := fun hc => by
    by_cases he : now % 2 = 0
    · exact hev he
    · have h2 : s + 2 ≤ now := hc.resolve_left he
      refine hpb ?_
      rcases h with ⟨e, _⟩ | ⟨_, _, h3⟩
      · omega
      · exact h3 (.inl (by omega))
  exact ⟨.inr ⟨hs, ⟨st', hst', ha', ht'⟩, fun hc => told_has ht' (hhas hc)⟩, fun hc => hhas (.inr hc)⟩
theorem inv2_end {s e : Int} {pa pb : Py} (h0 : 0 ≤ s) (_hse : s ≤ e) (h : Inv2 s e pa pb) : Ends e e (wantP pa 1 9 (-1) false) pb := by
  rcases h with ⟨_, ha, hb⟩ | ⟨_, ⟨st, hst, ha, ht⟩, _⟩
  · rw [want_end_none ha]
    exact .inr ⟨ha, .inl hb⟩
  · exact ends_start ha hst ht (by omega)
set_option maxHeartbeats 16000000 in
theorem walkPartyTalks (a0 : Option Addr) (len0 cap0 : Nat) (z0 : List Int) (a1 : Option Addr) (len1 cap1 : Nat) (z1 : List Int) (start ticks : Int) (W : World) (w0 : IsRow .i64 W a0 len0 cap0 z0) (w1 : IsRow .i64 W a1 len1 cap1 z1) (_w2 : (Lit.int .i64 start).wf = true) (_w3 : (Lit.int .i64 ticks).wf = true) :
    Calls Try.prog 4 #[.slice a0 len0 cap0, .slice a1 len1 cap1, .int .i64 start, .int .i64 ticks] W fun e W' => e = .returned (.bool true) ∧ Below W.heap.size W W' := by
  have HAL := Lib.hid (palive_any W)
  have HR := Lib.hid (And.intro w0 w1)
  clear w0 w1
  by_cases d0 : 30 < (len0 : Int)
  · go_enter Try.func4, Try.ntmps4
    go_wp2_with fail
    refine HAL.out.mono ?_
    rintro e v1 ⟨rfl, b1⟩
    have HB := Lib.hid b1
    clear b1
    go_wp2_with fail
    go_ret
    exact ⟨rfl, HB.out⟩
  by_cases d1 : 30 < (len1 : Int)
  · have d0' : (len0 : Int) ≤ 30 := by omega
    clear d0
    go_enter Try.func4, Try.ntmps4
    go_wp2_with fail
    refine HAL.out.mono ?_
    rintro e v1 ⟨rfl, b1⟩
    have HB := Lib.hid b1
    clear b1
    go_wp2_with fail
    go_ret
    exact ⟨rfl, HB.out⟩
  have d0' : (len0 : Int) ≤ 30 := by omega
  have d1' : (len1 : Int) ≤ 30 := by omega
  clear d0 d1
  by_cases s0 : start < 0
  · go_enter Try.func4, Try.ntmps4
    go_wp2_with fail
    refine HAL.out.mono ?_
    rintro e v1 ⟨rfl, b1⟩
    have HB := Lib.hid b1
    clear b1
    go_wp2_with fail
    go_ret
    exact ⟨rfl, HB.out⟩
  by_cases s1 : 200 < start
  · have s0' : 0 ≤ start := by omega
    clear s0
    go_enter Try.func4, Try.ntmps4
    go_wp2_with fail
    refine HAL.out.mono ?_
    rintro e v1 ⟨rfl, b1⟩
    have HB := Lib.hid b1
    clear b1
    go_wp2_with fail
    go_ret
    exact ⟨rfl, HB.out⟩
  have s0' : 0 ≤ start := by omega
  have s1' : start ≤ 200 := by omega
  clear s0 s1
  by_cases t0 : ticks < 0
  · go_enter Try.func4, Try.ntmps4
    go_wp2_with fail
    refine HAL.out.mono ?_
    rintro e v1 ⟨rfl, b1⟩
    have HB := Lib.hid b1
    clear b1
    go_wp2_with fail
    go_ret
    exact ⟨rfl, HB.out⟩
  by_cases t1 : 300 < ticks
  · have t0' : 0 ≤ ticks := by omega
    clear t0
    go_enter Try.func4, Try.ntmps4
    go_wp2_with fail
    refine HAL.out.mono ?_
    rintro e v1 ⟨rfl, b1⟩
    have HB := Lib.hid b1
    clear b1
    go_wp2_with fail
    go_ret
    exact ⟨rfl, HB.out⟩
  have t0' : 0 ≤ ticks := by omega
  have t1' : ticks ≤ 300 := by omega
  clear t0 t1
  have e0 := (row_list HR.out.1).1
  have e1 := (row_list HR.out.2).1
  obtain ⟨ja, hja⟩ : ∃ ja, z0.take len0 = ja := ⟨_, rfl⟩
  obtain ⟨jb, hjb⟩ : ∃ jb, z1.take len1 = jb := ⟨_, rfl⟩
  rw [hja] at e0
  rw [hjb] at e1
  have HNA := Lib.hid (fun (V : World) (hV : Below W.heap.size W V) => show Calls Try.prog 8 #[.slice a0 len0 cap0] V _ by
    have := row_new HR.out.1 hV
    rw [hja] at this
    have h2 := pnew_any a0 cap0 ja V this (by omega)
    rw [e0] at h2
    exact h2)
  have HNB := Lib.hid (fun (V : World) (hV : Below W.heap.size W V) => show Calls Try.prog 8 #[.slice a1 len1 cap1] V _ by
    have := row_new HR.out.2 hV
    rw [hjb] at this
    have h2 := pnew_any a1 cap1 jb V this (by omega)
    rw [e1] at h2
    exact h2)
  clear e0 e1 hja hjb
  go_enter Try.func4, Try.ntmps4
  go_wp2_with fail
  refine HAL.out.mono ?_
  rintro e v1 ⟨rfl, b1⟩
  have HB1 := Lib.hid b1
  clear b1
  go_wp2_with fail
  refine (HNA.out _ HB1.out).mono ?_
  rintro e v2 ⟨ga, Fa, rfl, hpa, b2⟩
  have HB2 := Lib.hid (HB1.out.trans (b2.mono HB1.out.size))
  have HPA := Lib.hid (And.intro hpa b2.size)
  clear hpa b2
  go_wp2_with fail
  refine (HNB.out _ HB2.out).mono ?_
  rintro e v3 ⟨gb, Fb, rfl, hpb, b3⟩
  have H3 := Lib.hid (show PyF v3 W.heap.size ga (newP (jitD ja)) ja Fa ∧ PyF v3 W.heap.size gb (newP (jitD jb)) jb Fb ∧ (∀ k, Fa k → ¬ Fb k) ∧ Below W.heap.size W v3 from by
    have pa3 : PyF v3 v1.heap.size ga (newP (jitD ja)) ja Fa := HPA.out.1.keep (below_touch b3 fun _ => False) fun _ _ => id
    have h1 := HB1.out.size
    have h2 := HB2.out.size
    refine ⟨pa3.low (by omega), hpb.low (by omega), fun k ha hb => ?_, HB2.out.trans (b3.mono HB2.out.size)⟩
    have h3 := (HPA.out.1.lt k ha).2
    have h4 := (hpb.lt k hb).1
    omega)
  have HV9 := Lib.hid (netv_any 9)
  have q1 : wrap64 (start + 1) = start + 1 := IntWalk.wrap64_in _ (by omega)
  have HT1 := Lib.hid (fun (V : World) (hb : Below v3.heap.size v3 V) => talk_any false Inv1 0 start (start + 1) (Int.le_refl _) s0' (by omega) W V ga gb (newP (jitD ja)) (newP (jitD jb)) ja jb Fa Fb
    (fun now pa pb h1 h2 hI => ⟨by rw [if_neg (by decide)]; exact inv1_step _ _ hI, fun hc => by omega⟩)
    (H3.out.1.keep (below_touch hb fun _ => False) fun _ _ => id) (H3.out.2.1.keep (below_touch hb fun _ => False) fun _ _ => id) H3.out.2.2.1 (H3.out.2.2.2.trans (hb.mono H3.out.2.2.2.size)) ⟨PyOk.new _ _, PyOk.new _ _⟩ ⟨fun _ h => absurd h List.not_mem_nil, fun _ h => absurd h List.not_mem_nil⟩ ⟨rfl, rfl⟩)
  clear hpb b3
  go_wp2_with fail
  refine (HV9.out _).mono ?_
  rintro e v4 ⟨rfl, b4⟩
  have HT1' := Lib.hid (HT1.out v4 b4)
  clear b4
  go_wp2_with fail
  try rw [q1]
  refine HT1'.out.mono ?_
  rintro e v5 ⟨rfl, pa1, pb1, Fa1, Fb1, hA1, hB1, hdj1, hbel1, hok1, htd1, hI1⟩
  have H5 := Lib.hid (And.intro hA1 (And.intro hB1 (And.intro hdj1 (And.intro hbel1 (And.intro hok1 (And.intro htd1 hI1))))))
  have HT2 := Lib.hid (fun (V : World) (hb : Below v5.heap.size v5 V) => talk_any true (Inv2 start) start (start + ticks) (start + 2) s0' (by omega) (by omega) W V ga gb pa1 pb1 ja jb Fa1 Fb1
    (fun now pa pb h1 h2 hI => by rw [if_pos rfl]; exact inv2_step _ _ s0' h1 hI)
    (H5.out.1.keep (below_touch hb fun _ => False) fun _ _ => id) (H5.out.2.1.keep (below_touch hb fun _ => False) fun _ _ => id) H5.out.2.2.1 (H5.out.2.2.2.1.trans (hb.mono H5.out.2.2.2.1.size)) H5.out.2.2.2.2.1 H5.out.2.2.2.2.2.1 (.inl ⟨rfl, H5.out.2.2.2.2.2.2⟩))
  clear hA1 hB1 hdj1 hbel1 hok1 htd1 hI1
  go_wp2_with fail
  refine (HV9.out _).mono ?_
  rintro e v6 ⟨rfl, b6⟩
  have HT2' := Lib.hid (HT2.out v6 b6)
  clear b6
  go_wp2_with fail
  refine HT2'.out.mono ?_
  rintro e v7 ⟨rfl, pa2, pb2, Fa2, Fb2, hA2, hB2, hdj2, hbel2, hok2, htd2, hI2⟩
  have H7 := Lib.hid (And.intro hA2 (And.intro hB2 (And.intro hdj2 (And.intro hbel2 (And.intro hok2 (And.intro htd2 hI2))))))
  clear hA2 hB2 hdj2 hbel2 hok2 htd2 hI2
  go_wp2_with fail
  refine (HV9.out _).mono ?_
  rintro e v8 ⟨rfl, b8⟩
  have h8A : PyF v8 W.heap.size ga pa2 ja Fa2 := H7.out.1.keep (below_touch b8 fun _ => False) fun _ _ => id
  obtain ⟨y8, hy8⟩ := h8A
  have hT0 : 0 ≤ start + ticks := by omega
  have hwn := want_any hy8 H7.out.2.2.2.2.1.1 hT0 (Nat.le_trans H7.out.2.2.2.1.size b8.size) 1 9 (-1) false
  rw [want_w H7.out.2.2.2.2.1.1 hT0 H7.out.2.2.2.2.2.1.1 false (by decide) (by decide)] at hwn
  have HWN := Lib.hid hwn
  have HB8 := Lib.hid b8
  clear b8 hy8 hwn
  go_wp2_with fail
  refine HWN.out.mono ?_
  rintro e v9 ⟨rfl, hA9, t9⟩
  have H9 := Lib.hid (show PyF v9 W.heap.size ga (wantP pa2 1 9 (-1) false) ja (grow Fa2 v8 v9) ∧ PyF v9 W.heap.size gb pb2 jb Fb2 ∧ (∀ k, grow Fa2 v8 v9 k → ¬ Fb2 k) ∧ Below W.heap.size W v9 from by
    have hs := HB8.out.size
    have hB8 : PyF v8 W.heap.size gb pb2 jb Fb2 := H7.out.2.1.keep (below_touch HB8.out fun _ => False) fun _ _ => id
    have hw8 := H7.out.2.2.2.1.trans (HB8.out.mono H7.out.2.2.2.1.size)
    refine ⟨hA9, hB8.keep t9 (fun k hk hc => H7.out.2.2.1 k hc hk), fun k hk hb => ?_, hw8.trans (t9.below hw8.size fun k hk => (H7.out.1.lt k hk).1)⟩
    rcases hk with hk | hk
    · exact H7.out.2.2.1 k hk hb
    · have := (hB8.lt k hb).2
      omega)
  have HT3 := Lib.hid (fun (V : World) (hb : Below v9.heap.size v9 V) => talk_any false (Ends (start + ticks)) (start + ticks) (start + ticks + 100) (start + ticks + 24 + 2 + 2) hT0 (by omega) (by omega) W V ga gb (wantP pa2 1 9 (-1) false) pb2 ja jb (grow Fa2 v8 v9) Fb2
    (fun now pa pb h1 h2 hI => by
      rw [if_neg (by decide)]
      have h3 := ends_step hI hT0 (jitD ja) (jitD jb)
      exact ⟨h3, fun hc => ends_has h3 (by omega)⟩)
    (H9.out.1.keep (below_touch hb fun _ => False) fun _ _ => id) (H9.out.2.1.keep (below_touch hb fun _ => False) fun _ _ => id) H9.out.2.2.1 (H9.out.2.2.2.trans (hb.mono H9.out.2.2.2.size))
    ⟨H7.out.2.2.2.2.1.1.want hT0 (.inl ⟨rfl, by decide⟩) (by decide), H7.out.2.2.2.2.1.2⟩ ⟨H7.out.2.2.2.2.2.1.1.want 1 9 (-1) false, H7.out.2.2.2.2.2.1.2⟩ (inv2_end s0' (by omega) H7.out.2.2.2.2.2.2))
  have x1 : wrap64 (start + ticks) = start + ticks := IntWalk.wrap64_in _ (by omega)
  clear hA9 t9
  go_wp2_with fail
  refine (HV9.out _).mono ?_
  rintro e v10 ⟨rfl, b10⟩
  have HT3' := Lib.hid (HT3.out v10 b10)
  clear b10
  go_wp2_with fail
  refine HT3'.out.mono ?_
  rintro e v11 ⟨rfl, pa3, pb3, Fa3, Fb3, _, _, _, hbel3, _, _, _⟩
  have HE := Lib.hid hbel3
  clear hbel3
  go_wp2_with fail
  go_ret
  exact ⟨rfl, HE.out⟩
set_option maxRecDepth 100000 in
theorem liftedPartyTalks (os : Os) (started : os.Started) (H : Type) (enc : TypeId × Value → H) :
    ReturnsInHanded {} Try.checked os 4 .any (Rows.partyTalksSpec.pre6 enc Try.prog Try.f4 Rows.partyTalksRow.domain false) (Rows.partyTalksSpec.post enc Try.prog Try.f4 false true false false) := by
  refine returnsInHanded_of_change (C := Try.checked) own started (by kernel_rfl) Try.func4
    (ChangeSpec.witness6 (enc := enc) (C := Try.checked) false ⟨#[], #[.slice none 0 0, .slice none 0 0, .int .i64 0, .int .i64 0], []⟩ 8 (by kernel_rfl) (by kernel_rfl) (by kernel_rfl) (by kernel_rfl)) ?_
  intro W base args ds gs before hval0 hW hcnd _
  have hval : ∀ (j : Nat) t v, Try.f4.params[j]? = some t → args[j]? = some v → Value.okWide Try.prog W .any base t v := hval0
  have hW' := hW
  obtain ⟨p, q, hA0, hV, rfl, hfz, hnd⟩ := hW
  have hA : DataW.TrodAll enc Try.prog W 0 (fun _ => true) true Try.f4.params.toList args.toList ds p := hA0
  rw [Try.params4] at hA hval
  obtain ⟨v0, vs0, d0, ds0, p0, q0, hargs, rfl, rfl, h0, r0⟩ := trodAll_cons hA
  obtain ⟨v1, vs1, d1, ds1, p1, q1, rfl, rfl, rfl, h1, r1⟩ := trodAll_cons r0
  obtain ⟨v2, vs2, d2, ds2, p2, q2, rfl, rfl, rfl, h2, r2⟩ := trodAll_cons r1
  obtain ⟨v3, vs3, d3, ds3, p3, q3, rfl, rfl, rfl, h3, r3⟩ := trodAll_cons r2
  obtain ⟨rfl, rfl, rfl⟩ := trodAll_nil r3
  obtain rfl : args = #[v0, v1, v2, v3] := by cases args; simp_all
  obtain ⟨rfl, rfl⟩ := trodVars_none hV
  obtain ⟨a0, len0, cap0, rfl⟩ := okWide_slice Try.underlying22 (hval 0 22 v0 rfl rfl)
  have k0 := h0
  have lt0 : ∀ x ∈ p0, x.block < W.heap.size := by obtain ⟨m, hm⟩ := k0; exact DataW.trod_lt m _ _ _ hm
  obtain ⟨z0, w0⟩ : ∃ zs, IsRow .i64 W a0 len0 cap0 zs := by
    obtain ⟨fuel, hf⟩ := h0
    rcases open_ints Try.underlying22 Try.underlying3 (by kernel_rfl) hf with ⟨hcs, _⟩ | ⟨x, l, c, zs, hcs, _, hl, hm, hz, _, hcell, hwz⟩
    · simp [Value.cells] at hcs
      obtain ⟨rfl, rfl, rfl⟩ := hcs
      exact ⟨[], .inl ⟨rfl, rfl, rfl, rfl⟩⟩
    · simp [Value.cells] at hcs
      obtain ⟨rfl, rfl, rfl⟩ := hcs
      exact ⟨zs, .inr ⟨_, rfl, hl, hm, by simpa using hz, cell_lt hcell (by simpa using hz), hcell, hwz⟩⟩
  obtain ⟨a1, len1, cap1, rfl⟩ := okWide_slice Try.underlying22 (hval 1 22 v1 rfl rfl)
  have k1 := h1
  have lt1 : ∀ x ∈ p1, x.block < W.heap.size := by obtain ⟨m, hm⟩ := k1; exact DataW.trod_lt m _ _ _ hm
  obtain ⟨z1, w1⟩ : ∃ zs, IsRow .i64 W a1 len1 cap1 zs := by
    obtain ⟨fuel, hf⟩ := h1
    rcases open_ints Try.underlying22 Try.underlying3 (by kernel_rfl) hf with ⟨hcs, _⟩ | ⟨x, l, c, zs, hcs, _, hl, hm, hz, _, hcell, hwz⟩
    · simp [Value.cells] at hcs
      obtain ⟨rfl, rfl, rfl⟩ := hcs
      exact ⟨[], .inl ⟨rfl, rfl, rfl, rfl⟩⟩
    · simp [Value.cells] at hcs
      obtain ⟨rfl, rfl, rfl⟩ := hcs
      exact ⟨zs, .inr ⟨_, rfl, hl, hm, by simpa using hz, cell_lt hcell (by simpa using hz), hcell, hwz⟩⟩
  obtain ⟨a2, rfl, rfl, rfl, w2⟩ := open_int Try.underlying3 (hval 2 3 v2 rfl rfl) h2
  obtain ⟨a3, rfl, rfl, rfl, w3⟩ := open_int Try.underlying3 (hval 3 3 v3 rfl rfl) h3
  clear hA0 hval0
  refine (walkPartyTalks a0 len0 cap0 z0 a1 len1 cap1 z1 a2 a3 W w0 w1 w2 w3).mono fun e W' ⟨he, bel⟩ => ?_
  subst he
  exact ⟨_, rfl, _, _, _, [], _, [], hW', trodAll_mk1 (shut_bool Try.underlying4 _), (trodAll_cons_mk (Below.trod laidOut (by kernel_rfl) (of_decide_eq_true (by kernel_rfl)) k0 bel lt0) (trodAll_cons_mk (Below.trod laidOut (by kernel_rfl) (of_decide_eq_true (by kernel_rfl)) k1 bel lt1) (trodAll_cons_mk (shut_int Try.underlying3 w2) (trodAll_cons_mk (shut_int Try.underlying3 w3) trodAll_mk0)))), rfl, bel.frame _, fun h => by cases h⟩

theorem overPartyTalks : Rows.partyTalksRow.holds Try.pinned (OpenSpec.ofChange Rows.partyTalksSpec) :=
  OpenClaim.holds_of_wide 4 Try.f4 rfl rfl rfl rfl rfl rfl rfl ⟨rfl, rfl, rfl, rfl, rfl⟩ rfl rfl rfl rfl rfl (by kernel_rfl) Try.func4 (by kernel_rfl)
    (of_decide_eq_true (by kernel_rfl)) (by unfold Func.isWrapper; first | (rw [if_pos (by decide +kernel)]; kernel_rfl) | (rw [if_neg (by decide +kernel)]; exact ⟨rfl, rfl⟩))
    (fun os started H enc _ => liftedPartyTalks os started H enc)

/-- The statement. -/
theorem partyTalks_holds : Rows.PartyTalksSaid := overPartyTalks

#print axioms partyTalks_holds
end Go.Proofs.Ythghedlgeceepaa
