/- Two ports that hear at once all that the other one says: the loop. Its conditions: ticks far from an int's ends. -/
import Derived.Test.YthghedlgeceepaaPmAlive
namespace Go.Proofs.Ythghedlgeceepaa
open Go.RowKit
set_option maxRecDepth 100000

theorem say_isM (m : Msg) : sayB' m = isM m := by
  unfold sayB' isM
  refine decide_eq_decide.2 ?_
  obtain ⟨all, ws⟩ := m
  cases all <;> cases ws <;> simp
  omega
theorem goodB_of {m : Msg} (h : m.Good) : m.goodB = true := decide_eq_true h
/-- Two parts that lie apart, and a box beside them. -/
structure Talk (w0 wr : World) (ga gb N : Nat) (pa pb : Py) (ja jb : List Int) (Fa Fb : Nat → Prop) : Prop where
  a : PyF wr w0.heap.size ga pa ja Fa
  b : PyF wr w0.heap.size gb pb jb Fb
  dj : ∀ k, Fa k → ¬ Fb k
  bel : Below w0.heap.size w0 wr
  box : Blk wr N 29 #[.int .i64 1, .int .i64 9]
  na : ¬ Fa N
  nb : ¬ Fb N
theorem PyF.lt {w : World} {B g : Nat} {p : Py} {jl : List Int} {F : Nat → Prop} (h : PyF w B g p jl F) : ∀ k, F k → B ≤ k ∧ k < w.heap.size := by
  obtain ⟨y, h⟩ := h
  exact h.lt
theorem PyF.keep {w w' : World} {B g : Nat} {p : Py} {jl : List Int} {F P : Nat → Prop} (h : PyF w B g p jl F) (ht : Touch P w w') (hp : ∀ k, F k → ¬ P k) : PyF w' B g p jl F := by
  obtain ⟨y, h⟩ := h
  exact ⟨y, h.keep ht hp⟩
theorem PyF.low {w : World} {B B' g : Nat} {p : Py} {jl : List Int} {F : Nat → Prop} (h : PyF w B g p jl F) (hB : B' ≤ B) : PyF w B' g p jl F := by
  obtain ⟨y, h⟩ := h
  exact ⟨y, h.blk, h.row, h.ls, h.slots, h.draws, h.fg, h.frow, h.fgd, h.fdr, h.fq, fun k hk => ⟨Nat.le_trans hB (h.lt k hk).1, (h.lt k hk).2⟩⟩
section
variable {w0 wr w' : World} {ga gb N : Nat} {pa pb p' : Py} {ja jb : List Int} {Fa Fb : Nat → Prop}
theorem Talk.below (h : Talk w0 wr ga gb N pa pb ja jb Fa Fb) (hb : Below wr.heap.size wr w') : Talk w0 w' ga gb N pa pb ja jb Fa Fb :=
  ⟨h.a.keep (below_touch hb fun _ => False) fun _ _ => id, h.b.keep (below_touch hb fun _ => False) fun _ _ => id, h.dj, h.bel.trans (hb.mono h.bel.size), h.box.below hb h.box.lt, h.na, h.nb⟩
theorem Talk.actA (h : Talk w0 wr ga gb N pa pb ja jb Fa Fb) (ha : PyF w' w0.heap.size ga p' ja (grow Fa wr w')) (ht : Touch Fa wr w') : Talk w0 w' ga gb N p' pb ja jb (grow Fa wr w') Fb :=
  ⟨ha, h.b.keep ht fun k hk hc => h.dj k hc hk, fun k hk hb => hk.elim (fun hk => h.dj k hk hb) (fun hk => by have := (h.b.lt k hb).2; omega), h.bel.trans (ht.below h.bel.size fun k hk => (h.a.lt k hk).1),
    h.box.touch ht h.na, fun hk => hk.elim h.na (fun hk => by have := h.box.lt; omega), h.nb⟩
theorem Talk.actB (h : Talk w0 wr ga gb N pa pb ja jb Fa Fb) (hb : PyF w' w0.heap.size gb p' jb (grow Fb wr w')) (ht : Touch Fb wr w') : Talk w0 w' ga gb N pa p' ja jb Fa (grow Fb wr w') :=
  ⟨h.a.keep ht fun k hk hc => h.dj k hk hc, hb, fun k hk hb => hb.elim (fun hb => h.dj k hk hb) (fun hb => by have := (h.a.lt k hk).2; omega), h.bel.trans (ht.below h.bel.size fun k hk => (h.b.lt k hk).1),
    h.box.touch ht h.nb, h.na, fun hk => hk.elim h.nb (fun hk => by have := h.box.lt; omega)⟩
theorem Talk.tickA (h : Talk w0 wr ga gb N pa pb ja jb Fa Fb) (ha : PyF w' w0.heap.size ga p' ja Fa) (ht : Touch Fa wr w') : Talk w0 w' ga gb N p' pb ja jb Fa Fb :=
  ⟨ha, h.b.keep ht fun k hk hc => h.dj k hc hk, h.dj, h.bel.trans (ht.below h.bel.size fun k hk => (h.a.lt k hk).1), h.box.touch ht h.na, h.na, h.nb⟩
theorem Talk.tickB (h : Talk w0 wr ga gb N pa pb ja jb Fa Fb) (hb : PyF w' w0.heap.size gb p' jb Fb) (ht : Touch Fb wr w') : Talk w0 w' ga gb N pa p' ja jb Fa Fb :=
  ⟨h.a.keep ht fun k hk hc => h.dj k hk hc, hb, h.dj, h.bel.trans (ht.below h.bel.size fun k hk => (h.b.lt k hk).1), h.box.touch ht h.nb, h.na, h.nb⟩
end
theorem ints_keep {W V : World} {base c : Nat} {A : Option Addr} {l : List Int} (h : OwnI W base A c l) {F : Nat → Prop} (hF : ∀ k, F k → k < base) (ht : Touch F W V) : IntsAt V V.heap.size A l :=
  OwnI.at_ (w := V) (base := base) (c := c) (own_heap h fun k hk => ht.block k (World.ownsRow.lt h k hk).2 (fun e => by have := hF _ e; have := (World.ownsRow.lt h k hk).1; omega))
theorem words_keep {W V : World} {base c : Nat} {A : Option Addr} {l : List Wd} (h : OwnW W base A c l) {F : Nat → Prop} (hF : ∀ k, F k → k < base) (ht : Touch F W V) : WordsAt V V.heap.size A l :=
  OwnW.at_ (w := V) (base := base) (c := c) (own_heap h fun k hk => ht.block k (World.ownsRow.lt h k hk).2 (fun e => by have := hF _ e; have := (World.ownsRow.lt h k hk).1; omega))
theorem said_few (jit : Nat → Int) {p : Py} {T : Int} (hok : PyOk T p) (h0 : 0 ≤ T) : (saidP jit p T).all.length ≤ 3 ∧ (saidP jit p T).ws.length ≤ 16 := by
  have h1 := (hok.tick1 h0 jit).len
  unfold saidP tellP
  split
  · refine ⟨?_, ?_⟩
    · show (if _ then _ else _ : List Int).length ≤ 3
      split
      · exact (types_le _).2
      · exact Nat.zero_le _
    · exact Nat.le_trans (by unfold saysL; exact List.length_filterMap_le _ _) h1
  · exact ⟨Nat.zero_le _, Nat.zero_le _⟩
theorem hear_isM {p : Py} {m : Msg} {now : Int} (hm : m.Good) (h : isM m = true) : hearQ p m now = hears p m now := by
  unfold hearQ hears
  rw [if_pos (goodB_of hm), if_pos h]
theorem PyOk.hears' {T : Int} {p : Py} (h : PyOk T p) (hT : 0 ≤ T) {m : Msg} (hm : m.Good) : PyOk T (hears p m T) := by
  unfold hears
  split
  · exact h.hear hT hm
  · exact h
theorem TidyOk.hears' {p : Py} (h : TidyOk p) (m : Msg) (T : Int) : TidyOk (hears p m T) := by
  unfold hears
  split
  · exact TidyOk.tidy _
  · exact h
/-- How the loop stands at a tick's end. -/
def TalkAt (w0 wr : World) (ga gb N : Nat) (ja jb : List Int) (Inv : Int → Py → Py → Prop) (T : Int) : Prop :=
  ∃ pa pb Fa Fb, Talk w0 wr ga gb N pa pb ja jb Fa Fb ∧ (PyOk T pa ∧ PyOk T pb) ∧ (TidyOk pa ∧ TidyOk pb) ∧ Inv T pa pb
set_option maxHeartbeats 32000000 in
theorem talk_any (bn : Bool) (Inv : Int → Py → Py → Prop) (fr to_ after : Int) (h0 : 0 ≤ fr) (h1 : fr ≤ to_) (h2 : to_ ≤ 1000) (w0 w : World) (ga gb : Nat) (pa pb : Py) (ja jb : List Int) (Fa Fb : Nat → Prop)
    (hstep : ∀ now pa pb, fr < now → now ≤ to_ → Inv (now - 1) pa pb → Inv now (talkA (jitD ja) (jitD jb) (if bn = true then wantP pa 1 9 now false else pa) pb now) (talkB (jitD ja) (jitD jb) (if bn = true then wantP pa 1 9 now false else pa) pb now) ∧ (after ≤ now → hasP (talkB (jitD ja) (jitD jb) (if bn = true then wantP pa 1 9 now false else pa) pb now) 1 9 = bn))
    (ha : PyF w w0.heap.size ga pa ja Fa) (hb : PyF w w0.heap.size gb pb jb Fb) (hdj : ∀ k, Fa k → ¬ Fb k) (hbel : Below w0.heap.size w0 w) (hok : PyOk fr pa ∧ PyOk fr pb) (htd : TidyOk pa ∧ TidyOk pb) (hI : Inv fr pa pb) :
    Calls Try.prog 16 #[.pointer (some ⟨ga, 0, none⟩), .pointer (some ⟨gb, 0, none⟩), .int .i64 fr, .int .i64 to_, .agg #[.int .i64 1, .int .i64 9], .int .i64 after, .bool bn] w fun e w' => e = .returned (.bool true) ∧
      ∃ pa' pb' Fa' Fb', PyF w' w0.heap.size ga pa' ja Fa' ∧ PyF w' w0.heap.size gb pb' jb Fb' ∧ (∀ k, Fa' k → ¬ Fb' k) ∧ Below w0.heap.size w0 w' ∧ (PyOk to_ pa' ∧ PyOk to_ pb') ∧ (TidyOk pa' ∧ TidyOk pb') ∧ Inv to_ pa' pb' := by
  have hbx := bel_alloc w (.cells #[.int .i64 1, .int .i64 9] 29)
  have HST := Lib.hid (show TalkAt w0 (w.alloc (.cells #[.int .i64 1, .int .i64 9] 29)) ga gb w.heap.size ja jb Inv (fr + 1 - 1) from
    ⟨pa, pb, Fa, Fb, ⟨ha.keep (below_touch hbx fun _ => False) fun _ _ => id, hb.keep (below_touch hbx fun _ => False) fun _ _ => id, hdj, hbel.trans (hbx.mono hbel.size), Blk.new w _ _, fun c => by have := (ha.lt _ c).2; omega, fun c => by have := (hb.lt _ c).2; omega⟩, by rw [Int.add_sub_cancel]; exact hok, htd, by rw [Int.add_sub_cancel]; exact hI⟩)
  have HSTEP := Lib.hid hstep
  have HRG := Lib.hid (And.intro h0 (And.intro h1 h2))
  have HW1 := Lib.hid (show wrap64 (fr + 1) = fr + 1 from IntWalk.wrap64_in _ (by omega))
  clear hbx ha hb hdj hbel hok htd hI hstep
  go_enter Try.func16, Try.ntmps16
  go_wp2_with fail
  try rw [HW1.out]
  go_loopw [15] (fun iv wr => ∃ T : Int, fr + 1 ≤ T ∧ T ≤ to_ + 1 ∧ iv = .int .i64 T ∧ Hid (TalkAt w0 wr ga gb w.heap.size ja jb Inv (T - 1))) (fun iv _ => (to_ + 1 - intOf iv).toNat)
  case atStart => exact ⟨fr + 1, Int.le_refl _, by omega, rfl, HST⟩
  case round =>
    obtain ⟨T, hT1, hT2, rfl, hS⟩ := hrel
    by_cases hlt : T ≤ to_
    · have HT := Lib.hid (And.intro hT1 (And.intro hlt (show Tk T from tk_of (by have := HRG.out; omega) (by have := HRG.out; omega))))
      have HJ := Lib.hid (show wrap64 (T + 1) = T + 1 from IntWalk.wrap64_in _ (by have := HRG.out; omega))
      obtain ⟨pa, pb, Fa, Fb, htk, hok, htd, hI⟩ := hS.out
      have hstp := HSTEP.out T pa pb (by omega) hlt hI
      have hoka : PyOk T pa := hok.1.more (by omega)
      have hokb : PyOk T pb := hok.2.more (by omega)
      have hT0 : 0 ≤ T := by have := HRG.out; omega
      clear hT1 hT2 hS hI hok h0 h1 h2
      cases bn with
      | false =>
        rw [if_neg (by decide)] at hstp
        obtain ⟨pa1, hpa1⟩ : ∃ pa1, pa = pa1 := ⟨_, rfl⟩
        obtain ⟨Fa1, hFa1⟩ : ∃ F, Fa = F := ⟨_, rfl⟩
        rw [hpa1] at hstp
        have htk1 : Talk w0 wr ga gb w.heap.size pa1 pb ja jb Fa1 Fb := by rw [← hpa1, ← hFa1]; exact htk
        have hoka1 : PyOk T pa1 := by rw [← hpa1]; exact hoka
        have HT0 := Lib.hid hT0
        clear htk hoka hpa1 hFa1 htd hT0
        obtain ⟨ya, hya⟩ := htk1.a
        have HTA := Lib.hid (tick_any hya hoka1 HT.out.2.2)
        have HLB := Lib.hid (fun k hk => (htk1.b.lt k hk).2)
        have HTK1 := Lib.hid htk1
        clear htk1 hya
        go_wp2_with fail
        refine HTA.out.mono ?_
        rintro e w2 ⟨A2, c2, B2, d2, rfl, ho2, hw2, hpa2, t2⟩
        have htk2 := HTK1.out.tickA hpa2 t2
        have hmg := said_good hoka1 HT0.out (jitD ja)
        have hfw := said_few (jitD ja) hoka1 HT0.out
        have HOKA := Lib.hid (And.intro (hoka1.tick HT0.out (jitD ja)) (show TidyOk (tickP (jitD ja) pa1 T) from TidyOk.tidy _))
        obtain ⟨m, hm⟩ : ∃ m, saidP (jitD ja) pa1 T = m := ⟨_, rfl⟩
        rw [hm] at ho2 hw2 hmg hfw ⊢
        rw [say_isM]
        obtain ⟨an, han⟩ : ∃ an, m.all.length = an := ⟨_, rfl⟩
        obtain ⟨sn, hsn⟩ : ∃ sn, m.ws.length = sn := ⟨_, rfl⟩
        rw [han, hsn]
        have hxb := bel_alloc w2 (.cells #[.slice A2 an c2, .slice B2 sn d2] 32)
        have htk3 := htk2.below hxb
        clear htk2 hpa2 t2 hoka1
        cases hbi : isM m with
        | false =>
          obtain ⟨pb2, hpb2⟩ : ∃ pb2, hears pb m T = pb2 := ⟨_, rfl⟩
          have HPB2 := Lib.hid (show hears pb (saidP (jitD ja) pa1 T) T = pb2 by rw [hm]; exact hpb2)
          have hokb2 : PyOk T pb2 := by rw [← hpb2]; exact hokb.hears' HT0.out hmg
          have e1 : pb = pb2 := by rw [← hpb2]; unfold hears; rw [hbi]; rfl
          have HSTP := Lib.hid hstp
          have htk4 : Talk w0 (w2.alloc (.cells #[.slice A2 an c2, .slice B2 sn d2] 32)) ga gb w.heap.size (tickP (jitD ja) pa1 T) pb2 ja jb Fa1 Fb := by rw [← e1]; exact htk3
          obtain ⟨Fb2, hFb2⟩ : ∃ F, Fb = F := ⟨_, rfl⟩
          rw [hFb2] at htk4
          clear htk3 ho2 hw2 hmg hfw hm han hsn hbi hpb2 e1 hstp hokb hFb2 hxb
          obtain ⟨yb5, hyb5⟩ := htk4.b
          have HTB := Lib.hid (tick_any hyb5 hokb2 HT.out.2.2)
          have HLA := Lib.hid (fun k hk => (htk4.a.lt k hk).2)
          have HTK4 := Lib.hid htk4
          clear htk4 hyb5
          go_wp2_with fail
          refine HTB.out.mono ?_
          rintro e w5 ⟨A5, c5, B5, d5, rfl, ho5, hw5, hpb5, t5⟩
          have htk5 := HTK4.out.tickB hpb5 t5
          have hm5g := said_good hokb2 HT0.out (jitD jb)
          have hfw5 := said_few (jitD jb) hokb2 HT0.out
          have hokb5 := hokb2.tick HT0.out (jitD jb)
          obtain ⟨m5, hm5⟩ : ∃ m5, saidP (jitD jb) pb2 T = m5 := ⟨_, rfl⟩
          rw [hm5] at ho5 hw5 hm5g hfw5 ⊢
          rw [say_isM]
          obtain ⟨an5, han5⟩ : ∃ an5, m5.all.length = an5 := ⟨_, rfl⟩
          obtain ⟨sn5, hsn5⟩ : ∃ sn5, m5.ws.length = sn5 := ⟨_, rfl⟩
          rw [han5, hsn5]
          have hxb5 := bel_alloc w5 (.cells #[.slice A5 an5 c5, .slice B5 sn5 d5] 32)
          have htk6 := htk5.below hxb5
          clear htk5 hpb5 t5
          cases hbw : isM m5 with
          | false =>
            have HOK := Lib.hid (show PyOk T (talkA (jitD ja) (jitD jb) pa1 pb T) ∧ PyOk T (talkB (jitD ja) (jitD jb) pa1 pb T) ∧ (TidyOk (talkA (jitD ja) (jitD jb) pa1 pb T) ∧ TidyOk (talkB (jitD ja) (jitD jb) pa1 pb T)) from ⟨(HOKA.out.1).hears' HT0.out (by rw [HPB2.out, hm5]; exact hm5g), by show PyOk T (tickP (jitD jb) (hears pb (saidP (jitD ja) pa1 T) T) T); rw [HPB2.out]; exact hokb5, (HOKA.out.2).hears' _ _, TidyOk.tidy _⟩)
            have htkF : Talk w0 (w5.alloc (.cells #[.slice A5 an5 c5, .slice B5 sn5 d5] 32)) ga gb w.heap.size (talkA (jitD ja) (jitD jb) pa1 pb T) (talkB (jitD ja) (jitD jb) pa1 pb T) ja jb Fa1 Fb2 := by
              have e1 : talkA (jitD ja) (jitD jb) pa1 pb T = tickP (jitD ja) pa1 T := by
                show hears (tickP (jitD ja) pa1 T) (saidP (jitD jb) (hears pb (saidP (jitD ja) pa1 T) T) T) T = _
                rw [HPB2.out, hm5]
                unfold hears
                rw [hbw]
                rfl
              have e2 : talkB (jitD ja) (jitD jb) pa1 pb T = tickP (jitD jb) pb2 T := by
                show tickP (jitD jb) (hears pb (saidP (jitD ja) pa1 T) T) T = _
                rw [HPB2.out]
              rw [e1, e2]
              exact htk6
            clear htk6 ho5 hw5 hm5g hfw5 hokb5 hm5 han5 hsn5 hbw hokb2 hxb5
            have HTF := Lib.hid htkF
            have c0 : (w5.alloc (.cells #[.slice A5 an5 c5, .slice B5 sn5 d5] 32)).cell? ⟨w.heap.size, 0, none⟩ = some (.int .i64 1) := HTF.out.box.cell 0
            have c1 : (w5.alloc (.cells #[.slice A5 an5 c5, .slice B5 sn5 d5] 32)).cell? ⟨w.heap.size, 1, none⟩ = some (.int .i64 9) := HTF.out.box.cell 1
            clear htkF
            by_cases hge : after ≤ T
            · have hhas : hasP (talkB (jitD ja) (jitD jb) pa1 pb T) 1 9 = false := HSTP.out.2 hge
              obtain ⟨yB, hyB⟩ := HTF.out.b
              have HHAS := Lib.hid (phas_any hyB HOK.out.2.1 1 9)
              rw [hhas] at HHAS
              clear hhas hyB
              go_wp2_with fail
              refine HHAS.out.mono ?_
              rintro e w9 ⟨rfl, b9⟩
              have HE := Lib.hid (show TalkAt w0 w9 ga gb w.heap.size ja jb Inv T from ⟨_, _, _, _, HTF.out.below b9, ⟨HOK.out.1, HOK.out.2.1⟩, HOK.out.2.2, HSTP.out.1⟩)
              clear b9 c0 c1
              go_wp2_with fail
              go_roundw
              case rel =>
                try rw [HJ.out]
                exact ⟨T + 1, by have := HT.out; omega, by have := HT.out; omega, rfl, by rw [Int.add_sub_cancel]; exact HE⟩
              case measure =>
                try rw [HJ.out]
                show (to_ + 1 - (T + 1)).toNat < (to_ + 1 - T).toNat
                have := HT.out
                omega
            · have hlt9 : T < after := by omega
              have HE := Lib.hid (show TalkAt w0 (w5.alloc (.cells #[.slice A5 an5 c5, .slice B5 sn5 d5] 32)) ga gb w.heap.size ja jb Inv T from ⟨_, _, _, _, HTF.out, ⟨HOK.out.1, HOK.out.2.1⟩, HOK.out.2.2, HSTP.out.1⟩)
              clear hge c0 c1
              go_wp2_with fail
              go_roundw
              case rel =>
                try rw [HJ.out]
                exact ⟨T + 1, by have := HT.out; omega, by have := HT.out; omega, rfl, by rw [Int.add_sub_cancel]; exact HE⟩
              case measure =>
                try rw [HJ.out]
                show (to_ + 1 - (T + 1)).toNat < (to_ + 1 - T).toNat
                have := HT.out
                omega
          | true =>
            obtain ⟨ya6, hya6⟩ := htk6.a
            have hFa6 : ∀ k, Fa1 k → k < (w2.alloc (.cells #[.slice A2 an c2, .slice B2 sn d2] 32)).heap.size := HLA.out
            have HHA := Lib.hid (phear_any hya6 (HOKA.out.1) HT.out.2.2 htk6.bel.size A5 B5 c5 d5 m5 (by omega) (by omega) (fun V tV => ints_keep ho5 hFa6 ((below_touch hxb5 Fa1).trans tV)) (fun V tV => words_keep hw5 hFa6 ((below_touch hxb5 Fa1).trans tV)))
            rw [hear_isM hm5g hbw, han5, hsn5] at HHA
            have HTK6 := Lib.hid htk6
            have HOK := Lib.hid (show PyOk T (talkA (jitD ja) (jitD jb) pa1 pb T) ∧ PyOk T (talkB (jitD ja) (jitD jb) pa1 pb T) ∧ (TidyOk (talkA (jitD ja) (jitD jb) pa1 pb T) ∧ TidyOk (talkB (jitD ja) (jitD jb) pa1 pb T)) from ⟨(HOKA.out.1).hears' HT0.out (by rw [HPB2.out, hm5]; exact hm5g), by show PyOk T (tickP (jitD jb) (hears pb (saidP (jitD ja) pa1 T) T) T); rw [HPB2.out]; exact hokb5, (HOKA.out.2).hears' _ _, TidyOk.tidy _⟩)
            have HM5 := Lib.hid hm5
            clear hya6 hFa6 htk6 ho5 hw5 hm5g hfw5 hokb5 hm5 han5 hsn5 hbw hokb2 hxb5
            go_wp2_with fail
            refine HHA.out.mono ?_
            rintro e w7 ⟨⟨z7, rfl⟩, hpa7, t7⟩
            have htkF : Talk w0 w7 ga gb w.heap.size (talkA (jitD ja) (jitD jb) pa1 pb T) (talkB (jitD ja) (jitD jb) pa1 pb T) ja jb (grow Fa1 (w5.alloc (.cells #[.slice A5 an5 c5, .slice B5 sn5 d5] 32)) w7) Fb2 := by
              have e1 : talkA (jitD ja) (jitD jb) pa1 pb T = hears (tickP (jitD ja) pa1 T) m5 T := by
                show hears (tickP (jitD ja) pa1 T) (saidP (jitD jb) (hears pb (saidP (jitD ja) pa1 T) T) T) T = _
                rw [HPB2.out, HM5.out]
              have e2 : talkB (jitD ja) (jitD jb) pa1 pb T = tickP (jitD jb) pb2 T := by
                show tickP (jitD jb) (hears pb (saidP (jitD ja) pa1 T) T) T = _
                rw [HPB2.out]
              rw [e1, e2]
              exact HTK6.out.actA hpa7 t7
            clear hpa7 t7
            have HTF := Lib.hid htkF
            have c0 : w7.cell? ⟨w.heap.size, 0, none⟩ = some (.int .i64 1) := HTF.out.box.cell 0
            have c1 : w7.cell? ⟨w.heap.size, 1, none⟩ = some (.int .i64 9) := HTF.out.box.cell 1
            clear htkF
            by_cases hge : after ≤ T
            · have hhas : hasP (talkB (jitD ja) (jitD jb) pa1 pb T) 1 9 = false := HSTP.out.2 hge
              obtain ⟨yB, hyB⟩ := HTF.out.b
              have HHAS := Lib.hid (phas_any hyB HOK.out.2.1 1 9)
              rw [hhas] at HHAS
              clear hhas hyB
              go_wp2_with fail
              refine HHAS.out.mono ?_
              rintro e w9 ⟨rfl, b9⟩
              have HE := Lib.hid (show TalkAt w0 w9 ga gb w.heap.size ja jb Inv T from ⟨_, _, _, _, HTF.out.below b9, ⟨HOK.out.1, HOK.out.2.1⟩, HOK.out.2.2, HSTP.out.1⟩)
              clear b9 c0 c1
              go_wp2_with fail
              go_roundw
              case rel =>
                try rw [HJ.out]
                exact ⟨T + 1, by have := HT.out; omega, by have := HT.out; omega, rfl, by rw [Int.add_sub_cancel]; exact HE⟩
              case measure =>
                try rw [HJ.out]
                show (to_ + 1 - (T + 1)).toNat < (to_ + 1 - T).toNat
                have := HT.out
                omega
            · have hlt9 : T < after := by omega
              have HE := Lib.hid (show TalkAt w0 w7 ga gb w.heap.size ja jb Inv T from ⟨_, _, _, _, HTF.out, ⟨HOK.out.1, HOK.out.2.1⟩, HOK.out.2.2, HSTP.out.1⟩)
              clear hge c0 c1
              go_wp2_with fail
              go_roundw
              case rel =>
                try rw [HJ.out]
                exact ⟨T + 1, by have := HT.out; omega, by have := HT.out; omega, rfl, by rw [Int.add_sub_cancel]; exact HE⟩
              case measure =>
                try rw [HJ.out]
                show (to_ + 1 - (T + 1)).toNat < (to_ + 1 - T).toNat
                have := HT.out
                omega
        | true =>
          obtain ⟨yb, hyb⟩ := htk3.b
          have hFb : ∀ k, Fb k → k < wr.heap.size := HLB.out
          have HHB := Lib.hid (phear_any hyb hokb HT.out.2.2 htk3.bel.size A2 B2 c2 d2 m (by omega) (by omega) (fun V tV => ints_keep ho2 hFb ((below_touch hxb Fb).trans tV)) (fun V tV => words_keep hw2 hFb ((below_touch hxb Fb).trans tV)))
          rw [hear_isM hmg hbi, han, hsn] at HHB
          obtain ⟨pb2, hpb2⟩ : ∃ pb2, hears pb m T = pb2 := ⟨_, rfl⟩
          have HPB2 := Lib.hid (show hears pb (saidP (jitD ja) pa1 T) T = pb2 by rw [hm]; exact hpb2)
          have hokb2 : PyOk T pb2 := by rw [← hpb2]; exact hokb.hears' HT0.out hmg
          have HSTP := Lib.hid hstp
          rw [hpb2] at HHB
          have HTK3 := Lib.hid htk3
          clear hyb hFb htk3 ho2 hw2 hmg hfw hm han hsn hbi hpb2 hstp hokb hxb
          go_wp2_with fail
          refine HHB.out.mono ?_
          rintro e w4 ⟨⟨z4, rfl⟩, hpb4, t4⟩
          have htk4 := HTK3.out.actB hpb4 t4
          obtain ⟨Fb2, hFb2⟩ : ∃ F, grow Fb (w2.alloc (.cells #[.slice A2 an c2, .slice B2 sn d2] 32)) w4 = F := ⟨_, rfl⟩
          rw [hFb2] at htk4
          clear hpb4 t4 hFb2
          obtain ⟨yb5, hyb5⟩ := htk4.b
          have HTB := Lib.hid (tick_any hyb5 hokb2 HT.out.2.2)
          have HLA := Lib.hid (fun k hk => (htk4.a.lt k hk).2)
          have HTK4 := Lib.hid htk4
          clear htk4 hyb5
          go_wp2_with fail
          refine HTB.out.mono ?_
          rintro e w5 ⟨A5, c5, B5, d5, rfl, ho5, hw5, hpb5, t5⟩
          have htk5 := HTK4.out.tickB hpb5 t5
          have hm5g := said_good hokb2 HT0.out (jitD jb)
          have hfw5 := said_few (jitD jb) hokb2 HT0.out
          have hokb5 := hokb2.tick HT0.out (jitD jb)
          obtain ⟨m5, hm5⟩ : ∃ m5, saidP (jitD jb) pb2 T = m5 := ⟨_, rfl⟩
          rw [hm5] at ho5 hw5 hm5g hfw5 ⊢
          rw [say_isM]
          obtain ⟨an5, han5⟩ : ∃ an5, m5.all.length = an5 := ⟨_, rfl⟩
          obtain ⟨sn5, hsn5⟩ : ∃ sn5, m5.ws.length = sn5 := ⟨_, rfl⟩
          rw [han5, hsn5]
          have hxb5 := bel_alloc w5 (.cells #[.slice A5 an5 c5, .slice B5 sn5 d5] 32)
          have htk6 := htk5.below hxb5
          clear htk5 hpb5 t5
          cases hbw : isM m5 with
          | false =>
            have HOK := Lib.hid (show PyOk T (talkA (jitD ja) (jitD jb) pa1 pb T) ∧ PyOk T (talkB (jitD ja) (jitD jb) pa1 pb T) ∧ (TidyOk (talkA (jitD ja) (jitD jb) pa1 pb T) ∧ TidyOk (talkB (jitD ja) (jitD jb) pa1 pb T)) from ⟨(HOKA.out.1).hears' HT0.out (by rw [HPB2.out, hm5]; exact hm5g), by show PyOk T (tickP (jitD jb) (hears pb (saidP (jitD ja) pa1 T) T) T); rw [HPB2.out]; exact hokb5, (HOKA.out.2).hears' _ _, TidyOk.tidy _⟩)
            have htkF : Talk w0 (w5.alloc (.cells #[.slice A5 an5 c5, .slice B5 sn5 d5] 32)) ga gb w.heap.size (talkA (jitD ja) (jitD jb) pa1 pb T) (talkB (jitD ja) (jitD jb) pa1 pb T) ja jb Fa1 Fb2 := by
              have e1 : talkA (jitD ja) (jitD jb) pa1 pb T = tickP (jitD ja) pa1 T := by
                show hears (tickP (jitD ja) pa1 T) (saidP (jitD jb) (hears pb (saidP (jitD ja) pa1 T) T) T) T = _
                rw [HPB2.out, hm5]
                unfold hears
                rw [hbw]
                rfl
              have e2 : talkB (jitD ja) (jitD jb) pa1 pb T = tickP (jitD jb) pb2 T := by
                show tickP (jitD jb) (hears pb (saidP (jitD ja) pa1 T) T) T = _
                rw [HPB2.out]
              rw [e1, e2]
              exact htk6
            clear htk6 ho5 hw5 hm5g hfw5 hokb5 hm5 han5 hsn5 hbw hokb2 hxb5
            have HTF := Lib.hid htkF
            have c0 : (w5.alloc (.cells #[.slice A5 an5 c5, .slice B5 sn5 d5] 32)).cell? ⟨w.heap.size, 0, none⟩ = some (.int .i64 1) := HTF.out.box.cell 0
            have c1 : (w5.alloc (.cells #[.slice A5 an5 c5, .slice B5 sn5 d5] 32)).cell? ⟨w.heap.size, 1, none⟩ = some (.int .i64 9) := HTF.out.box.cell 1
            clear htkF
            by_cases hge : after ≤ T
            · have hhas : hasP (talkB (jitD ja) (jitD jb) pa1 pb T) 1 9 = false := HSTP.out.2 hge
              obtain ⟨yB, hyB⟩ := HTF.out.b
              have HHAS := Lib.hid (phas_any hyB HOK.out.2.1 1 9)
              rw [hhas] at HHAS
              clear hhas hyB
              go_wp2_with fail
              refine HHAS.out.mono ?_
              rintro e w9 ⟨rfl, b9⟩
              have HE := Lib.hid (show TalkAt w0 w9 ga gb w.heap.size ja jb Inv T from ⟨_, _, _, _, HTF.out.below b9, ⟨HOK.out.1, HOK.out.2.1⟩, HOK.out.2.2, HSTP.out.1⟩)
              clear b9 c0 c1
              go_wp2_with fail
              go_roundw
              case rel =>
                try rw [HJ.out]
                exact ⟨T + 1, by have := HT.out; omega, by have := HT.out; omega, rfl, by rw [Int.add_sub_cancel]; exact HE⟩
              case measure =>
                try rw [HJ.out]
                show (to_ + 1 - (T + 1)).toNat < (to_ + 1 - T).toNat
                have := HT.out
                omega
            · have hlt9 : T < after := by omega
              have HE := Lib.hid (show TalkAt w0 (w5.alloc (.cells #[.slice A5 an5 c5, .slice B5 sn5 d5] 32)) ga gb w.heap.size ja jb Inv T from ⟨_, _, _, _, HTF.out, ⟨HOK.out.1, HOK.out.2.1⟩, HOK.out.2.2, HSTP.out.1⟩)
              clear hge c0 c1
              go_wp2_with fail
              go_roundw
              case rel =>
                try rw [HJ.out]
                exact ⟨T + 1, by have := HT.out; omega, by have := HT.out; omega, rfl, by rw [Int.add_sub_cancel]; exact HE⟩
              case measure =>
                try rw [HJ.out]
                show (to_ + 1 - (T + 1)).toNat < (to_ + 1 - T).toNat
                have := HT.out
                omega
          | true =>
            obtain ⟨ya6, hya6⟩ := htk6.a
            have hFa6 : ∀ k, Fa1 k → k < w4.heap.size := HLA.out
            have HHA := Lib.hid (phear_any hya6 (HOKA.out.1) HT.out.2.2 htk6.bel.size A5 B5 c5 d5 m5 (by omega) (by omega) (fun V tV => ints_keep ho5 hFa6 ((below_touch hxb5 Fa1).trans tV)) (fun V tV => words_keep hw5 hFa6 ((below_touch hxb5 Fa1).trans tV)))
            rw [hear_isM hm5g hbw, han5, hsn5] at HHA
            have HTK6 := Lib.hid htk6
            have HOK := Lib.hid (show PyOk T (talkA (jitD ja) (jitD jb) pa1 pb T) ∧ PyOk T (talkB (jitD ja) (jitD jb) pa1 pb T) ∧ (TidyOk (talkA (jitD ja) (jitD jb) pa1 pb T) ∧ TidyOk (talkB (jitD ja) (jitD jb) pa1 pb T)) from ⟨(HOKA.out.1).hears' HT0.out (by rw [HPB2.out, hm5]; exact hm5g), by show PyOk T (tickP (jitD jb) (hears pb (saidP (jitD ja) pa1 T) T) T); rw [HPB2.out]; exact hokb5, (HOKA.out.2).hears' _ _, TidyOk.tidy _⟩)
            have HM5 := Lib.hid hm5
            clear hya6 hFa6 htk6 ho5 hw5 hm5g hfw5 hokb5 hm5 han5 hsn5 hbw hokb2 hxb5
            go_wp2_with fail
            refine HHA.out.mono ?_
            rintro e w7 ⟨⟨z7, rfl⟩, hpa7, t7⟩
            have htkF : Talk w0 w7 ga gb w.heap.size (talkA (jitD ja) (jitD jb) pa1 pb T) (talkB (jitD ja) (jitD jb) pa1 pb T) ja jb (grow Fa1 (w5.alloc (.cells #[.slice A5 an5 c5, .slice B5 sn5 d5] 32)) w7) Fb2 := by
              have e1 : talkA (jitD ja) (jitD jb) pa1 pb T = hears (tickP (jitD ja) pa1 T) m5 T := by
                show hears (tickP (jitD ja) pa1 T) (saidP (jitD jb) (hears pb (saidP (jitD ja) pa1 T) T) T) T = _
                rw [HPB2.out, HM5.out]
              have e2 : talkB (jitD ja) (jitD jb) pa1 pb T = tickP (jitD jb) pb2 T := by
                show tickP (jitD jb) (hears pb (saidP (jitD ja) pa1 T) T) T = _
                rw [HPB2.out]
              rw [e1, e2]
              exact HTK6.out.actA hpa7 t7
            clear hpa7 t7
            have HTF := Lib.hid htkF
            have c0 : w7.cell? ⟨w.heap.size, 0, none⟩ = some (.int .i64 1) := HTF.out.box.cell 0
            have c1 : w7.cell? ⟨w.heap.size, 1, none⟩ = some (.int .i64 9) := HTF.out.box.cell 1
            clear htkF
            by_cases hge : after ≤ T
            · have hhas : hasP (talkB (jitD ja) (jitD jb) pa1 pb T) 1 9 = false := HSTP.out.2 hge
              obtain ⟨yB, hyB⟩ := HTF.out.b
              have HHAS := Lib.hid (phas_any hyB HOK.out.2.1 1 9)
              rw [hhas] at HHAS
              clear hhas hyB
              go_wp2_with fail
              refine HHAS.out.mono ?_
              rintro e w9 ⟨rfl, b9⟩
              have HE := Lib.hid (show TalkAt w0 w9 ga gb w.heap.size ja jb Inv T from ⟨_, _, _, _, HTF.out.below b9, ⟨HOK.out.1, HOK.out.2.1⟩, HOK.out.2.2, HSTP.out.1⟩)
              clear b9 c0 c1
              go_wp2_with fail
              go_roundw
              case rel =>
                try rw [HJ.out]
                exact ⟨T + 1, by have := HT.out; omega, by have := HT.out; omega, rfl, by rw [Int.add_sub_cancel]; exact HE⟩
              case measure =>
                try rw [HJ.out]
                show (to_ + 1 - (T + 1)).toNat < (to_ + 1 - T).toNat
                have := HT.out
                omega
            · have hlt9 : T < after := by omega
              have HE := Lib.hid (show TalkAt w0 w7 ga gb w.heap.size ja jb Inv T from ⟨_, _, _, _, HTF.out, ⟨HOK.out.1, HOK.out.2.1⟩, HOK.out.2.2, HSTP.out.1⟩)
              clear hge c0 c1
              go_wp2_with fail
              go_roundw
              case rel =>
                try rw [HJ.out]
                exact ⟨T + 1, by have := HT.out; omega, by have := HT.out; omega, rfl, by rw [Int.add_sub_cancel]; exact HE⟩
              case measure =>
                try rw [HJ.out]
                show (to_ + 1 - (T + 1)).toNat < (to_ + 1 - T).toNat
                have := HT.out
                omega
      | true =>
        rw [if_pos rfl] at hstp
        obtain ⟨yw, hyw⟩ := htk.a
        have c0 : wr.cell? ⟨w.heap.size, 0, none⟩ = some (.int .i64 1) := htk.box.cell 0
        have c1 : wr.cell? ⟨w.heap.size, 1, none⟩ = some (.int .i64 9) := htk.box.cell 1
        have hwnt := want_any hyw hoka hT0 htk.bel.size 1 9 T false
        rw [want_w hoka hT0 htd.1 false (by decide) (by have := HT.out; have := HRG.out; omega)] at hwnt
        have HWN := Lib.hid hwnt
        have HTK := Lib.hid htk
        have hoka1' : PyOk T (wantP pa 1 9 T false) := hoka.want hT0 (.inl ⟨rfl, by decide⟩) (by have := HT.out; have := HRG.out; omega)
        obtain ⟨pa1, hpa1⟩ : ∃ pa1, wantP pa 1 9 T false = pa1 := ⟨_, rfl⟩
        rw [hpa1] at hstp HWN hoka1'
        have hoka1 := hoka1'
        have HT0 := Lib.hid hT0
        clear hyw hwnt htk hoka hoka1' hpa1 htd hT0
        go_wp2_with fail
        refine HWN.out.mono ?_
        rintro e w1 ⟨rfl, hpw, tw⟩
        have htk1 := HTK.out.actA hpw tw
        obtain ⟨Fa1, hFa1⟩ : ∃ F, grow Fa wr w1 = F := ⟨_, rfl⟩
        rw [hFa1] at htk1
        clear hpw tw hFa1 c0 c1
        obtain ⟨ya, hya⟩ := htk1.a
        have HTA := Lib.hid (tick_any hya hoka1 HT.out.2.2)
        have HLB := Lib.hid (fun k hk => (htk1.b.lt k hk).2)
        have HTK1 := Lib.hid htk1
        clear htk1 hya
        go_wp2_with fail
        refine HTA.out.mono ?_
        rintro e w2 ⟨A2, c2, B2, d2, rfl, ho2, hw2, hpa2, t2⟩
        have htk2 := HTK1.out.tickA hpa2 t2
        have hmg := said_good hoka1 HT0.out (jitD ja)
        have hfw := said_few (jitD ja) hoka1 HT0.out
        have HOKA := Lib.hid (And.intro (hoka1.tick HT0.out (jitD ja)) (show TidyOk (tickP (jitD ja) pa1 T) from TidyOk.tidy _))
        obtain ⟨m, hm⟩ : ∃ m, saidP (jitD ja) pa1 T = m := ⟨_, rfl⟩
        rw [hm] at ho2 hw2 hmg hfw ⊢
        rw [say_isM]
        obtain ⟨an, han⟩ : ∃ an, m.all.length = an := ⟨_, rfl⟩
        obtain ⟨sn, hsn⟩ : ∃ sn, m.ws.length = sn := ⟨_, rfl⟩
        rw [han, hsn]
        have hxb := bel_alloc w2 (.cells #[.slice A2 an c2, .slice B2 sn d2] 32)
        have htk3 := htk2.below hxb
        clear htk2 hpa2 t2 hoka1
        cases hbi : isM m with
        | false =>
          obtain ⟨pb2, hpb2⟩ : ∃ pb2, hears pb m T = pb2 := ⟨_, rfl⟩
          have HPB2 := Lib.hid (show hears pb (saidP (jitD ja) pa1 T) T = pb2 by rw [hm]; exact hpb2)
          have hokb2 : PyOk T pb2 := by rw [← hpb2]; exact hokb.hears' HT0.out hmg
          have e1 : pb = pb2 := by rw [← hpb2]; unfold hears; rw [hbi]; rfl
          have HSTP := Lib.hid hstp
          have htk4 : Talk w0 (w2.alloc (.cells #[.slice A2 an c2, .slice B2 sn d2] 32)) ga gb w.heap.size (tickP (jitD ja) pa1 T) pb2 ja jb Fa1 Fb := by rw [← e1]; exact htk3
          obtain ⟨Fb2, hFb2⟩ : ∃ F, Fb = F := ⟨_, rfl⟩
          rw [hFb2] at htk4
          clear htk3 ho2 hw2 hmg hfw hm han hsn hbi hpb2 e1 hstp hokb hFb2 hxb
          obtain ⟨yb5, hyb5⟩ := htk4.b
          have HTB := Lib.hid (tick_any hyb5 hokb2 HT.out.2.2)
          have HLA := Lib.hid (fun k hk => (htk4.a.lt k hk).2)
          have HTK4 := Lib.hid htk4
          clear htk4 hyb5
          go_wp2_with fail
          refine HTB.out.mono ?_
          rintro e w5 ⟨A5, c5, B5, d5, rfl, ho5, hw5, hpb5, t5⟩
          have htk5 := HTK4.out.tickB hpb5 t5
          have hm5g := said_good hokb2 HT0.out (jitD jb)
          have hfw5 := said_few (jitD jb) hokb2 HT0.out
          have hokb5 := hokb2.tick HT0.out (jitD jb)
          obtain ⟨m5, hm5⟩ : ∃ m5, saidP (jitD jb) pb2 T = m5 := ⟨_, rfl⟩
          rw [hm5] at ho5 hw5 hm5g hfw5 ⊢
          rw [say_isM]
          obtain ⟨an5, han5⟩ : ∃ an5, m5.all.length = an5 := ⟨_, rfl⟩
          obtain ⟨sn5, hsn5⟩ : ∃ sn5, m5.ws.length = sn5 := ⟨_, rfl⟩
          rw [han5, hsn5]
          have hxb5 := bel_alloc w5 (.cells #[.slice A5 an5 c5, .slice B5 sn5 d5] 32)
          have htk6 := htk5.below hxb5
          clear htk5 hpb5 t5
          cases hbw : isM m5 with
          | false =>
            have HOK := Lib.hid (show PyOk T (talkA (jitD ja) (jitD jb) pa1 pb T) ∧ PyOk T (talkB (jitD ja) (jitD jb) pa1 pb T) ∧ (TidyOk (talkA (jitD ja) (jitD jb) pa1 pb T) ∧ TidyOk (talkB (jitD ja) (jitD jb) pa1 pb T)) from ⟨(HOKA.out.1).hears' HT0.out (by rw [HPB2.out, hm5]; exact hm5g), by show PyOk T (tickP (jitD jb) (hears pb (saidP (jitD ja) pa1 T) T) T); rw [HPB2.out]; exact hokb5, (HOKA.out.2).hears' _ _, TidyOk.tidy _⟩)
            have htkF : Talk w0 (w5.alloc (.cells #[.slice A5 an5 c5, .slice B5 sn5 d5] 32)) ga gb w.heap.size (talkA (jitD ja) (jitD jb) pa1 pb T) (talkB (jitD ja) (jitD jb) pa1 pb T) ja jb Fa1 Fb2 := by
              have e1 : talkA (jitD ja) (jitD jb) pa1 pb T = tickP (jitD ja) pa1 T := by
                show hears (tickP (jitD ja) pa1 T) (saidP (jitD jb) (hears pb (saidP (jitD ja) pa1 T) T) T) T = _
                rw [HPB2.out, hm5]
                unfold hears
                rw [hbw]
                rfl
              have e2 : talkB (jitD ja) (jitD jb) pa1 pb T = tickP (jitD jb) pb2 T := by
                show tickP (jitD jb) (hears pb (saidP (jitD ja) pa1 T) T) T = _
                rw [HPB2.out]
              rw [e1, e2]
              exact htk6
            clear htk6 ho5 hw5 hm5g hfw5 hokb5 hm5 han5 hsn5 hbw hokb2 hxb5
            have HTF := Lib.hid htkF
            have c0 : (w5.alloc (.cells #[.slice A5 an5 c5, .slice B5 sn5 d5] 32)).cell? ⟨w.heap.size, 0, none⟩ = some (.int .i64 1) := HTF.out.box.cell 0
            have c1 : (w5.alloc (.cells #[.slice A5 an5 c5, .slice B5 sn5 d5] 32)).cell? ⟨w.heap.size, 1, none⟩ = some (.int .i64 9) := HTF.out.box.cell 1
            clear htkF
            by_cases hge : after ≤ T
            · have hhas : hasP (talkB (jitD ja) (jitD jb) pa1 pb T) 1 9 = true := HSTP.out.2 hge
              obtain ⟨yB, hyB⟩ := HTF.out.b
              have HHAS := Lib.hid (phas_any hyB HOK.out.2.1 1 9)
              rw [hhas] at HHAS
              clear hhas hyB
              go_wp2_with fail
              refine HHAS.out.mono ?_
              rintro e w9 ⟨rfl, b9⟩
              have HE := Lib.hid (show TalkAt w0 w9 ga gb w.heap.size ja jb Inv T from ⟨_, _, _, _, HTF.out.below b9, ⟨HOK.out.1, HOK.out.2.1⟩, HOK.out.2.2, HSTP.out.1⟩)
              clear b9 c0 c1
              go_wp2_with fail
              go_roundw
              case rel =>
                try rw [HJ.out]
                exact ⟨T + 1, by have := HT.out; omega, by have := HT.out; omega, rfl, by rw [Int.add_sub_cancel]; exact HE⟩
              case measure =>
                try rw [HJ.out]
                show (to_ + 1 - (T + 1)).toNat < (to_ + 1 - T).toNat
                have := HT.out
                omega
            · have hlt9 : T < after := by omega
              have HE := Lib.hid (show TalkAt w0 (w5.alloc (.cells #[.slice A5 an5 c5, .slice B5 sn5 d5] 32)) ga gb w.heap.size ja jb Inv T from ⟨_, _, _, _, HTF.out, ⟨HOK.out.1, HOK.out.2.1⟩, HOK.out.2.2, HSTP.out.1⟩)
              clear hge c0 c1
              go_wp2_with fail
              go_roundw
              case rel =>
                try rw [HJ.out]
                exact ⟨T + 1, by have := HT.out; omega, by have := HT.out; omega, rfl, by rw [Int.add_sub_cancel]; exact HE⟩
              case measure =>
                try rw [HJ.out]
                show (to_ + 1 - (T + 1)).toNat < (to_ + 1 - T).toNat
                have := HT.out
                omega
          | true =>
            obtain ⟨ya6, hya6⟩ := htk6.a
            have hFa6 : ∀ k, Fa1 k → k < (w2.alloc (.cells #[.slice A2 an c2, .slice B2 sn d2] 32)).heap.size := HLA.out
            have HHA := Lib.hid (phear_any hya6 (HOKA.out.1) HT.out.2.2 htk6.bel.size A5 B5 c5 d5 m5 (by omega) (by omega) (fun V tV => ints_keep ho5 hFa6 ((below_touch hxb5 Fa1).trans tV)) (fun V tV => words_keep hw5 hFa6 ((below_touch hxb5 Fa1).trans tV)))
            rw [hear_isM hm5g hbw, han5, hsn5] at HHA
            have HTK6 := Lib.hid htk6
            have HOK := Lib.hid (show PyOk T (talkA (jitD ja) (jitD jb) pa1 pb T) ∧ PyOk T (talkB (jitD ja) (jitD jb) pa1 pb T) ∧ (TidyOk (talkA (jitD ja) (jitD jb) pa1 pb T) ∧ TidyOk (talkB (jitD ja) (jitD jb) pa1 pb T)) from ⟨(HOKA.out.1).hears' HT0.out (by rw [HPB2.out, hm5]; exact hm5g), by show PyOk T (tickP (jitD jb) (hears pb (saidP (jitD ja) pa1 T) T) T); rw [HPB2.out]; exact hokb5, (HOKA.out.2).hears' _ _, TidyOk.tidy _⟩)
            have HM5 := Lib.hid hm5
            clear hya6 hFa6 htk6 ho5 hw5 hm5g hfw5 hokb5 hm5 han5 hsn5 hbw hokb2 hxb5
            go_wp2_with fail
            refine HHA.out.mono ?_
            rintro e w7 ⟨⟨z7, rfl⟩, hpa7, t7⟩
            have htkF : Talk w0 w7 ga gb w.heap.size (talkA (jitD ja) (jitD jb) pa1 pb T) (talkB (jitD ja) (jitD jb) pa1 pb T) ja jb (grow Fa1 (w5.alloc (.cells #[.slice A5 an5 c5, .slice B5 sn5 d5] 32)) w7) Fb2 := by
              have e1 : talkA (jitD ja) (jitD jb) pa1 pb T = hears (tickP (jitD ja) pa1 T) m5 T := by
                show hears (tickP (jitD ja) pa1 T) (saidP (jitD jb) (hears pb (saidP (jitD ja) pa1 T) T) T) T = _
                rw [HPB2.out, HM5.out]
              have e2 : talkB (jitD ja) (jitD jb) pa1 pb T = tickP (jitD jb) pb2 T := by
                show tickP (jitD jb) (hears pb (saidP (jitD ja) pa1 T) T) T = _
                rw [HPB2.out]
              rw [e1, e2]
              exact HTK6.out.actA hpa7 t7
            clear hpa7 t7
            have HTF := Lib.hid htkF
            have c0 : w7.cell? ⟨w.heap.size, 0, none⟩ = some (.int .i64 1) := HTF.out.box.cell 0
            have c1 : w7.cell? ⟨w.heap.size, 1, none⟩ = some (.int .i64 9) := HTF.out.box.cell 1
            clear htkF
            by_cases hge : after ≤ T
            · have hhas : hasP (talkB (jitD ja) (jitD jb) pa1 pb T) 1 9 = true := HSTP.out.2 hge
              obtain ⟨yB, hyB⟩ := HTF.out.b
              have HHAS := Lib.hid (phas_any hyB HOK.out.2.1 1 9)
              rw [hhas] at HHAS
              clear hhas hyB
              go_wp2_with fail
              refine HHAS.out.mono ?_
              rintro e w9 ⟨rfl, b9⟩
              have HE := Lib.hid (show TalkAt w0 w9 ga gb w.heap.size ja jb Inv T from ⟨_, _, _, _, HTF.out.below b9, ⟨HOK.out.1, HOK.out.2.1⟩, HOK.out.2.2, HSTP.out.1⟩)
              clear b9 c0 c1
              go_wp2_with fail
              go_roundw
              case rel =>
                try rw [HJ.out]
                exact ⟨T + 1, by have := HT.out; omega, by have := HT.out; omega, rfl, by rw [Int.add_sub_cancel]; exact HE⟩
              case measure =>
                try rw [HJ.out]
                show (to_ + 1 - (T + 1)).toNat < (to_ + 1 - T).toNat
                have := HT.out
                omega
            · have hlt9 : T < after := by omega
              have HE := Lib.hid (show TalkAt w0 w7 ga gb w.heap.size ja jb Inv T from ⟨_, _, _, _, HTF.out, ⟨HOK.out.1, HOK.out.2.1⟩, HOK.out.2.2, HSTP.out.1⟩)
              clear hge c0 c1
              go_wp2_with fail
              go_roundw
              case rel =>
                try rw [HJ.out]
                exact ⟨T + 1, by have := HT.out; omega, by have := HT.out; omega, rfl, by rw [Int.add_sub_cancel]; exact HE⟩
              case measure =>
                try rw [HJ.out]
                show (to_ + 1 - (T + 1)).toNat < (to_ + 1 - T).toNat
                have := HT.out
                omega
        | true =>
          obtain ⟨yb, hyb⟩ := htk3.b
          have hFb : ∀ k, Fb k → k < w1.heap.size := HLB.out
          have HHB := Lib.hid (phear_any hyb hokb HT.out.2.2 htk3.bel.size A2 B2 c2 d2 m (by omega) (by omega) (fun V tV => ints_keep ho2 hFb ((below_touch hxb Fb).trans tV)) (fun V tV => words_keep hw2 hFb ((below_touch hxb Fb).trans tV)))
          rw [hear_isM hmg hbi, han, hsn] at HHB
          obtain ⟨pb2, hpb2⟩ : ∃ pb2, hears pb m T = pb2 := ⟨_, rfl⟩
          have HPB2 := Lib.hid (show hears pb (saidP (jitD ja) pa1 T) T = pb2 by rw [hm]; exact hpb2)
          have hokb2 : PyOk T pb2 := by rw [← hpb2]; exact hokb.hears' HT0.out hmg
          have HSTP := Lib.hid hstp
          rw [hpb2] at HHB
          have HTK3 := Lib.hid htk3
          clear hyb hFb htk3 ho2 hw2 hmg hfw hm han hsn hbi hpb2 hstp hokb hxb
          go_wp2_with fail
          refine HHB.out.mono ?_
          rintro e w4 ⟨⟨z4, rfl⟩, hpb4, t4⟩
          have htk4 := HTK3.out.actB hpb4 t4
          obtain ⟨Fb2, hFb2⟩ : ∃ F, grow Fb (w2.alloc (.cells #[.slice A2 an c2, .slice B2 sn d2] 32)) w4 = F := ⟨_, rfl⟩
          rw [hFb2] at htk4
          clear hpb4 t4 hFb2
          obtain ⟨yb5, hyb5⟩ := htk4.b
          have HTB := Lib.hid (tick_any hyb5 hokb2 HT.out.2.2)
          have HLA := Lib.hid (fun k hk => (htk4.a.lt k hk).2)
          have HTK4 := Lib.hid htk4
          clear htk4 hyb5
          go_wp2_with fail
          refine HTB.out.mono ?_
          rintro e w5 ⟨A5, c5, B5, d5, rfl, ho5, hw5, hpb5, t5⟩
          have htk5 := HTK4.out.tickB hpb5 t5
          have hm5g := said_good hokb2 HT0.out (jitD jb)
          have hfw5 := said_few (jitD jb) hokb2 HT0.out
          have hokb5 := hokb2.tick HT0.out (jitD jb)
          obtain ⟨m5, hm5⟩ : ∃ m5, saidP (jitD jb) pb2 T = m5 := ⟨_, rfl⟩
          rw [hm5] at ho5 hw5 hm5g hfw5 ⊢
          rw [say_isM]
          obtain ⟨an5, han5⟩ : ∃ an5, m5.all.length = an5 := ⟨_, rfl⟩
          obtain ⟨sn5, hsn5⟩ : ∃ sn5, m5.ws.length = sn5 := ⟨_, rfl⟩
          rw [han5, hsn5]
          have hxb5 := bel_alloc w5 (.cells #[.slice A5 an5 c5, .slice B5 sn5 d5] 32)
          have htk6 := htk5.below hxb5
          clear htk5 hpb5 t5
          cases hbw : isM m5 with
          | false =>
            have HOK := Lib.hid (show PyOk T (talkA (jitD ja) (jitD jb) pa1 pb T) ∧ PyOk T (talkB (jitD ja) (jitD jb) pa1 pb T) ∧ (TidyOk (talkA (jitD ja) (jitD jb) pa1 pb T) ∧ TidyOk (talkB (jitD ja) (jitD jb) pa1 pb T)) from ⟨(HOKA.out.1).hears' HT0.out (by rw [HPB2.out, hm5]; exact hm5g), by show PyOk T (tickP (jitD jb) (hears pb (saidP (jitD ja) pa1 T) T) T); rw [HPB2.out]; exact hokb5, (HOKA.out.2).hears' _ _, TidyOk.tidy _⟩)
            have htkF : Talk w0 (w5.alloc (.cells #[.slice A5 an5 c5, .slice B5 sn5 d5] 32)) ga gb w.heap.size (talkA (jitD ja) (jitD jb) pa1 pb T) (talkB (jitD ja) (jitD jb) pa1 pb T) ja jb Fa1 Fb2 := by
              have e1 : talkA (jitD ja) (jitD jb) pa1 pb T = tickP (jitD ja) pa1 T := by
                show hears (tickP (jitD ja) pa1 T) (saidP (jitD jb) (hears pb (saidP (jitD ja) pa1 T) T) T) T = _
                rw [HPB2.out, hm5]
                unfold hears
                rw [hbw]
                rfl
              have e2 : talkB (jitD ja) (jitD jb) pa1 pb T = tickP (jitD jb) pb2 T := by
                show tickP (jitD jb) (hears pb (saidP (jitD ja) pa1 T) T) T = _
                rw [HPB2.out]
              rw [e1, e2]
              exact htk6
            clear htk6 ho5 hw5 hm5g hfw5 hokb5 hm5 han5 hsn5 hbw hokb2 hxb5
            have HTF := Lib.hid htkF
            have c0 : (w5.alloc (.cells #[.slice A5 an5 c5, .slice B5 sn5 d5] 32)).cell? ⟨w.heap.size, 0, none⟩ = some (.int .i64 1) := HTF.out.box.cell 0
            have c1 : (w5.alloc (.cells #[.slice A5 an5 c5, .slice B5 sn5 d5] 32)).cell? ⟨w.heap.size, 1, none⟩ = some (.int .i64 9) := HTF.out.box.cell 1
            clear htkF
            by_cases hge : after ≤ T
            · have hhas : hasP (talkB (jitD ja) (jitD jb) pa1 pb T) 1 9 = true := HSTP.out.2 hge
              obtain ⟨yB, hyB⟩ := HTF.out.b
              have HHAS := Lib.hid (phas_any hyB HOK.out.2.1 1 9)
              rw [hhas] at HHAS
              clear hhas hyB
              go_wp2_with fail
              refine HHAS.out.mono ?_
              rintro e w9 ⟨rfl, b9⟩
              have HE := Lib.hid (show TalkAt w0 w9 ga gb w.heap.size ja jb Inv T from ⟨_, _, _, _, HTF.out.below b9, ⟨HOK.out.1, HOK.out.2.1⟩, HOK.out.2.2, HSTP.out.1⟩)
              clear b9 c0 c1
              go_wp2_with fail
              go_roundw
              case rel =>
                try rw [HJ.out]
                exact ⟨T + 1, by have := HT.out; omega, by have := HT.out; omega, rfl, by rw [Int.add_sub_cancel]; exact HE⟩
              case measure =>
                try rw [HJ.out]
                show (to_ + 1 - (T + 1)).toNat < (to_ + 1 - T).toNat
                have := HT.out
                omega
            · have hlt9 : T < after := by omega
              have HE := Lib.hid (show TalkAt w0 (w5.alloc (.cells #[.slice A5 an5 c5, .slice B5 sn5 d5] 32)) ga gb w.heap.size ja jb Inv T from ⟨_, _, _, _, HTF.out, ⟨HOK.out.1, HOK.out.2.1⟩, HOK.out.2.2, HSTP.out.1⟩)
              clear hge c0 c1
              go_wp2_with fail
              go_roundw
              case rel =>
                try rw [HJ.out]
                exact ⟨T + 1, by have := HT.out; omega, by have := HT.out; omega, rfl, by rw [Int.add_sub_cancel]; exact HE⟩
              case measure =>
                try rw [HJ.out]
                show (to_ + 1 - (T + 1)).toNat < (to_ + 1 - T).toNat
                have := HT.out
                omega
          | true =>
            obtain ⟨ya6, hya6⟩ := htk6.a
            have hFa6 : ∀ k, Fa1 k → k < w4.heap.size := HLA.out
            have HHA := Lib.hid (phear_any hya6 (HOKA.out.1) HT.out.2.2 htk6.bel.size A5 B5 c5 d5 m5 (by omega) (by omega) (fun V tV => ints_keep ho5 hFa6 ((below_touch hxb5 Fa1).trans tV)) (fun V tV => words_keep hw5 hFa6 ((below_touch hxb5 Fa1).trans tV)))
            rw [hear_isM hm5g hbw, han5, hsn5] at HHA
            have HTK6 := Lib.hid htk6
            have HOK := Lib.hid (show PyOk T (talkA (jitD ja) (jitD jb) pa1 pb T) ∧ PyOk T (talkB (jitD ja) (jitD jb) pa1 pb T) ∧ (TidyOk (talkA (jitD ja) (jitD jb) pa1 pb T) ∧ TidyOk (talkB (jitD ja) (jitD jb) pa1 pb T)) from ⟨(HOKA.out.1).hears' HT0.out (by rw [HPB2.out, hm5]; exact hm5g), by show PyOk T (tickP (jitD jb) (hears pb (saidP (jitD ja) pa1 T) T) T); rw [HPB2.out]; exact hokb5, (HOKA.out.2).hears' _ _, TidyOk.tidy _⟩)
            have HM5 := Lib.hid hm5
            clear hya6 hFa6 htk6 ho5 hw5 hm5g hfw5 hokb5 hm5 han5 hsn5 hbw hokb2 hxb5
            go_wp2_with fail
            refine HHA.out.mono ?_
            rintro e w7 ⟨⟨z7, rfl⟩, hpa7, t7⟩
            have htkF : Talk w0 w7 ga gb w.heap.size (talkA (jitD ja) (jitD jb) pa1 pb T) (talkB (jitD ja) (jitD jb) pa1 pb T) ja jb (grow Fa1 (w5.alloc (.cells #[.slice A5 an5 c5, .slice B5 sn5 d5] 32)) w7) Fb2 := by
              have e1 : talkA (jitD ja) (jitD jb) pa1 pb T = hears (tickP (jitD ja) pa1 T) m5 T := by
                show hears (tickP (jitD ja) pa1 T) (saidP (jitD jb) (hears pb (saidP (jitD ja) pa1 T) T) T) T = _
                rw [HPB2.out, HM5.out]
              have e2 : talkB (jitD ja) (jitD jb) pa1 pb T = tickP (jitD jb) pb2 T := by
                show tickP (jitD jb) (hears pb (saidP (jitD ja) pa1 T) T) T = _
                rw [HPB2.out]
              rw [e1, e2]
              exact HTK6.out.actA hpa7 t7
            clear hpa7 t7
            have HTF := Lib.hid htkF
            have c0 : w7.cell? ⟨w.heap.size, 0, none⟩ = some (.int .i64 1) := HTF.out.box.cell 0
            have c1 : w7.cell? ⟨w.heap.size, 1, none⟩ = some (.int .i64 9) := HTF.out.box.cell 1
            clear htkF
            by_cases hge : after ≤ T
            · have hhas : hasP (talkB (jitD ja) (jitD jb) pa1 pb T) 1 9 = true := HSTP.out.2 hge
              obtain ⟨yB, hyB⟩ := HTF.out.b
              have HHAS := Lib.hid (phas_any hyB HOK.out.2.1 1 9)
              rw [hhas] at HHAS
              clear hhas hyB
              go_wp2_with fail
              refine HHAS.out.mono ?_
              rintro e w9 ⟨rfl, b9⟩
              have HE := Lib.hid (show TalkAt w0 w9 ga gb w.heap.size ja jb Inv T from ⟨_, _, _, _, HTF.out.below b9, ⟨HOK.out.1, HOK.out.2.1⟩, HOK.out.2.2, HSTP.out.1⟩)
              clear b9 c0 c1
              go_wp2_with fail
              go_roundw
              case rel =>
                try rw [HJ.out]
                exact ⟨T + 1, by have := HT.out; omega, by have := HT.out; omega, rfl, by rw [Int.add_sub_cancel]; exact HE⟩
              case measure =>
                try rw [HJ.out]
                show (to_ + 1 - (T + 1)).toNat < (to_ + 1 - T).toNat
                have := HT.out
                omega
            · have hlt9 : T < after := by omega
              have HE := Lib.hid (show TalkAt w0 w7 ga gb w.heap.size ja jb Inv T from ⟨_, _, _, _, HTF.out, ⟨HOK.out.1, HOK.out.2.1⟩, HOK.out.2.2, HSTP.out.1⟩)
              clear hge c0 c1
              go_wp2_with fail
              go_roundw
              case rel =>
                try rw [HJ.out]
                exact ⟨T + 1, by have := HT.out; omega, by have := HT.out; omega, rfl, by rw [Int.add_sub_cancel]; exact HE⟩
              case measure =>
                try rw [HJ.out]
                show (to_ + 1 - (T + 1)).toNat < (to_ + 1 - T).toNat
                have := HT.out
                omega
    · have hTe : T = to_ + 1 := by omega
      have HE := Lib.hid (show TalkAt w0 wr ga gb w.heap.size ja jb Inv to_ by have := hS.out; rw [hTe, Int.add_sub_cancel] at this; exact this)
      have hlt2 : to_ < T := by omega
      clear hT1 hT2 hS hlt hTe
      go_wp2_with fail
      go_ret
      obtain ⟨pa, pb, Fa, Fb, htk, hok, htd, hI⟩ := HE.out
      exact ⟨rfl, pa, pb, Fa, Fb, htk.a, htk.b, htk.dj, htk.bel, hok, htd, hI⟩
end Go.Proofs.Ythghedlgeceepaa
