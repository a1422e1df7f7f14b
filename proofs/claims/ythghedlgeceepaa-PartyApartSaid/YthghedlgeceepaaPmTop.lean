/- A port's part is made; a message is heard; the attributes that there are. Their conditions: slots that can be, at most 16; ticks far from an int's ends; at most 2^20 draws. -/
import Derived.Test.YthghedlgeceepaaPmTk
import Derived.Laws.MakeOwn
namespace Go.Proofs.Ythghedlgeceepaa
open Go.RowKit
set_option maxRecDepth 100000

set_option maxHeartbeats 4000000 in
theorem draw_of (A : Option Addr) (c : Nat) (l : List Int) (w : World) (h : l = [] ∨ ∃ b off, A = some ⟨b, off, none⟩ ∧ ∀ j, j < l.length → w.cell? ⟨b, off + j, none⟩ = some (.int .i64 (l.getD j 0))) (hn : l.length ≤ 1048576) :
    Calls Try.prog 22 #[.slice A l.length c] w fun e w' => ∃ g A' c', e = .returned (.pointer (some ⟨g, 0, none⟩)) ∧ w.heap.size ≤ g ∧ DrawOf w' g A' c' l 0 ∧ Below w.heap.size w w' ∧ ∀ b, (Value.slice A' 0 0).ownBlock = some b → w.heap.size ≤ b ∧ b < w'.heap.size := by
  have HC : Hid (Calls Try.prog 47 #[.slice A l.length c] w fun e w' => ∃ A' c', e = .returned (.slice A' l.length c') ∧ OwnN w' w.heap.size A' c' l ∧ Below w.heap.size w w') := by
    apply Lib.hid
    rcases h with rfl | ⟨b, off, rfl, hc⟩
    · exact clone_zero A c w
    · exact clone_nums b off c l w hc hn
  have HN := Lib.hid hn
  clear h hn
  go_enter Try.func22, Try.ntmps22
  go_wp2_with fail
  refine HC.out.mono ?_
  rintro e w1 ⟨A1, c1, rfl, ho1, hb1⟩
  have hfin : DrawOf (w1.alloc (.cells #[.slice A1 l.length c1, .int .i64 0] 89)) w1.heap.size A1 c1 l 0 ∧ Below w.heap.size w (w1.alloc (.cells #[.slice A1 l.length c1, .int .i64 0] 89)) ∧ w.heap.size ≤ w1.heap.size ∧ ∀ b, (Value.slice A1 0 0).ownBlock = some b → w.heap.size ≤ b ∧ b < (w1.alloc (.cells #[.slice A1 l.length c1, .int .i64 0] 89)).heap.size := by
    refine ⟨⟨Blk.new _ _ _, ?_, ?_, HN.out⟩, hb1.alloc hb1.size _, hb1.size, fun b hb => ?_⟩
    · exact own_zero (World.ownsRow.alloc ho1 _)
    · cases l with
      | nil => exact .inr ⟨rfl, rfl⟩
      | cons => exact .inl (by simp)
    · have h2 := World.ownsRow.lt ho1 b (by rw [← hb]; exact block_any _ _ _ _ _)
      exact ⟨h2.1, by have := h2.2; simp; omega⟩
  have HFI := Lib.hid hfin
  clear hfin ho1 hb1
  go_wp2_with fail
  go_ret
  exact ⟨w1.heap.size, A1, c1, rfl, HFI.out.2.2.1, HFI.out.1, HFI.out.2.1, HFI.out.2.2.2⟩
set_option maxHeartbeats 4000000 in
theorem pnew_any (A : Option Addr) (c : Nat) (l : List Int) (w : World) (h : l = [] ∨ ∃ b off, A = some ⟨b, off, none⟩ ∧ ∀ j, j < l.length → w.cell? ⟨b, off + j, none⟩ = some (.int .i64 (l.getD j 0))) (hn : l.length ≤ 1048576) :
    Calls Try.prog 8 #[.slice A l.length c] w fun e w' => ∃ g F, e = .returned (.pointer (some ⟨g, 0, none⟩)) ∧ PyF w' w.heap.size g (newP (jitD l)) l F ∧ Below w.heap.size w w' := by
  have HD := Lib.hid (draw_of A c l w h hn)
  clear h hn
  go_enter Try.func8, Try.ntmps8
  go_wp2_with fail
  refine HD.out.mono ?_
  rintro e w1 ⟨gd, Ad, cd, rfl, hgd, hd1, hb1, hdr⟩
  have hb2 := bel_alloc w1 (.cells #[.slice none 0 0, .pointer (some ⟨gd, 0, none⟩), .int .i64 0, .bool false, .int .i64 0] 61)
  have hp2 := Blk.new w1 61 #[.slice none 0 0, .pointer (some ⟨gd, 0, none⟩), .int .i64 0, .bool false, .int .i64 0]
  have hd2 : DrawOf (w1.alloc (.cells #[.slice none 0 0, .pointer (some ⟨gd, 0, none⟩), .int .i64 0, .bool false, .int .i64 0] 61)) gd Ad cd l (placeD l 0) := hd1.keep (below_touch hb2 fun _ => False) id (fun _ _ => id)
  have HJI := Lib.hid (jit_of gd Ad cd l 0 _ hd2)
  have H1 := Lib.hid (And.intro hgd (And.intro hd1.blk.lt (And.intro (hb1.trans (hb2.mono hb1.size)) (And.intro hdr (And.intro hp2 (And.intro hb1.size (show w1.heap.size ≠ gd from fun e => by have := hd1.blk.lt; omega)))))))
  clear hgd hd1 hb1 hdr hb2 hp2 hd2
  go_wp2_with fail
  refine HJI.out.mono ?_
  rintro e w3 ⟨rfl, hd3, t3⟩
  have hp3 := H1.out.2.2.2.2.1.touch t3 (fun e => H1.out.2.2.2.2.2.2 e)
  have f2 := hp3.frozen 2
  have c2 := hp3.cell 2
  obtain ⟨jv, hjv⟩ : ∃ jv, jitD l 0 = jv := ⟨_, rfl⟩
  rw [hjv]
  have hp4 := Blk.set_ hp3 2 (.int .i64 jv)
  have tg : Touch (fun k => k = w1.heap.size) w3 (w3.setCell ⟨w1.heap.size, 2, none⟩ (.int .i64 jv)) := (Touch.refl (fun k => k = w1.heap.size) w3).set_ (a := ⟨w1.heap.size, 2, none⟩) (fun _ => rfl) _
  have hd4 := hd3.keep tg (fun e => H1.out.2.2.2.2.2.2 e.symm) (fun b hb e => by
    subst e
    exact own_ne hd3.own hp3 (by decide) (by rw [← hb]; exact block_any _ _ _ _ _))
  have hs3 := t3.size
  have hs4 := tg.size
  have hs2 : (w1.alloc (.cells #[.slice none 0 0, .pointer (some ⟨gd, 0, none⟩), .int .i64 0, .bool false, .int .i64 0] 61)).heap.size = w1.heap.size + 1 := by simp
  have HE := Lib.hid (show PyAt (w3.setCell ⟨w1.heap.size, 2, none⟩ (.int .i64 jv)) w.heap.size w1.heap.size (newP (jitD l)) l (fun k => w.heap.size ≤ k ∧ k < (w3.setCell ⟨w1.heap.size, 2, none⟩ (.int .i64 jv)).heap.size) ⟨[], none, 0, gd, Ad, cd⟩ ∧ Below w.heap.size w (w3.setCell ⟨w1.heap.size, 2, none⟩ (.int .i64 jv)) from by
    have hH := H1.out
    refine ⟨⟨?_, World.ownsRow_nil _ _ _ _, rfl, ⟨fun _ hx => absurd hx List.not_mem_nil, List.Pairwise.nil⟩, hd4, ⟨hH.2.2.2.2.2.1, by omega⟩, (fun b hb => by cases hb), ⟨hH.1, by show gd < _; have := hH.2.1; omega⟩, fun b hb => ?_, fun k hk => ?_, fun k hk => hk⟩, ?_⟩
    · have : wrap64 ((newP (jitD l)).fails : Int) = 0 := (IntWalk.wrap64_in ((0 : Nat) : Int) (by decide)).trans rfl
      rw [this, show (newP (jitD l)).due = jv from hjv]
      exact hp4
    · have := hH.2.2.2.1 b hb
      exact ⟨this.1, by have h2 := this.2; omega⟩
    · obtain ⟨x, hx, _⟩ := hk
      exact absurd hx List.not_mem_nil
    · exact hH.2.2.1.trans ((t3.below (by omega) (fun k e => by have := hH.1; omega)).trans (tg.below (by omega) (fun k e => by have := hH.2.2.2.2.2.1; omega))))
  clear hd3 t3 hp3 hjv hp4 tg hd4 hs3 hs4 hs2
  go_wp2_with fail
  go_ret
  exact ⟨w1.heap.size, _, rfl, ⟨_, HE.out.1⟩, HE.out.2⟩
theorem attr_info : (Try.prog.info? 29).map (fun i => (i.zero, i.size, i.bytes)) = some (some (.agg #[.int .i64 0, .int .i64 0]), 2, 16) := by kernel_rfl
section
variable {w : World} {B g : Nat} {p : Py} {jl : List Int} {F : Nat → Prop} {y : Lay}
set_option maxHeartbeats 4000000 in
theorem attrs_any (h : PyAt w B g p jl F y) (hn : p.l.length ≤ 16) : Calls Try.prog 15 #[.pointer (some ⟨g, 0, none⟩)] w fun e w' => ∃ A c, e = .returned (.slice A p.l.length c) ∧ Below w.heap.size w w' := by
  have hlen := h.len
  obtain ⟨n, hnn⟩ : ∃ n, y.q.length = n := ⟨_, rfl⟩
  have c0 := h.c0
  obtain ⟨YA, hYA⟩ : ∃ a, y.A = a := ⟨_, rfl⟩
  rw [hnn, hYA] at c0
  have HYA := Lib.hid hYA
  have HN := Lib.hid (And.intro hnn (show n ≤ 16 by omega))
  have HAT := Lib.hid h
  have n0 : (0 : Int) ≤ n := by omega
  rw [show p.l.length = n by omega]
  have hn16 : n ≤ 16 := by omega
  obtain ⟨i0, hi0, hz0, hz1, hz2⟩ := info_parts attr_info
  have hmk0 := run_makeSlice (P := Try.prog) w 44 29 i0 _ Try.underlying44 hi0 hz0 .i64 .i64 n n (by omega) (Int.le_refl _) (by rw [hz1]; simp; omega) (by rw [hz2]; omega) (by omega)
  rw [hz1] at hmk0
  simp only [Int.toNat_natCast] at hmk0
  obtain ⟨zb, hzb⟩ : ∃ zb, madeCells (Value.agg #[.int .i64 0, .int .i64 0]).cells (n * 2) = zb := ⟨_, rfl⟩
  have hzs : zb.size = n * 2 := by rw [← hzb]; exact size_madeCells _ _
  rw [hzb] at hmk0
  have hmk : Sem.run Try.prog (Instr.makeSlice 44 (.int .i64 n) (.int .i64 n)) w = .ok (.slice (some ⟨w.heap.size, 0, none⟩) n n) (w.alloc (.cells zb 29)) := hmk0
  have hb1 := bel_alloc w (.cells zb 29)
  have HST := Lib.hid (show (∃ cs, Blk (w.alloc (.cells zb 29)) w.heap.size 29 cs ∧ cs.size = n * 2) ∧ Below w.heap.size w (w.alloc (.cells zb 29)) from ⟨⟨zb, Blk.new _ _ _, hzs⟩, hb1⟩)
  have c1 : (w.alloc (.cells zb 29)).cell? ⟨g, 0, none⟩ = some (.slice YA n y.c) := by
    have := (h.below hb1).c0
    rw [hnn, hYA] at this
    exact this
  clear hmk0 hzb hzs h hlen hnn hYA hn hn16 hi0 hz0 hz1 hz2 hb1
  go_enter Try.func15, Try.ntmps15
  go_wp2_with fail
  clear hmk c0 c1
  go_loopw [19] (fun iv wr => ∃ j : Nat, j ≤ n ∧ iv = .int .i64 j ∧ Hid ((∃ cs, Blk wr w.heap.size 29 cs ∧ cs.size = n * 2) ∧ Below w.heap.size w wr)) (fun iv _ => n - (intOf iv).toNat)
  case atStart => exact ⟨0, Nat.zero_le _, rfl, HST⟩
  case round =>
    obtain ⟨j, hj, rfl, hS⟩ := hrel
    by_cases hlt : j < n
    · have j1 : (j : Int) < n := by omega
      have j0 : (0 : Int) ≤ j := by omega
      have HJ := Lib.hid (show wrap64 ((j : Int) + 1) = (j : Int) + 1 from IntWalk.wrap64_in _ (by have := HN.out.2; omega))
      have hjq : j < y.q.length := by rw [HN.out.1]; exact hlt
      obtain ⟨b, off, hAA, hbl, kc0⟩ := HAT.out.row.at_ j hjq
      have kc := kc0.below hbl hS.out.2
      obtain ⟨x, hx⟩ : ∃ x, y.q.getD j qs0 = x := ⟨_, rfl⟩
      rw [hx] at kc
      have q0 := kc.c0
      have q1 := kc.c1
      have q2 := kc.c2
      have q3 := kc.c3
      obtain ⟨⟨cs, hcs, hsz⟩, hbw⟩ := hS.out
      have hbx := bel_alloc wr (.cells #[.int .i64 x.s.t, .int .i64 x.s.v, .pointer (some ⟨x.r, 0, none⟩), .pointer (some ⟨x.a, 0, none⟩)] 67)
      have hcx := hcs.below hbx hcs.lt
      have f0 := hcx.frozen (j * 2)
      have f1 := hcx.frozen (j * 2 + 1)
      have v0 : (wr.alloc (.cells #[.int .i64 x.s.t, .int .i64 x.s.v, .pointer (some ⟨x.r, 0, none⟩), .pointer (some ⟨x.a, 0, none⟩)] 67)).cell? ⟨w.heap.size, j * 2, none⟩ = some cs[j * 2] := (hcx.cell _).trans (Array.getElem?_eq_getElem (by omega))
      have v1 : (wr.alloc (.cells #[.int .i64 x.s.t, .int .i64 x.s.v, .pointer (some ⟨x.r, 0, none⟩), .pointer (some ⟨x.a, 0, none⟩)] 67)).cell? ⟨w.heap.size, j * 2 + 1, none⟩ = some cs[j * 2 + 1] := (hcx.cell _).trans (Array.getElem?_eq_getElem (by omega))
      obtain ⟨u0, hu0⟩ : ∃ u0, cs[j * 2] = u0 := ⟨_, rfl⟩
      obtain ⟨u1, hu1⟩ : ∃ u1, cs[j * 2 + 1] = u1 := ⟨_, rfl⟩
      rw [hu0] at v0
      rw [hu1] at v1
      have HE := Lib.hid (show (∃ cs, Blk (((wr.alloc (.cells #[.int .i64 x.s.t, .int .i64 x.s.v, .pointer (some ⟨x.r, 0, none⟩), .pointer (some ⟨x.a, 0, none⟩)] 67)).setCell ⟨w.heap.size, j * 2, none⟩ (.int .i64 x.s.t)).setCell ⟨w.heap.size, j * 2 + 1, none⟩ (.int .i64 x.s.v)) w.heap.size 29 cs ∧ cs.size = n * 2) ∧ Below w.heap.size w (((wr.alloc (.cells #[.int .i64 x.s.t, .int .i64 x.s.v, .pointer (some ⟨x.r, 0, none⟩), .pointer (some ⟨x.a, 0, none⟩)] 67)).setCell ⟨w.heap.size, j * 2, none⟩ (.int .i64 x.s.t)).setCell ⟨w.heap.size, j * 2 + 1, none⟩ (.int .i64 x.s.v)) from
        ⟨⟨_, Blk.set_ (Blk.set_ hcx (j * 2) (.int .i64 x.s.t)) (j * 2 + 1) (.int .i64 x.s.v), by simpa using hsz⟩, ((hbw.trans (hbx.mono hbw.size)).setCell (p := ⟨w.heap.size, j * 2, none⟩) (Nat.le_refl _) _).setCell (p := ⟨w.heap.size, j * 2 + 1, none⟩) (Nat.le_refl _) _⟩)
      have hya := HYA.out
      rw [hAA] at hya
      subst hya
      clear hAA hx kc kc0 hbl hcs hsz hbw hbx hcx hu0 hu1 hjq
      go_wp2_with fail
      go_roundw
      case rel =>
        rw [HJ.out]
        exact ⟨j + 1, hlt, by rw [Int.natCast_add]; rfl, HE⟩
      case measure =>
        rw [HJ.out]
        show n - ((j : Int) + 1).toNat < n - ((j : Int)).toNat
        omega
    · obtain rfl : j = n := by omega
      clear hj hlt
      go_wp2_with fail
      go_ret
      exact ⟨_, _, rfl, hS.out.2⟩
/-- A message is heard, or refused. -/
def hearQ (p : Py) (m : Msg) (now : Int) : Py := if m.goodB = true then hearP p m now else p
theorem words_room {p : Py} {now : Int} (hok : PyOk now p) (h0 : 0 ≤ now) {ws : List Wd} (hx : ∀ x ∈ ws, attrP x.t x.v) (j : Nat) : PyOk now ((ws.take j).foldl (wordP1 now) p) := hok.words h0 (fun x hx' => hx x (List.mem_of_mem_take hx'))
set_option maxHeartbeats 8000000 in
theorem phear_any (h : PyAt w B g p jl F y) {now : Int} (hok : PyOk now p) (hT : Tk now) (hB : B ≤ w.heap.size) (A A' : Option Addr) (c c' : Nat) (m : Msg) (hl : m.all.length ≤ 1048576) (hw : m.ws.length ≤ 1048576)
    (hA : ∀ wr, Touch F w wr → IntsAt wr wr.heap.size A m.all) (hA' : ∀ wr, Touch F w wr → WordsAt wr wr.heap.size A' m.ws) :
    Calls Try.prog 11 #[.pointer (some ⟨g, 0, none⟩), .agg #[.slice A m.all.length c, .slice A' m.ws.length c'], .int .i64 now] w fun e w' => (∃ z, e = .returned (.int .i64 z)) ∧ PyF w' B g (hearQ p m now) jl (grow F w w') ∧ Touch F w w' := by
  have hb1 := bel_alloc w (.cells #[.slice A m.all.length c, .slice A' m.ws.length c'] 32)
  have hx1 := Blk.new w 32 #[.slice A m.all.length c, .slice A' m.ws.length c']
  have t1 := below_touch hb1 F
  have hg := good_all A A' c c' m.all m.ws _ (w.alloc (.cells #[.slice A m.all.length c, .slice A' m.ws.length c'] 32)) (Nat.le_refl _) hl hw (hA _ t1) (hA' _ t1)
  have hgb : (⟨m.all, m.ws⟩ : Msg).goodB = m.goodB := rfl
  rw [hgb] at hg
  have HGD := Lib.hid hg
  have HS := Lib.hid (And.intro h (And.intro hb1 (And.intro hx1 (And.intro hok (And.intro hT (And.intro hB (And.intro hl hw)))))))
  have HI := Lib.hid (And.intro hA hA')
  unfold hearQ
  cases hmg : m.goodB with
  | false =>
    rw [hmg] at HGD
    rw [if_neg (by decide)]
    clear h hb1 hx1 t1 hg hgb hok hT hB hl hw hA hA' hmg
    go_enter Try.func11, Try.ntmps11
    go_wp2_with fail
    refine HGD.out.mono ?_
    rintro e w1 ⟨rfl, b1⟩
    have HB := Lib.hid (HS.out.2.1.trans (b1.mono HS.out.2.1.size))
    clear b1
    go_wp2_with fail
    go_ret
    exact ⟨⟨_, rfl⟩, ⟨y, (HS.out.1.below HB.out).grown HS.out.1.lt HS.out.2.2.2.2.2.1 HB.out.size⟩, below_touch HB.out F⟩
  | true =>
    rw [hmg] at HGD
    rw [if_pos rfl]
    have HGO := Lib.hid (show m.Good from of_decide_eq_true hmg)
    obtain ⟨an, han⟩ : ∃ an, m.all.length = an := ⟨_, rfl⟩
    obtain ⟨wn, hwn⟩ : ∃ wn, m.ws.length = wn := ⟨_, rfl⟩
    have HAN := Lib.hid (And.intro han hwn)
    have n0 : (0 : Int) ≤ wn := by omega
    rw [han, hwn] at HGD HS
    rw [han, hwn]
    clear h hb1 hx1 t1 hg hgb hok hT hB hl hw hA hA' hmg han hwn
    go_enter Try.func11, Try.ntmps11
    go_wp2_with fail
    refine HGD.out.mono ?_
    rintro e w1 ⟨rfl, b1⟩
    have hb := HS.out.2.1.trans (b1.mono HS.out.2.1.size)
    have hx := HS.out.2.2.1.below b1 HS.out.2.2.1.lt
    have h1 := HS.out.1.below hb
    have hN : ∀ k, F k → k < w.heap.size := fun k hk => (HS.out.1.lt k hk).2
    have ht1 := below_touch hb F
    have x0 := hx.cell 0
    have x1 := hx.cell 1
    have HALL := Lib.hid (all_any h1 HS.out.2.2.2.1 A c m.all (by rw [HAN.out.1]; exact HS.out.2.2.2.2.2.2.1) (fun V tV => HI.out.1 V (ht1.trans tV)))
    rw [HAN.out.1] at HALL
    have H1 := Lib.hid (And.intro hx (And.intro ht1 hN))
    clear b1 hb hx h1 hN ht1
    go_wp2_with fail
    refine HALL.out.mono ?_
    rintro e w2 ⟨rfl, h2, t2⟩
    have hx2 := H1.out.1.touch t2 (fun cc => by have := H1.out.2.2 _ cc; omega)
    have x1' := hx2.cell 1
    have hp0 : withL p (p.l.map (selS m.all now)) = withL p (allsL m.all now p.l) := by rw [alls_sel _ now HGO.out.1.2]
    have hok0 : PyOk now (withL p (allsL m.all now p.l)) := HS.out.2.2.2.1.alls HS.out.2.2.2.2.1.1 m.all
    have tw2 := H1.out.2.1.trans t2
    have HST := Lib.hid (show PyF w2 B g ((m.ws.take 0).foldl (wordP1 now) (withL p (allsL m.all now p.l))) jl (grow F w w2) ∧ Touch F w w2 from ⟨⟨_, (h2.same hp0.symm).grown HS.out.1.lt HS.out.2.2.2.2.2.1 tw2.size⟩, tw2⟩)
    have HOK0 := Lib.hid hok0
    clear h2 t2 hx2 hp0 hok0 tw2 x0 x1
    go_wp2_with fail
    go_loopw [24] (fun iv wr => ∃ j : Nat, j ≤ wn ∧ iv = .int .i64 j ∧ Hid (PyF wr B g ((m.ws.take j).foldl (wordP1 now) (withL p (allsL m.all now p.l))) jl (grow F w wr) ∧ Touch F w wr)) (fun iv _ => wn - (intOf iv).toNat)
    case atStart => exact ⟨0, Nat.zero_le _, rfl, HST⟩
    case round =>
      obtain ⟨j, hj, rfl, hS⟩ := hrel
      by_cases hlt : j < wn
      · have j1 : (j : Int) < wn := by omega
        have j0 : (0 : Int) ≤ j := by omega
        have HJ := Lib.hid (show wrap64 ((j : Int) + 1) = (j : Int) + 1 from IntWalk.wrap64_in _ (by have := HS.out.2.2.2.2.2.2.2; omega))
        have hjw : j < m.ws.length := by rw [HAN.out.2]; exact hlt
        obtain ⟨⟨yj, hpj⟩, tj⟩ := hS.out
        obtain ⟨b, off, eA, hbl, q0, q1, q2, q3⟩ := HI.out.2 wr tj j hjw
        have hxm : m.ws.getD j wd0 = m.ws[j] := by rw [List.getD_eq_getElem?_getD, List.getElem?_eq_getElem hjw]; rfl
        rw [hxm] at q0 q1 q2 q3
        have hatt : ∀ x ∈ m.ws, attrP x.t x.v := fun x hx => (HGO.out.2.1 x hx).1
        have hokj := words_room HOK0.out HS.out.2.2.2.2.1.1 hatt j
        have hax := hatt _ (List.getElem_mem hjw)
        have hfold : (m.ws.take (j + 1)).foldl (wordP1 now) (withL p (allsL m.all now p.l)) = wordP1 now ((m.ws.take j).foldl (wordP1 now) (withL p (allsL m.all now p.l))) m.ws[j] := by
          rw [List.take_succ_eq_append_getElem hjw, List.foldl_append]
          rfl
        obtain ⟨x, hx⟩ : ∃ x, m.ws[j] = x := ⟨_, rfl⟩
        rw [hx] at q0 q1 q2 q3 hax hfold
        obtain ⟨xt, xv, xe, xb⟩ := x
        simp only at q0 q1 q2 q3 hax
        have hbx := bel_alloc wr (.cells #[.int .i64 xt, .int .i64 xv, .int .i64 xe, .int .i64 xb] 52)
        have hB1 : B ≤ (wr.alloc (.cells #[.int .i64 xt, .int .i64 xv, .int .i64 xe, .int .i64 xb] 52)).heap.size := Nat.le_trans HS.out.2.2.2.2.2.1 (Nat.le_trans tj.size hbx.size)
        have HH := Lib.hid (hear_any (hpj.below hbx) hokj HS.out.2.2.2.2.1 hB1 xt xv xe xb hax)
        have HX := Lib.hid (And.intro hbx (And.intro tj (And.intro hfold hlt)))
        subst eA
        clear hj hjw hpj tj hbl hxm hatt hokj hax hfold hx hbx hB1 x1'
        go_wp2_with fail
        refine HH.out.mono ?_
        rintro e w5 ⟨rfl, h5, t5⟩
        have HE := Lib.hid (show PyF w5 B g ((m.ws.take (j + 1)).foldl (wordP1 now) (withL p (allsL m.all now p.l))) jl (grow F w w5) ∧ Touch F w w5 from by
          have s1 := HX.out.1.size
          have s2 := HX.out.2.1.size
          have s5 := t5.size
          refine ⟨?_, ?_⟩
          · rw [HX.out.2.2.1]
            refine h5.wide (fun k hk => ?_) (grow_lt HS.out.1.lt HS.out.2.2.2.2.2.1 (by omega))
            rcases hk with (hk | hk) | hk
            · exact .inl hk
            · exact .inr (by omega)
            · exact .inr (by omega)
          · have tt : Touch F w (wr.alloc (.cells #[.int .i64 xt, .int .i64 xv, .int .i64 xe, .int .i64 xb] 52)) := HX.out.2.1.trans (below_touch HX.out.1 F)
            refine ⟨t5.os.trans tt.os, t5.tape.trans tt.tape, t5.output.trans tt.output, by omega, fun k hk hp => (t5.block k (by omega) (fun cc => ?_)).trans (tt.block k hk hp)⟩
            rcases cc with cc | cc
            · exact hp cc
            · omega)
        clear h5 t5 q0 q1 q2 q3
        go_wp2_with fail
        go_roundw
        case rel =>
          rw [HJ.out]
          exact ⟨j + 1, HX.out.2.2.2, by rw [Int.natCast_add]; rfl, HE⟩
        case measure =>
          rw [HJ.out]
          show wn - ((j : Int) + 1).toNat < wn - ((j : Int)).toNat
          have := HX.out.2.2.2
          omega
      · obtain rfl : j = wn := by omega
        have htk : m.ws.take j = m.ws := List.take_of_length_le (by have := HAN.out.2; omega)
        rw [htk] at hS
        obtain ⟨⟨yj, hpj⟩, tj⟩ := hS.out
        have hokj := words_room HOK0.out HS.out.2.2.2.2.1.1 (fun x hx => (HGO.out.2.1 x hx).1) m.ws.length
        rw [List.take_length] at hokj
        have HSW := Lib.hid (sweep_any hpj hokj.len)
        have HTJ := Lib.hid tj
        clear htk hpj tj hokj hj hlt x1'
        go_wp2_with fail
        refine HSW.out.mono ?_
        rintro e w6 ⟨rfl, h6, t6⟩
        have HE := Lib.hid (show PyF w6 B g (hearP p m now) jl (grow F w w6) ∧ Touch F w w6 from by
          have s2 := HTJ.out.size
          have s5 := t6.size
          refine ⟨?_, ?_⟩
          · refine h6.wide (fun k hk => ?_) (grow_lt HS.out.1.lt HS.out.2.2.2.2.2.1 (by omega))
            rcases hk with hk | hk
            · exact .inl hk
            · exact .inr (by omega)
          · refine ⟨t6.os.trans HTJ.out.os, t6.tape.trans HTJ.out.tape, t6.output.trans HTJ.out.output, by omega, fun k hk hp => (t6.block k (by omega) (fun cc => ?_)).trans (HTJ.out.block k hk hp)⟩
            rcases cc with cc | cc
            · exact hp cc
            · omega)
        clear h6 t6
        go_wp2_with fail
        go_ret
        exact ⟨⟨_, rfl⟩, HE.out⟩
end
end Go.Proofs.Ythghedlgeceepaa
