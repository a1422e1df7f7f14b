/- mrpdu.Read: what bytes say. Its condition: at most 100000 bytes. -/
import Derived.Test.YtoigapanhbmjlaaMrPart
namespace Go.Proofs.Ytoigapanhbmjlaa
open Go.RowKit

theorem presults_triple {fn : Func} {p u v : Tmp} (h : fn.results = #[.cell p 25, .tmp u, .tmp v]) (tmps : Array Value) (w : World) (g : Nat) (t : TypeId) (cs : Array Value)
    (hp : tmps.getD p undef = .pointer (some ⟨g, 0, none⟩)) (hg : Blk w g t cs) (hc : cs.size = 2) :
    (results fn tmps).run Try.prog w = .ok (.tuple #[.agg cs, tmps.getD u undef, tmps.getD v undef]) w := by
  have hl := run_loadVar_row w g t 25 cs (0, 0) _ hg Try.underlying25 rfl (by rw [pdu_info, hc])
  have e : (results fn tmps).run Try.prog w = ((asAddr (tmps.getD p undef)).run Try.prog w).andThen fun a w₁ => ((loadVar 25 a).run Try.prog w₁).andThen fun x w₂ => .ok (.tuple #[x, tmps.getD u undef, tmps.getD v undef]) w₂ := by
    simp only [results, h]
    simp [Sem.run_bind, Result.andThen]
  rw [e, hp]
  show ((loadVar 25 ⟨g, 0, none⟩).run Try.prog w).andThen _ = _
  rw [hl]
  rfl

/-- The state of a message's reading. -/
structure RS (wr : World) (base g Bp Br : Nat) (A A' : Option Addr) (c c' : Nat) (p : Msg) (o : Option (List UInt8)) : Prop where
  pb : Blk wr Bp 25 #[.slice A p.all.length c, .slice A' p.ws.length c']
  rb : Blk wr Br 25 #[.slice none 0 0, .slice none 0 0]
  oi : OwnI wr base A c p.all
  ow : OwnW wr base A' c' p.ws
  rd : RdO wr g o
  ne : Bp ≠ Br
section
variable {wr w1 : World} {base g Bp Br : Nat} {A A' : Option Addr} {c c' : Nat} {p : Msg} {o o1 : Option (List UInt8)}
theorem RS.rn (h : RS wr base g Bp Br A A' c c' p o) : Bp ≠ g ∧ Br ≠ g := by
  obtain ⟨cs, hb⟩ := rd_blk h.rd
  refine ⟨fun e => ?_, fun e => ?_⟩
  · have := h.pb
    unfold Blk at this hb
    rw [e, hb] at this
    injection this with this
    injection this with _ this
    exact absurd this (by decide)
  · have := h.rb
    unfold Blk at this hb
    rw [e, hb] at this
    injection this with this
    injection this with _ this
    exact absurd this (by decide)
theorem RS.read (h : RS wr base g Bp Br A A' c c' p o) (ht : Touch (· = g) wr w1) (hr : RdO w1 g o1) : RS w1 base g Bp Br A A' c c' p o1 := by
  obtain ⟨cs, hb⟩ := rd_blk h.rd
  exact ⟨h.pb.touch ht h.rn.1, h.rb.touch ht h.rn.2, ownsRow_touch h.oi ht (fun k hk e => own_ne h.oi hb (by decide) (by rw [hk, e])), ownsRow_touch h.ow ht (fun k hk e => own_ne h.ow hb (by decide) (by rw [hk, e])), hr, h.ne⟩
theorem RS.on (h : RS wr base g Bp Br A A' c c' p o) (hb : Below wr.heap.size wr w1) : RS w1 base g Bp Br A A' c c' p o :=
  ⟨h.pb.below hb h.pb.lt, h.rb.below hb h.rb.lt, own_below h.oi hb, own_below h.ow hb, h.rd.below hb h.rd.lt, h.ne⟩
/-- What readPart may turn. -/
def Foot (g : Nat) (v v' : Value) (j : Nat) : Prop := j = g ∨ v.ownBlock = some j ∨ v'.ownBlock = some j
theorem RS.boxes (h : RS wr base g Bp Br A A' c c' p o) (ht : Touch (Foot g (.slice A p.all.length c) (.slice A' p.ws.length c')) wr w1) :
    Blk w1 Bp 25 #[.slice A p.all.length c, .slice A' p.ws.length c'] ∧ Blk w1 Br 25 #[.slice none 0 0, .slice none 0 0] := by
  refine ⟨h.pb.touch ht ?_, h.rb.touch ht ?_⟩
  · rintro (e | e | e)
    · exact h.rn.1 e
    · exact own_ne h.oi h.pb (by decide) e
    · exact own_ne h.ow h.pb (by decide) e
  · rintro (e | e | e)
    · exact h.rn.2 e
    · exact own_ne h.oi h.rb (by decide) e
    · exact own_ne h.ow h.rb (by decide) e
theorem RS.foot (h : RS wr base g Bp Br A A' c c' p o) (hg : base ≤ g) (hb : base ≤ wr.heap.size) (ht : Touch (Foot g (.slice A p.all.length c) (.slice A' p.ws.length c')) wr w1) : Below base wr w1 :=
  ht.below hb (by
    rintro j (rfl | e | e)
    · exact hg
    · exact (World.ownsRow.lt h.oi j e).1
    · exact (World.ownsRow.lt h.ow j e).1)
/-- The result is laid. -/
theorem RS.res (h : RS wr base g Bp Br A A' c c' p o) (X Y : Value) (n : Nat) :
    Blk (((wr.setCell ⟨Br, 0, none⟩ X).setCell ⟨Br, 1, none⟩ Y).drewN n) Br 25 #[X, Y] ∧ IntsAt (((wr.setCell ⟨Br, 0, none⟩ X).setCell ⟨Br, 1, none⟩ Y).drewN n) wr.heap.size A p.all ∧ WordsAt (((wr.setCell ⟨Br, 0, none⟩ X).setCell ⟨Br, 1, none⟩ Y).drewN n) wr.heap.size A' p.ws := by
  have tb : Touch (· = Br) wr ((wr.setCell ⟨Br, 0, none⟩ X).setCell ⟨Br, 1, none⟩ Y) := Touch.set_ (p := (· = Br)) (Touch.set_ (p := (· = Br)) (Touch.refl _ _) (fun _ => rfl) _) (fun _ => rfl) _
  have e1 : OwnI ((wr.setCell ⟨Br, 0, none⟩ X).setCell ⟨Br, 1, none⟩ Y) base A c p.all := ownsRow_touch h.oi tb (fun k hk e => own_ne h.oi h.rb (by decide) (by rw [hk, e]))
  have e2 : OwnW ((wr.setCell ⟨Br, 0, none⟩ X).setCell ⟨Br, 1, none⟩ Y) base A' c' p.ws := ownsRow_touch h.ow tb (fun k hk e => own_ne h.ow h.rb (by decide) (by rw [hk, e]))
  have hs : ((wr.setCell ⟨Br, 0, none⟩ X).setCell ⟨Br, 1, none⟩ Y).heap.size = wr.heap.size := by simp [World.setCell]
  have i1 := e1.at_
  have i2 := e2.at_
  rw [hs] at i1 i2
  exact ⟨Blk.set_ (Blk.set_ h.rb 0 X) 1 Y, i1, i2⟩
end

/-- How reading ends. -/
def ReadEnd (l : List UInt8) (e : Ending) (w' : World) : Prop :=
  ((l = [] ∨ ∃ a t, l = a :: t ∧ a ≠ 0) ∧ e = .returned (.tuple #[.agg #[.slice none 0 0, .slice none 0 0], .bool false, .int .i64 4])) ∨
  (∃ t A A' c c', l = 0 :: t ∧ e = .returned (.tuple #[.agg #[.slice A (msgLoop Msg.none t).1.all.length c, .slice A' (msgLoop Msg.none t).1.ws.length c'], .bool (msgLoop Msg.none t).2, .int .i64 0]) ∧ IntsAt w' w'.heap.size A (msgLoop Msg.none t).1.all ∧ WordsAt w' w'.heap.size A' (msgLoop Msg.none t).1.ws ∧
    (msgLoop Msg.none t).1.all.length ≤ c ∧ (msgLoop Msg.none t).1.ws.length ≤ c' ∧ (msgLoop Msg.none t).1.all.length ≤ 400000 ∧ (msgLoop Msg.none t).1.ws.length ≤ 400000)

set_option maxHeartbeats 4000000 in
set_option maxRecDepth 100000 in
theorem read_bad (s : ByteArray) (w : World) (hs : s.size ≤ 100000) (h : s.data.toList = [] ∨ ∃ a t, s.data.toList = a :: t ∧ a ≠ 0) :
    Calls Try.prog 15 #[.string s] w fun e w' => e = .returned (.tuple #[.agg #[.slice none 0 0, .slice none 0 0], .bool false, .int .i64 4]) ∧ Below w.heap.size w w' := by
  have hb := Blk.new w 25 #[.slice none 0 0, .slice none 0 0]
  have hbl := bel_alloc w (.cells #[.slice none 0 0, .slice none 0 0] 25)
  have hrd : ∀ (w1 : World) (g : Nat), IsR w1 g ⟨s, 0, false⟩ → RdO w1 g (some s.data.toList) := fun w1 g hi => ⟨_, hi, ⟨Nat.zero_le _, by show s.size ≤ _; omega⟩, rfl, by simp⟩
  rcases h with h | ⟨a, t, h, ha⟩
  · rw [h] at hrd
    have HRD := Lib.hid hrd
    clear h hrd
    go_enter Try.func15, Try.ntmps15
    go_wp2_with fail
    refine (open_any s _).mono ?_
    generalize w.alloc (.cells #[.slice none 0 0, .slice none 0 0] 25) = W at *
    rintro e w1 ⟨rfl, hi, b1⟩
    have hr1 := HRD.out _ _ hi
    have hb1 := hb.below b1 hb.lt
    have hbl1 := hbl.trans (b1.mono hbl.size)
    have hlt := hb.lt
    have hws := hbl.size
    go_wp2_with fail
    refine (rget W.heap.size (some ([] : List UInt8)) 1 _ hr1 (by omega) (by omega)).mono ?_
    rintro e w2 ⟨rfl, hr2, t2⟩
    have hb2 := hb1.touch t2 (by omega)
    have hbl2 := hbl1.trans (t2.below hbl1.size (by rintro j rfl; exact hws))
    have e0 : takeO 1 (some ([] : List UInt8)) = [] := by simp [takeO]
    have e1 : dropO 1 (some ([] : List UInt8)) = none := by simp [dropO]
    have e2 : num ([] : List UInt8) = 0 := rfl
    rw [e1] at hr2
    rw [e0, e2]
    clear e0 e1 e2
    have c0 : w2.cell? ⟨w.heap.size, 0, none⟩ = some (.slice none 0 0) := hb2.cell 0
    have c1 : w2.cell? ⟨w.heap.size, 1, none⟩ = some (.slice none 0 0) := hb2.cell 1
    have f0 := hb2.frozen 0
    have f1 := hb2.frozen 1
    have hb3 : Blk ((w2.setCell ⟨w.heap.size, 0, none⟩ (.slice none 0 0)).setCell ⟨w.heap.size, 1, none⟩ (.slice none 0 0)) w.heap.size 25 #[.slice none 0 0, .slice none 0 0] := Blk.set_ (Blk.set_ hb2 0 (.slice none 0 0)) 1 (.slice none 0 0)
    have hbl3 := (hbl2.setCell (p := ⟨w.heap.size, 0, none⟩) (Nat.le_refl _) (.slice none 0 0)).setCell (p := ⟨w.heap.size, 1, none⟩) (Nat.le_refl _) (.slice none 0 0)
    go_wp2_with fail
    refine (rfault_none W.heap.size _ hr2).mono ?_
    rintro e wa ⟨q, rfl, rfl⟩
    go_wp2_with fail
    exact bodyPost_ret (presults_triple rfl _ _ w.heap.size 25 _ rfl hb3 rfl) rfl ⟨rfl, hbl3⟩
  · rw [h] at hrd
    have HRD := Lib.hid hrd
    clear h hrd
    have hn : num [a] = a.toNat := by simp [num]
    have han : ((a.toNat : Int) != 0) = true := by
      have : a.toNat ≠ 0 := fun e => ha (UInt8.toNat_inj.1 (by simpa using e))
      simp; omega
    have HN := Lib.hid hn
    clear hn
    go_enter Try.func15, Try.ntmps15
    go_wp2_with fail
    refine (open_any s _).mono ?_
    generalize w.alloc (.cells #[.slice none 0 0, .slice none 0 0] 25) = W at *
    rintro e w1 ⟨rfl, hi, b1⟩
    have hr1 := HRD.out _ _ hi
    have hb1 := hb.below b1 hb.lt
    have hbl1 := hbl.trans (b1.mono hbl.size)
    have hlt := hb.lt
    have hws := hbl.size
    go_wp2_with fail
    refine (rget W.heap.size (some (a :: t)) 1 _ hr1 (by omega) (by omega)).mono ?_
    rintro e w2 ⟨rfl, hr2, t2⟩
    have hb2 := hb1.touch t2 (by omega)
    have hbl2 := hbl1.trans (t2.below hbl1.size (by rintro j rfl; exact hws))
    have e0 : takeO 1 (some (a :: t)) = [a] := by simp [takeO]
    rw [e0, HN.out]
    clear e0
    have c0 : w2.cell? ⟨w.heap.size, 0, none⟩ = some (.slice none 0 0) := hb2.cell 0
    have c1 : w2.cell? ⟨w.heap.size, 1, none⟩ = some (.slice none 0 0) := hb2.cell 1
    have f0 := hb2.frozen 0
    have f1 := hb2.frozen 1
    have hb3 : Blk ((w2.setCell ⟨w.heap.size, 0, none⟩ (.slice none 0 0)).setCell ⟨w.heap.size, 1, none⟩ (.slice none 0 0)) w.heap.size 25 #[.slice none 0 0, .slice none 0 0] := Blk.set_ (Blk.set_ hb2 0 (.slice none 0 0)) 1 (.slice none 0 0)
    have hbl3 := (hbl2.setCell (p := ⟨w.heap.size, 0, none⟩) (Nat.le_refl _) (.slice none 0 0)).setCell (p := ⟨w.heap.size, 1, none⟩) (Nat.le_refl _) (.slice none 0 0)
    go_wp2_with fail
    exact bodyPost_ret (presults_triple rfl _ _ w.heap.size 25 _ rfl hb3 rfl) rfl ⟨rfl, hbl3⟩

theorem RS.fin {w wr : World} {base g Bp Br : Nat} {A A' : Option Addr} {c c' : Nat} {p : Msg} {o : Option (List UInt8)} (rs : RS wr base g Bp Br A A' c c' p o) (hbr : base ≤ Br) (hb : Below base w wr) (l0 : List UInt8) (bad : Bool) (hR : msgLoop Msg.none l0 = (p, bad)) (h1 : p.all.length ≤ 400000) (h2 : p.ws.length ≤ 400000) (n : Nat) :
    Blk (((wr.setCell ⟨Br, 0, none⟩ (.slice A p.all.length c)).setCell ⟨Br, 1, none⟩ (.slice A' p.ws.length c')).drewN n) Br 25 #[.slice A p.all.length c, .slice A' p.ws.length c'] ∧
    (∀ e, e = .returned (.tuple #[.agg #[.slice A p.all.length c, .slice A' p.ws.length c'], .bool bad, .int .i64 0]) → ReadEnd (0 :: l0) e (((wr.setCell ⟨Br, 0, none⟩ (.slice A p.all.length c)).setCell ⟨Br, 1, none⟩ (.slice A' p.ws.length c')).drewN n)) ∧
    Below base w (((wr.setCell ⟨Br, 0, none⟩ (.slice A p.all.length c)).setCell ⟨Br, 1, none⟩ (.slice A' p.ws.length c')).drewN n) := by
  obtain ⟨f0, f1, f2⟩ := rs.res (.slice A p.all.length c) (.slice A' p.ws.length c') n
  have hs : (((wr.setCell ⟨Br, 0, none⟩ (.slice A p.all.length c)).setCell ⟨Br, 1, none⟩ (.slice A' p.ws.length c')).drewN n).heap.size = wr.heap.size := by
    show ((wr.setCell ⟨Br, 0, none⟩ (.slice A p.all.length c)).setCell ⟨Br, 1, none⟩ (.slice A' p.ws.length c')).heap.size = _
    simp [World.setCell]
  refine ⟨f0, fun e he => .inr ⟨l0, A, A', c, c', rfl, ?_⟩, bel_drewN ((hb.setCell (p := ⟨Br, 0, none⟩) hbr _).setCell (p := ⟨Br, 1, none⟩) hbr _) n⟩
  rw [hR, hs]
  exact ⟨he, f1, f2, (own_cap rs.oi).1, (own_cap rs.ow).1, h1, h2⟩
theorem RS.fin0 {w wr : World} {base g Bp Br : Nat} {A A' : Option Addr} {c c' : Nat} {p : Msg} {o : Option (List UInt8)} (rs : RS wr base g Bp Br A A' c c' p o) (hbr : base ≤ Br) (hb : Below base w wr) (l0 : List UInt8) (bad : Bool) (hR : msgLoop Msg.none l0 = (p, bad)) (h1 : p.all.length ≤ 400000) (h2 : p.ws.length ≤ 400000) :
    Blk ((wr.setCell ⟨Br, 0, none⟩ (.slice A p.all.length c)).setCell ⟨Br, 1, none⟩ (.slice A' p.ws.length c')) Br 25 #[.slice A p.all.length c, .slice A' p.ws.length c'] ∧
    (∀ e, e = .returned (.tuple #[.agg #[.slice A p.all.length c, .slice A' p.ws.length c'], .bool bad, .int .i64 0]) → ReadEnd (0 :: l0) e ((wr.setCell ⟨Br, 0, none⟩ (.slice A p.all.length c)).setCell ⟨Br, 1, none⟩ (.slice A' p.ws.length c'))) ∧
    Below base w ((wr.setCell ⟨Br, 0, none⟩ (.slice A p.all.length c)).setCell ⟨Br, 1, none⟩ (.slice A' p.ws.length c')) := by
  have h := rs.fin hbr hb l0 bad hR h1 h2 0
  exact ⟨h.1, h.2.1, ⟨h.2.2.os, h.2.2.tape, h.2.2.output, h.2.2.size, h.2.2.block⟩⟩
theorem keep_fin {w wr w0 : World} {base Br : Nat} {A A' : Option Addr} {c c' : Nat} {p : Msg} (hb : Blk wr Br 25 #[.slice none 0 0, .slice none 0 0]) (ks : Keep wr (.slice A p.all.length c) (.slice A' p.ws.length c') p p) (hi : OwnI w0 base A c p.all) (hw : OwnW w0 base A' c' p.ws) (hbr : base ≤ Br) (hbl : Below base w wr) (l0 : List UInt8) (bad : Bool) (hR : msgLoop Msg.none l0 = (p, bad)) (h1 : p.all.length ≤ 400000) (h2 : p.ws.length ≤ 400000) :
    Blk ((wr.setCell ⟨Br, 0, none⟩ (.slice A p.all.length c)).setCell ⟨Br, 1, none⟩ (.slice A' p.ws.length c')) Br 25 #[.slice A p.all.length c, .slice A' p.ws.length c'] ∧
    (∀ e, e = .returned (.tuple #[.agg #[.slice A p.all.length c, .slice A' p.ws.length c'], .bool bad, .int .i64 0]) → ReadEnd (0 :: l0) e ((wr.setCell ⟨Br, 0, none⟩ (.slice A p.all.length c)).setCell ⟨Br, 1, none⟩ (.slice A' p.ws.length c'))) ∧
    Below base w ((wr.setCell ⟨Br, 0, none⟩ (.slice A p.all.length c)).setCell ⟨Br, 1, none⟩ (.slice A' p.ws.length c')) := by
  have tb : Touch (· = Br) wr ((wr.setCell ⟨Br, 0, none⟩ (.slice A p.all.length c)).setCell ⟨Br, 1, none⟩ (.slice A' p.ws.length c')) := Touch.set_ (p := (· = Br)) (Touch.set_ (p := (· = Br)) (Touch.refl _ _) (fun _ => rfl) _) (fun _ => rfl) _
  have k1 := ks.one hb (by decide) (by decide) tb
  refine ⟨Blk.set_ (Blk.set_ hb 0 _) 1 _, fun e he => .inr ⟨l0, A, A', c, c', rfl, ?_⟩, (hbl.setCell (p := ⟨Br, 0, none⟩) hbr _).setCell (p := ⟨Br, 1, none⟩) hbr _⟩
  rw [hR]
  exact ⟨he, Lies.ints hi k1.li, Lies.words hw k1.lw, (own_cap hi).1, (own_cap hw).1, h1, h2⟩
theorem rendE (g : Nat) (o : Option (List UInt8)) (w : World) (x : Int) (he : endO o = x) (h : RdO w g o) :
    Calls Try.prog 35 #[.pointer (some ⟨g, 0, none⟩)] w fun e w' => e = .returned (.int .i64 x) ∧ ∃ n, w' = w.drewN n := by
  subst he
  exact rend g o w h
/-- The two bytes ahead of a part. -/
theorem head_cases (l : List UInt8) : (l.length < 2 ∧ num (takeO 1 (dropO 1 (some l))) = 0 ∧ dropO 1 (dropO 1 (some l)) = none) ∨
    (2 ≤ l.length ∧ num (takeO 1 (some l)) = num (l.take 1) ∧ num (takeO 1 (dropO 1 (some l))) = num ((l.drop 1).take 1) ∧ dropO 1 (dropO 1 (some l)) = some (l.drop 2)) := by
  match l with
  | [] => left; simp [takeO, dropO, num]
  | [x] => left; simp [takeO, dropO, num]
  | x :: y :: t => right; simp [takeO, dropO]
/-- Loops of a message's reading. -/
theorem msg_cases (p : Msg) (l : List UInt8) :
    (l.length < 2 ∧ msgLoop p l = (p, true)) ∨
    (2 ≤ l.length ∧ num (l.take 1) = 0 ∧ num ((l.drop 1).take 1) = 0 ∧ msgLoop p l = (p, decide (l.drop 2 ≠ []))) ∨
    (2 ≤ l.length ∧ ¬ (num (l.take 1) = 0 ∧ num ((l.drop 1).take 1) = 0) ∧ (vs (num (l.take 1)) = 0 ∨ vs (num (l.take 1)) ≠ num ((l.drop 1).take 1)) ∧ msgLoop p l = (p, true)) ∨
    (2 ≤ l.length ∧ ¬ (num (l.take 1) = 0 ∧ num ((l.drop 1).take 1) = 0) ∧ vs (num (l.take 1)) ≠ 0 ∧ vs (num (l.take 1)) = num ((l.drop 1).take 1) ∧
      (partLoop (num (l.take 1)) true p (l.drop 2) = none ∧ msgLoop p l = (p, true) ∨ ∃ q l', partLoop (num (l.take 1)) true p (l.drop 2) = some (q, l') ∧ msgLoop p l = msgLoop q l' ∧ l'.length + 2 < l.length)) := by
  by_cases h : l.length < 2
  · exact .inl ⟨h, msg_short h p⟩
  · by_cases h0 : num (l.take 1) = 0 ∧ num ((l.drop 1).take 1) = 0
    · exact .inr (.inl ⟨by omega, h0.1, h0.2, msg_end h h0 p⟩)
    · by_cases h1 : vs (num (l.take 1)) = 0 ∨ vs (num (l.take 1)) ≠ num ((l.drop 1).take 1)
      · exact .inr (.inr (.inl ⟨by omega, h0, h1, msg_odd h h0 h1 p⟩))
      · have hm := msg_part h h0 h1 p
        refine .inr (.inr (.inr ⟨by omega, h0, fun e => h1 (.inl e), Classical.byContradiction fun e => h1 (.inr e), ?_⟩))
        cases hp : partLoop (num (l.take 1)) true p (l.drop 2) with
        | none => rw [hp] at hm; exact .inl ⟨rfl, hm⟩
        | some r =>
          obtain ⟨q, l'⟩ := r
          rw [hp] at hm
          have := (part_some _ (Nat.le_refl _) hp).1
          rw [List.length_drop] at this
          exact .inr ⟨q, l', rfl, hm, by omega⟩
theorem part_room {k : Int} : ∀ (N : Nat) {s : Bool} {p q : Msg} {l l' : List UInt8}, l.length ≤ N → partLoop k s p l = some (q, l') → q.all.length + l'.length ≤ p.all.length + l.length ∧ q.ws.length + 3 * l'.length ≤ p.ws.length + 3 * l.length := by
  intro N
  induction N with
  | zero =>
    intro s p q l l' hl h
    have : l = [] := List.eq_nil_of_length_eq_zero (by omega)
    subst this
    rw [part_bad (by simp [vecAt])] at h
    cases h
  | succ N ih =>
    intro s p q l l' hl h
    cases hv : vecAt k l with
    | bad => rw [part_bad hv] at h; cases h
    | stop l1 =>
      rw [part_stop hv] at h
      have hlt := vec_stop_lt hv
      cases s
      · simp only [Bool.false_eq_true, ite_false, Option.some.injEq, Prod.mk.injEq] at h
        obtain ⟨rfl, rfl⟩ := h
        omega
      · simp at h
    | row v l2 =>
      rw [part_row hv] at h
      have hlt := vec_row_lt hv
      have hr := vec_room hv
      split at h
      · have := ih (by omega) h
        simp only [Msg.app, List.length_append] at this
        omega
      · cases h

set_option maxHeartbeats 2000000 in
set_option maxRecDepth 100000 in
theorem read_ok (s : ByteArray) (l0 : List UInt8) (w : World) (hs : s.size ≤ 100000) (h : s.data.toList = 0 :: l0) :
    Calls Try.prog 15 #[.string s] w fun e w' => ReadEnd (0 :: l0) e w' ∧ Below w.heap.size w w' := by
  have hb := Blk.new w 25 #[.slice none 0 0, .slice none 0 0]
  have hbl := bel_alloc w (.cells #[.slice none 0 0, .slice none 0 0] 25)
  have hrd : ∀ (w1 : World) (g : Nat), IsR w1 g ⟨s, 0, false⟩ → RdO w1 g (some s.data.toList) := fun w1 g hi => ⟨_, hi, ⟨Nat.zero_le _, by show s.size ≤ _; omega⟩, rfl, by simp⟩
  have hl0 : l0.length ≤ 100000 := by
    have := congrArg List.length h
    simp at this
    omega
  rw [h] at hrd
  have HRD := Lib.hid hrd
  obtain ⟨R, hR⟩ : ∃ R, msgLoop Msg.none l0 = R := ⟨_, rfl⟩
  have HR0 := Lib.hid hR
  clear h hrd
  go_enter Try.func15, Try.ntmps15
  go_wp2_with fail
  refine (open_any s _).mono ?_
  generalize w.alloc (.cells #[.slice none 0 0, .slice none 0 0] 25) = W at *
  rintro e w1 ⟨rfl, hi, b1⟩
  have hr1 := HRD.out _ _ hi
  have hb1 := hb.below b1 hb.lt
  have hbl1 := hbl.trans (b1.mono hbl.size)
  have hlt := hb.lt
  have hws := hbl.size
  go_wp2_with fail
  refine (rget W.heap.size (some (0 :: l0)) 1 _ hr1 (by omega) (by omega)).mono ?_
  rintro e w2 ⟨rfl, hr2, t2⟩
  have hb2 := hb1.touch t2 (by omega)
  have hbl2 := hbl1.trans (t2.below hbl1.size (by rintro j rfl; exact hws))
  have e0 : takeO 1 (some ((0 : UInt8) :: l0)) = [0] := by simp [takeO]
  have e1 : dropO 1 (some ((0 : UInt8) :: l0)) = some l0 := by simp [dropO]
  have e2 : num [(0 : UInt8)] = 0 := rfl
  rw [e1] at hr2
  rw [e0, e2]
  clear e0 e1 e2 hb1 hbl1 hr1 t2 b1 hi hb hbl
  go_wp2_with fail
  refine (rfault_some W.heap.size l0 _ hr2).mono ?_
  rintro e wa ⟨rfl, rfl⟩
  have hrs : RS (w2.alloc (.cells #[.slice none 0 0, .slice none 0 0] 25)) w.heap.size W.heap.size w2.heap.size w.heap.size none none 0 0 Msg.none (some l0) :=
    ⟨Blk.new w2 _ _, hb2.alloc _, World.ownsRow_nil _ _ _ _, World.ownsRow_nil _ _ _ _, hr2.alloc _, by have := hb2.lt; omega⟩
  have hbl3 := hbl2.alloc hbl2.size (.cells #[.slice none 0 0, .slice none 0 0] 25)
  have hw2 : w.heap.size ≤ w2.heap.size := hbl2.size
  clear hb2 hr2 hbl2
  go_wp2_with fail
  generalize w2.alloc (.cells #[.slice none 0 0, .slice none 0 0] 25) = W3 at *
  go_loopw [7] (fun _ wr => ∃ (A A' : Option Addr) (c c' : Nat) (p : Msg) (l : List UInt8), RS wr w.heap.size W.heap.size w2.heap.size w.heap.size A A' c c' p (some l) ∧ Below w.heap.size w wr ∧ p.all.length + l.length ≤ 400000 ∧ p.ws.length + 3 * l.length ≤ 400000 ∧ Hid (msgLoop p l = R)) (fun _ wr => rdM W.heap.size wr)
  case atStart => exact ⟨none, none, 0, 0, Msg.none, l0, hrs, hbl3, by simp [Msg.none]; omega, by simp [Msg.none]; omega, HR0⟩
  case round =>
    clear hrs hbl3
    obtain ⟨A, A', c, c', p, l, rs, hbw, b1, b2, HG⟩ := hrel
    have hM := rdM_is rs.rd
    have HM := Lib.hid hM
    clear hM
    go_wp2_with fail
    refine (rget W.heap.size (some l) 1 wr rs.rd (by omega) (by omega)).mono ?_
    obtain ⟨a, ha⟩ : ∃ a, num (takeO 1 (some l)) = a := ⟨_, rfl⟩
    obtain ⟨o1, ho1⟩ : ∃ o1, dropO 1 (some l) = o1 := ⟨_, rfl⟩
    obtain ⟨b, hbb⟩ : ∃ b, num (takeO 1 o1) = b := ⟨_, rfl⟩
    obtain ⟨o2, ho2⟩ : ∃ o2, dropO 1 o1 = o2 := ⟨_, rfl⟩
    have hhead := head_cases l
    have hmsg := msg_cases p l
    rw [HG.out] at hmsg
    rw [ho1, hbb, ho2, ha] at hhead
    rw [ha, ho1]
    rintro e wa ⟨rfl, ra, ta⟩
    have rs1 := rs.read ta ra
    have hbw1 := hbw.trans (ta.below hbw.size (by rintro j rfl; exact hws))
    have HB2 := Lib.hid (And.intro hbb ho2)
    have HMS := Lib.hid hmsg
    have HHD := Lib.hid hhead
    clear ra ta hbw ha ho1 hbb ho2 hmsg hhead HG
    go_wp2_with fail
    refine (rget W.heap.size o1 1 wa rs1.rd (by omega) (by omega)).mono ?_
    rw [HB2.out.1, HB2.out.2]
    rintro e wb ⟨rfl, rb, tb⟩
    have rs2 := rs1.read tb rb
    have hbw2 := hbw1.trans (tb.below hbw1.size (by rintro j rfl; exact hws))
    clear rb tb hbw1 rs rs1
    by_cases hl : l.length < 2
    · have hG' : R = (p, true) := by
        rcases HMS.out with ⟨_, h⟩ | ⟨h, _⟩ | ⟨h, _⟩ | ⟨h, _⟩
        · exact h
        all_goals omega
      have hh : b = 0 ∧ o2 = none := by
        rcases HHD.out with ⟨_, h1, h2⟩ | ⟨h, _⟩
        · exact ⟨h1, h2⟩
        · omega
      obtain ⟨rfl, rfl⟩ := hh
      have HG' := Lib.hid hG'
      clear hG'
      by_cases ha0 : a = 0
      · subst ha0
        have k0 : wb.cell? ⟨w2.heap.size, 0, none⟩ = some (.slice A p.all.length c) := rs2.pb.cell 0
        have k1 : wb.cell? ⟨w2.heap.size, 1, none⟩ = some (.slice A' p.ws.length c') := rs2.pb.cell 1
        have r0 : wb.cell? ⟨w.heap.size, 0, none⟩ = some (.slice none 0 0) := rs2.rb.cell 0
        have r1 : wb.cell? ⟨w.heap.size, 1, none⟩ = some (.slice none 0 0) := rs2.rb.cell 1
        have y0 := rs2.rb.frozen 0
        have y1 := rs2.rb.frozen 1
        have HE := Lib.hid (rendE W.heap.size (none) (World.drew wb) 4 rfl rs2.rd)
        have HF := Lib.hid (fun n => rs2.fin (w := w) (Nat.le_refl _) hbw2 l0 true (by rw [HR0.out]; exact HG'.out) (by omega) (by omega) n)
        go_wp2_with fail
        go_region_law ((go_simp; go_at_call 35; refine HE.out.mono ?_; rintro e wz ⟨rfl, nn, rfl⟩))
        all_goals
          go_wp2_with fail
          exact bodyPost_ret (presults_triple rfl _ _ w.heap.size 25 _ rfl (HF.out _).1 rfl) rfl ⟨(HF.out _).2.1 _ rfl, (HF.out _).2.2⟩
      · have d1 : ((a : Int) == 0) = false := by simp; omega
        have HO := Lib.hid (part_odd W.heap.size (a : Int) 0 (.slice A p.all.length c) (.slice A' p.ws.length c') wb (by by_cases hh : (vs (a : Int) : Int) = 0; exact .inl hh; exact .inr hh))
        have k0 : wb.cell? ⟨w2.heap.size, 0, none⟩ = some (.slice A p.all.length c) := rs2.pb.cell 0
        have k1 : wb.cell? ⟨w2.heap.size, 1, none⟩ = some (.slice A' p.ws.length c') := rs2.pb.cell 1
        have r0 : wb.cell? ⟨w.heap.size, 0, none⟩ = some (.slice none 0 0) := rs2.rb.cell 0
        have r1 : wb.cell? ⟨w.heap.size, 1, none⟩ = some (.slice none 0 0) := rs2.rb.cell 1
        have y0 := rs2.rb.frozen 0
        have y1 := rs2.rb.frozen 1
        go_wp2_with fail
        refine HO.out.mono ?_
        rintro e wc ⟨rfl, bc⟩
        have rs3 := (rs2.on bc).on (bel_alloc wc (.cells #[.slice none 0 0, .slice none 0 0] 25))
        have hbw3 := (hbw2.trans (bc.mono hbw2.size)).alloc (by have := hbw2.size; have := bc.size; omega) (.cells #[.slice none 0 0, .slice none 0 0] 25)
        obtain ⟨f0, f1, f2⟩ := rs3.fin0 (w := w) (Nat.le_refl _) hbw3 l0 true (by rw [HR0.out]; exact HG'.out) (by omega) (by omega)
        clear k0 k1 r0 r1 y0 y1
        have k0 : (wc.alloc (.cells #[.slice none 0 0, .slice none 0 0] 25)).cell? ⟨w2.heap.size, 0, none⟩ = some (.slice A p.all.length c) := rs3.pb.cell 0
        have k1 : (wc.alloc (.cells #[.slice none 0 0, .slice none 0 0] 25)).cell? ⟨w2.heap.size, 1, none⟩ = some (.slice A' p.ws.length c') := rs3.pb.cell 1
        have r0 : (wc.alloc (.cells #[.slice none 0 0, .slice none 0 0] 25)).cell? ⟨w.heap.size, 0, none⟩ = some (.slice none 0 0) := rs3.rb.cell 0
        have r1 : (wc.alloc (.cells #[.slice none 0 0, .slice none 0 0] 25)).cell? ⟨w.heap.size, 1, none⟩ = some (.slice none 0 0) := rs3.rb.cell 1
        have y0 := rs3.rb.frozen 0
        have y1 := rs3.rb.frozen 1
        go_wp2_with fail
        exact bodyPost_ret (presults_triple rfl _ _ w.heap.size 25 _ rfl f0 rfl) rfl ⟨f1 _ rfl, f2⟩
    · have hh : a = num (l.take 1) ∧ b = num ((l.drop 1).take 1) ∧ o2 = some (l.drop 2) := by
        rcases HHD.out with ⟨h, _⟩ | ⟨_, h⟩
        · omega
        · exact h
      have hms := HMS.out
      rw [← hh.1, ← hh.2.1] at hms
      obtain ⟨hx1, hx2, rfl⟩ := hh
      clear hx1 hx2
      rcases hms with ⟨h, _⟩ | ⟨_, rfl, rfl, hG'⟩ | ⟨_, h0, h1, hG'⟩ | ⟨_, h0, h1, h2, hpart⟩
      · omega
      · cases hd : l.drop 2 with
        | nil =>
          rw [hd] at hG' rs2
          have HG' : Hid (R = (p, false)) := Lib.hid (by simpa using hG')
          clear hG'
          have k0 : wb.cell? ⟨w2.heap.size, 0, none⟩ = some (.slice A p.all.length c) := rs2.pb.cell 0
          have k1 : wb.cell? ⟨w2.heap.size, 1, none⟩ = some (.slice A' p.ws.length c') := rs2.pb.cell 1
          have r0 : wb.cell? ⟨w.heap.size, 0, none⟩ = some (.slice none 0 0) := rs2.rb.cell 0
          have r1 : wb.cell? ⟨w.heap.size, 1, none⟩ = some (.slice none 0 0) := rs2.rb.cell 1
          have y0 := rs2.rb.frozen 0
          have y1 := rs2.rb.frozen 1
          have HE := Lib.hid (rendE W.heap.size (some ([] : List UInt8)) (World.drew wb) 0 rfl rs2.rd)
          have HF := Lib.hid (fun n => rs2.fin (w := w) (Nat.le_refl _) hbw2 l0 false (by rw [HR0.out]; exact HG'.out) (by omega) (by omega) n)
          go_wp2_with fail
          go_region_law ((go_simp; go_at_call 35; refine HE.out.mono ?_; rintro e wz ⟨rfl, nn, rfl⟩))
          all_goals
            go_wp2_with fail
            exact bodyPost_ret (presults_triple rfl _ _ w.heap.size 25 _ rfl (HF.out _).1 rfl) rfl ⟨(HF.out _).2.1 _ rfl, (HF.out _).2.2⟩
        | cons x y =>
          rw [hd] at hG' rs2
          have HG' : Hid (R = (p, true)) := Lib.hid (by simpa using hG')
          clear hG'
          have k0 : wb.cell? ⟨w2.heap.size, 0, none⟩ = some (.slice A p.all.length c) := rs2.pb.cell 0
          have k1 : wb.cell? ⟨w2.heap.size, 1, none⟩ = some (.slice A' p.ws.length c') := rs2.pb.cell 1
          have r0 : wb.cell? ⟨w.heap.size, 0, none⟩ = some (.slice none 0 0) := rs2.rb.cell 0
          have r1 : wb.cell? ⟨w.heap.size, 1, none⟩ = some (.slice none 0 0) := rs2.rb.cell 1
          have y0 := rs2.rb.frozen 0
          have y1 := rs2.rb.frozen 1
          have HE := Lib.hid (rendE W.heap.size (some (x :: y)) (World.drew wb) 4 rfl rs2.rd)
          have HF := Lib.hid (fun n => rs2.fin (w := w) (Nat.le_refl _) hbw2 l0 true (by rw [HR0.out]; exact HG'.out) (by omega) (by omega) n)
          go_wp2_with fail
          go_region_law ((go_simp; go_at_call 35; refine HE.out.mono ?_; rintro e wz ⟨rfl, nn, rfl⟩))
          all_goals
            go_wp2_with fail
            exact bodyPost_ret (presults_triple rfl _ _ w.heap.size 25 _ rfl (HF.out _).1 rfl) rfl ⟨(HF.out _).2.1 _ rfl, (HF.out _).2.2⟩
      · have HG' := Lib.hid hG'
        have hodd : (vs (a : Int) : Int) = 0 ∨ (vs (a : Int) : Int) ≠ (b : Int) := by rcases h1 with h1 | h1; exact .inl (by omega); exact .inr (by omega)
        clear hG' h1
        by_cases ha0 : a = 0
        · subst ha0
          have d1 : ((b : Int) == 0) = false := by simp; omega
          have hodd' : (vs (((0 : Nat) : Int)) : Int) = 0 ∨ (vs (((0 : Nat) : Int)) : Int) ≠ (b : Int) := hodd
          simp only [Int.cast_ofNat_Int] at hodd'
          clear h0 hodd
          have HO := Lib.hid (part_odd W.heap.size 0 (b : Int) (.slice A p.all.length c) (.slice A' p.ws.length c') wb hodd')
          have k0 : wb.cell? ⟨w2.heap.size, 0, none⟩ = some (.slice A p.all.length c) := rs2.pb.cell 0
          have k1 : wb.cell? ⟨w2.heap.size, 1, none⟩ = some (.slice A' p.ws.length c') := rs2.pb.cell 1
          have r0 : wb.cell? ⟨w.heap.size, 0, none⟩ = some (.slice none 0 0) := rs2.rb.cell 0
          have r1 : wb.cell? ⟨w.heap.size, 1, none⟩ = some (.slice none 0 0) := rs2.rb.cell 1
          have y0 := rs2.rb.frozen 0
          have y1 := rs2.rb.frozen 1
          go_wp2_with fail
          refine HO.out.mono ?_
          rintro e wc ⟨rfl, bc⟩
          have rs3 := (rs2.on bc).on (bel_alloc wc (.cells #[.slice none 0 0, .slice none 0 0] 25))
          have hbw3 := (hbw2.trans (bc.mono hbw2.size)).alloc (by have := hbw2.size; have := bc.size; omega) (.cells #[.slice none 0 0, .slice none 0 0] 25)
          obtain ⟨f0, f1, f2⟩ := rs3.fin0 (w := w) (Nat.le_refl _) hbw3 l0 true (by rw [HR0.out]; exact HG'.out) (by omega) (by omega)
          clear k0 k1 r0 r1 y0 y1
          have k0 : (wc.alloc (.cells #[.slice none 0 0, .slice none 0 0] 25)).cell? ⟨w2.heap.size, 0, none⟩ = some (.slice A p.all.length c) := rs3.pb.cell 0
          have k1 : (wc.alloc (.cells #[.slice none 0 0, .slice none 0 0] 25)).cell? ⟨w2.heap.size, 1, none⟩ = some (.slice A' p.ws.length c') := rs3.pb.cell 1
          have r0 : (wc.alloc (.cells #[.slice none 0 0, .slice none 0 0] 25)).cell? ⟨w.heap.size, 0, none⟩ = some (.slice none 0 0) := rs3.rb.cell 0
          have r1 : (wc.alloc (.cells #[.slice none 0 0, .slice none 0 0] 25)).cell? ⟨w.heap.size, 1, none⟩ = some (.slice none 0 0) := rs3.rb.cell 1
          have y0 := rs3.rb.frozen 0
          have y1 := rs3.rb.frozen 1
          go_wp2_with fail
          exact bodyPost_ret (presults_triple rfl _ _ w.heap.size 25 _ rfl f0 rfl) rfl ⟨f1 _ rfl, f2⟩
        · have d1 : ((a : Int) == 0) = false := by simp; omega
          clear h0
          have HO := Lib.hid (part_odd W.heap.size (a : Int) (b : Int) (.slice A p.all.length c) (.slice A' p.ws.length c') wb hodd)
          have k0 : wb.cell? ⟨w2.heap.size, 0, none⟩ = some (.slice A p.all.length c) := rs2.pb.cell 0
          have k1 : wb.cell? ⟨w2.heap.size, 1, none⟩ = some (.slice A' p.ws.length c') := rs2.pb.cell 1
          have r0 : wb.cell? ⟨w.heap.size, 0, none⟩ = some (.slice none 0 0) := rs2.rb.cell 0
          have r1 : wb.cell? ⟨w.heap.size, 1, none⟩ = some (.slice none 0 0) := rs2.rb.cell 1
          have y0 := rs2.rb.frozen 0
          have y1 := rs2.rb.frozen 1
          go_wp2_with fail
          refine HO.out.mono ?_
          rintro e wc ⟨rfl, bc⟩
          have rs3 := (rs2.on bc).on (bel_alloc wc (.cells #[.slice none 0 0, .slice none 0 0] 25))
          have hbw3 := (hbw2.trans (bc.mono hbw2.size)).alloc (by have := hbw2.size; have := bc.size; omega) (.cells #[.slice none 0 0, .slice none 0 0] 25)
          obtain ⟨f0, f1, f2⟩ := rs3.fin0 (w := w) (Nat.le_refl _) hbw3 l0 true (by rw [HR0.out]; exact HG'.out) (by omega) (by omega)
          clear k0 k1 r0 r1 y0 y1
          have k0 : (wc.alloc (.cells #[.slice none 0 0, .slice none 0 0] 25)).cell? ⟨w2.heap.size, 0, none⟩ = some (.slice A p.all.length c) := rs3.pb.cell 0
          have k1 : (wc.alloc (.cells #[.slice none 0 0, .slice none 0 0] 25)).cell? ⟨w2.heap.size, 1, none⟩ = some (.slice A' p.ws.length c') := rs3.pb.cell 1
          have r0 : (wc.alloc (.cells #[.slice none 0 0, .slice none 0 0] 25)).cell? ⟨w.heap.size, 0, none⟩ = some (.slice none 0 0) := rs3.rb.cell 0
          have r1 : (wc.alloc (.cells #[.slice none 0 0, .slice none 0 0] 25)).cell? ⟨w.heap.size, 1, none⟩ = some (.slice none 0 0) := rs3.rb.cell 1
          have y0 := rs3.rb.frozen 0
          have y1 := rs3.rb.frozen 1
          go_wp2_with fail
          exact bodyPost_ret (presults_triple rfl _ _ w.heap.size 25 _ rfl f0 rfl) rfl ⟨f1 _ rfl, f2⟩
      · have ha0 : a ≠ 0 := by rintro rfl; exact h1 (by decide)
        have d1 : ((a : Int) == 0) = false := by simp; omega
        subst h2
        have hlen : (l.drop 2).length + 2 = l.length := by rw [List.length_drop]; omega
        have HP := Lib.hid (part_good W.heap.size (a : Int) w.heap.size A A' c c' p (l.drop 2) (Foot W.heap.size (.slice A p.all.length c) (.slice A' p.ws.length c')) wb h1 rs2.oi rs2.ow rs2.rd (.inl rfl) (fun j hj => .inr (.inl hj)) (fun j hj => .inr (.inr hj)) (by omega) (by omega) hbw2.size)
        have HPT := Lib.hid hpart
        clear hpart h0 h1
        have k0 : wb.cell? ⟨w2.heap.size, 0, none⟩ = some (.slice A p.all.length c) := rs2.pb.cell 0
        have k1 : wb.cell? ⟨w2.heap.size, 1, none⟩ = some (.slice A' p.ws.length c') := rs2.pb.cell 1
        have r0 : wb.cell? ⟨w.heap.size, 0, none⟩ = some (.slice none 0 0) := rs2.rb.cell 0
        have r1 : wb.cell? ⟨w.heap.size, 1, none⟩ = some (.slice none 0 0) := rs2.rb.cell 1
        have y0 := rs2.rb.frozen 0
        have y1 := rs2.rb.frozen 1
        go_wp2_with fail
        refine HP.out.mono ?_
        rintro e wc ⟨hend, tc⟩
        obtain ⟨bx, br⟩ := rs2.boxes tc
        have hbwc := hbw2.trans (rs2.foot hws hbw2.size tc)
        have hwc := hbwc.size
        rcases hend with ⟨hn, X0, X1, X2, Y0, Y1, Y2, rfl, ks⟩ | ⟨q, l', Aq, Aq', cq, cq', hsome, rfl, qi, qw, qr⟩
        · have hG' : R = (p, true) := by
            rcases HPT.out with ⟨_, h⟩ | ⟨q, l', h, _⟩
            · exact h
            · rw [hn] at h; cases h
          have bxA := bx.alloc (.cells #[.slice X0 X1 X2, .slice Y0 Y1 Y2] 25)
          have brA := br.alloc (.cells #[.slice X0 X1 X2, .slice Y0 Y1 Y2] 25)
          have ksA := ks.on (bel_alloc wc (.cells #[.slice X0 X1 X2, .slice Y0 Y1 Y2] 25))
          have hbA := hbwc.alloc hwc (.cells #[.slice X0 X1 X2, .slice Y0 Y1 Y2] 25)
          obtain ⟨f0, f1, f2⟩ := keep_fin (w := w) brA ksA rs2.oi rs2.ow (Nat.le_refl _) hbA l0 true (by rw [HR0.out]; exact hG') (by omega) (by omega)
          have x0 : (wc.alloc (.cells #[.slice X0 X1 X2, .slice Y0 Y1 Y2] 25)).cell? ⟨w2.heap.size, 0, none⟩ = some (.slice A p.all.length c) := bxA.cell 0
          have x1 : (wc.alloc (.cells #[.slice X0 X1 X2, .slice Y0 Y1 Y2] 25)).cell? ⟨w2.heap.size, 1, none⟩ = some (.slice A' p.ws.length c') := bxA.cell 1
          have z0 : (wc.alloc (.cells #[.slice X0 X1 X2, .slice Y0 Y1 Y2] 25)).cell? ⟨w.heap.size, 0, none⟩ = some (.slice none 0 0) := brA.cell 0
          have z1 : (wc.alloc (.cells #[.slice X0 X1 X2, .slice Y0 Y1 Y2] 25)).cell? ⟨w.heap.size, 1, none⟩ = some (.slice none 0 0) := brA.cell 1
          have z2 := brA.frozen 0
          have z3 := brA.frozen 1
          clear hG' bx br ks ksA hbA bxA brA tc rs2 k0 k1 r0 r1 y0 y1 hwc hbwc
          go_wp2_with fail
          exact bodyPost_ret (presults_triple rfl _ _ w.heap.size 25 _ rfl f0 rfl) rfl ⟨f1 _ rfl, f2⟩
        · have hG' : msgLoop q l' = R ∧ l'.length + 2 < l.length := by
            rcases HPT.out with ⟨h, _⟩ | ⟨q', l2, h, h2, h3⟩
            · rw [hsome] at h; cases h
            · rw [hsome] at h
              injection h with h
              injection h with e1 e2
              subst e1 e2
              exact ⟨h2.symm, h3⟩
          have HG' := Lib.hid hG'.1
          have hlq := hG'.2
          have hroom := part_room _ (Nat.le_refl _) hsome
          have wb1 := Blk.new wc 25 #[.slice Aq q.all.length cq, .slice Aq' q.ws.length cq']
          have bxA := bx.alloc (.cells #[.slice Aq q.all.length cq, .slice Aq' q.ws.length cq'] 25)
          have brA := br.alloc (.cells #[.slice Aq q.all.length cq, .slice Aq' q.ws.length cq'] 25)
          have qiA : OwnI (wc.alloc (.cells #[.slice Aq q.all.length cq, .slice Aq' q.ws.length cq'] 25)) w.heap.size Aq cq q.all := World.ownsRow.alloc qi _
          have qwA : OwnW (wc.alloc (.cells #[.slice Aq q.all.length cq, .slice Aq' q.ws.length cq'] 25)) w.heap.size Aq' cq' q.ws := World.ownsRow.alloc qw _
          have qrA := qr.alloc (.cells #[.slice Aq q.all.length cq, .slice Aq' q.ws.length cq'] 25)
          have hbA := hbwc.alloc hwc (.cells #[.slice Aq q.all.length cq, .slice Aq' q.ws.length cq'] 25)
          have x0 : (wc.alloc (.cells #[.slice Aq q.all.length cq, .slice Aq' q.ws.length cq'] 25)).cell? ⟨w2.heap.size, 0, none⟩ = some (.slice A p.all.length c) := bxA.cell 0
          have x1 : (wc.alloc (.cells #[.slice Aq q.all.length cq, .slice Aq' q.ws.length cq'] 25)).cell? ⟨w2.heap.size, 1, none⟩ = some (.slice A' p.ws.length c') := bxA.cell 1
          have z0 := bxA.frozen 0
          have z1 := bxA.frozen 1
          have hgb := rs2.rn
          have hpb := rs2.ne
          have hfin : RS (((wc.alloc (.cells #[.slice Aq q.all.length cq, .slice Aq' q.ws.length cq'] 25)).setCell ⟨w2.heap.size, 0, none⟩ (.slice Aq q.all.length cq)).setCell ⟨w2.heap.size, 1, none⟩ (.slice Aq' q.ws.length cq')) w.heap.size W.heap.size w2.heap.size w.heap.size Aq Aq' cq cq' q (some l') := by
            have tb : Touch (· = w2.heap.size) (wc.alloc (.cells #[.slice Aq q.all.length cq, .slice Aq' q.ws.length cq'] 25)) (((wc.alloc (.cells #[.slice Aq q.all.length cq, .slice Aq' q.ws.length cq'] 25)).setCell ⟨w2.heap.size, 0, none⟩ (.slice Aq q.all.length cq)).setCell ⟨w2.heap.size, 1, none⟩ (.slice Aq' q.ws.length cq')) := Touch.set_ (p := (· = w2.heap.size)) (Touch.set_ (p := (· = w2.heap.size)) (Touch.refl _ _) (fun _ => rfl) _) (fun _ => rfl) _
            exact ⟨Blk.set_ (Blk.set_ bxA 0 _) 1 _, brA.touch tb (fun e => hpb e.symm), ownsRow_touch qiA tb (fun k hk e => own_ne qiA bxA (by decide) (by rw [hk, e])), ownsRow_touch qwA tb (fun k hk e => own_ne qwA bxA (by decide) (by rw [hk, e])), qrA.touch tb (fun e => hgb.1 e.symm), hpb⟩
          have hbF := (hbA.setCell (p := ⟨w2.heap.size, 0, none⟩) hw2 (.slice Aq q.all.length cq)).setCell (p := ⟨w2.heap.size, 1, none⟩) hw2 (.slice Aq' q.ws.length cq')
          have HLT : Hid (rdM W.heap.size (((wc.alloc (.cells #[.slice Aq q.all.length cq, .slice Aq' q.ws.length cq'] 25)).setCell ⟨w2.heap.size, 0, none⟩ (.slice Aq q.all.length cq)).setCell ⟨w2.heap.size, 1, none⟩ (.slice Aq' q.ws.length cq')) < rdM W.heap.size wr) := Lib.hid (by rw [rdM_is hfin.rd, HM.out]; simp only [oM]; omega)
          clear wb1 qiA qwA qrA hbA tc rs2 qi qw qr bx br k0 k1 r0 r1 y0 y1
          go_wp2_with fail
          go_roundw
          case rel => exact ⟨Aq, Aq', cq, cq', q, l', hfin, hbF, by omega, by omega, HG'⟩
          case measure => exact HLT.out
end Go.Proofs.Ytoigapanhbmjlaa
