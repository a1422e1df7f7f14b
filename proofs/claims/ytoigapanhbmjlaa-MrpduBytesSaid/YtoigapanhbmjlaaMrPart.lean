/- mrpdu.readPart: what a part says. Its condition: few bytes, and a message whose rows are the program's own. -/
import Derived.Test.YtoigapanhbmjlaaMrJoins
import Derived.Deep.RegionLaw
import Derived.BigRegion
namespace Go.Proofs.Ytoigapanhbmjlaa
open Go.RowKit

/-- What a vector says takes bytes. -/
theorem vec_room {k : Int} {l l2 : List UInt8} {v : Msg} (h : vecAt k l = .row v l2) : v.ws.length + 3 * l2.length ≤ 3 * l.length ∧ v.all.length + l2.length ≤ l.length ∧ v.ws.length ≤ 8191 ∧ v.all.length ≤ 1 := by
  unfold vecAt at h
  split at h
  · cases h
  split at h
  · cases h
  split at h
  · cases h
  split at h
  · cases h
  split at h
  · rename_i _ _ _ h2 _
    injection h with h3 h4
    subst h3 h4
    rw [List.length_drop] at h2 ⊢
    have e1 : ∀ (x y : Nat) (z : List UInt8), (wordsOf k (num (l.take 2) % 8192) x y z).length = num (l.take 2) % 8192 := fun x y z => by simp [wordsOf]
    simp only [sayOf]
    rw [e1]
    have e2 : (if 8192 ≤ num (l.take 2) then [k] else ([] : List Int)).length ≤ 1 := by split <;> simp
    unfold sz at *
    omega
  · cases h

/-- The blocks of a slice that lie among those that were there are within a footprint. -/
def In (ft : Nat → Prop) (w : World) (v : Value) : Prop := ∀ j, v.ownBlock = some j → j < w.heap.size → ft j
theorem Touch.grow {ft : Nat → Prop} {w wr w1 : World} {v : Value} (h : Touch ft w wr) (hi : In ft w v) (hg : wr.grownBy w1 v.ownBlock) : Touch ft w w1 :=
  ⟨hg.os.trans h.os, hg.tape.trans h.tape, hg.output.trans h.output, Nat.le_trans h.size hg.size, fun k hk hp => (hg.block k (Nat.lt_of_lt_of_le hk h.size) (fun e => hp (hi k e.symm hk))).trans (h.block k hk hp)⟩
theorem In.moved {ft : Nat → Prop} {w wr : World} {v v' : Value} (h : In ft w v) (hm : Moved wr v v') (hs : w.heap.size ≤ wr.heap.size) : In ft w v' := fun j hj hl => by
  rcases hm with hm | ⟨k, hk, hm⟩
  · exact h j (hm.symm.trans hj) hl
  · rw [hm] at hj
    injection hj with hj
    omega

/-- The state of a part's reading. -/
structure PS (w wr : World) (base g : Nat) (ft : Nat → Prop) (A A' : Option Addr) (c c' : Nat) (p : Msg) (o : Option (List UInt8)) : Prop where
  pb : Blk wr w.heap.size 25 #[.slice A p.all.length c, .slice A' p.ws.length c']
  rb : Blk wr (w.heap.size + 1) 25 #[.slice none 0 0, .slice none 0 0]
  oi : OwnI wr base A c p.all
  ow : OwnW wr base A' c' p.ws
  rd : RdO wr g o
  tc : Touch ft w wr
  ii : In ft w (.slice A p.all.length c)
  iw : In ft w (.slice A' p.ws.length c')
  gl : g < w.heap.size
  fg : ft g
section
variable {w wr w1 : World} {base g : Nat} {ft : Nat → Prop} {A A' : Option Addr} {c c' : Nat} {p : Msg} {o o1 : Option (List UInt8)}
theorem rd_blk (h : RdO wr g o) : ∃ cs, Blk wr g 79 cs := by
  obtain ⟨r, hr, _⟩ := h
  exact ⟨_, hr⟩
theorem PS.read (h : PS w wr base g ft A A' c c' p o) (ht : Touch (· = g) wr w1) (hr : RdO w1 g o1) : PS w w1 base g ft A A' c c' p o1 := by
  obtain ⟨cs, hb⟩ := rd_blk h.rd
  have hl := h.gl
  exact ⟨h.pb.touch ht (by omega), h.rb.touch ht (by omega), ownsRow_touch h.oi ht (fun k hk e => own_ne h.oi hb (by decide) (by rw [hk, e])), ownsRow_touch h.ow ht (fun k hk e => own_ne h.ow hb (by decide) (by rw [hk, e])), hr,
    h.tc.trans (ht.mono fun k _ e => by have e' : k = g := e; subst e'; exact h.fg), h.ii, h.iw, h.gl, h.fg⟩
theorem own_below {e : TypeId} {size n : Nat} {v : Value} {xs : List Value} (h : wr.ownsRow base e size v n xs) (hb : Below wr.heap.size wr w1) : w1.ownsRow base e size v n xs :=
  ownsRow_touch h (Below.touch hb) (fun k hk hp => by have h1 := (World.ownsRow.lt h k hk).2; have h2 : wr.heap.size ≤ k := hp; omega)
theorem PS.on (h : PS w wr base g ft A A' c c' p o) (hb : Below wr.heap.size wr w1) : PS w w1 base g ft A A' c c' p o :=
  ⟨h.pb.below hb h.pb.lt, h.rb.below hb h.rb.lt, own_below h.oi hb, own_below h.ow hb, h.rd.below hb h.rd.lt,
    h.tc.trans ((Below.touch hb).mono fun k hk hp => by have h2 : wr.heap.size ≤ k := hp; omega), h.ii, h.iw, h.gl, h.fg⟩
theorem PS.all (h : PS w wr base g ft A A' c c' p o) {qa : List Int} {a : Option Addr} {d : Nat} (ho : OwnI w1 base a d qa) (hg : wr.grownBy w1 (Value.slice A p.all.length c).ownBlock) (hm : Moved wr (.slice A p.all.length c) (.slice a qa.length d)) :
    PS w (w1.setCell ⟨w.heap.size, 0, none⟩ (.slice a qa.length d)) base g ft a A' d c' ⟨qa, p.ws⟩ o := by
  obtain ⟨cs, hb⟩ := rd_blk h.rd
  have tg := Touch.of_grown hg
  have pb1 : Blk w1 w.heap.size 25 _ := h.pb.touch tg (fun e => own_ne h.oi h.pb (by decide) e)
  have tb : Touch (· = w.heap.size) w1 (w1.setCell ⟨w.heap.size, 0, none⟩ (.slice a qa.length d)) := Touch.set_ (p := (· = w.heap.size)) (Touch.refl _ _) (fun _ => rfl) _
  have ow1 : OwnW w1 base A' c' p.ws := ownsRow_touch h.ow tg (fun k hk e => own_own h.ow h.oi (by decide) e hk)
  have hl := h.gl
  exact ⟨Blk.set_ pb1 0 _, (h.rb.touch tg (fun e => own_ne h.oi h.rb (by decide) e)).far (by show w.heap.size + 1 ≠ w.heap.size; omega) _,
    ownsRow_touch ho tb (fun k hk e => own_ne ho pb1 (by decide) (by rw [hk, e])), ownsRow_touch ow1 tb (fun k hk e => own_ne ow1 pb1 (by decide) (by rw [hk, e])),
    (h.rd.touch tg (fun e => own_ne h.oi hb (by decide) e)).far (a := ⟨w.heap.size, 0, none⟩) (by show g ≠ w.heap.size; omega) _, (h.tc.grow h.ii hg).set_ (a := ⟨w.heap.size, 0, none⟩) (fun h => absurd h (Nat.lt_irrefl _)) _, h.ii.moved hm h.tc.size, h.iw, h.gl, h.fg⟩
theorem PS.words (h : PS w wr base g ft A A' c c' p o) {qw : List Wd} {a : Option Addr} {d : Nat} (ho : OwnW w1 base a d qw) (hg : wr.grownBy w1 (Value.slice A' p.ws.length c').ownBlock) (hm : Moved wr (.slice A' p.ws.length c') (.slice a qw.length d)) :
    PS w (w1.setCell ⟨w.heap.size, 1, none⟩ (.slice a qw.length d)) base g ft A a c d ⟨p.all, qw⟩ o := by
  obtain ⟨cs, hb⟩ := rd_blk h.rd
  have tg := Touch.of_grown hg
  have pb1 : Blk w1 w.heap.size 25 _ := h.pb.touch tg (fun e => own_ne h.ow h.pb (by decide) e)
  have tb : Touch (· = w.heap.size) w1 (w1.setCell ⟨w.heap.size, 1, none⟩ (.slice a qw.length d)) := Touch.set_ (p := (· = w.heap.size)) (Touch.refl _ _) (fun _ => rfl) _
  have oi1 : OwnI w1 base A c p.all := ownsRow_touch h.oi tg (fun k hk e => own_own h.oi h.ow (by decide) e hk)
  have hl := h.gl
  exact ⟨Blk.set_ pb1 1 _, (h.rb.touch tg (fun e => own_ne h.ow h.rb (by decide) e)).far (by show w.heap.size + 1 ≠ w.heap.size; omega) _,
    ownsRow_touch oi1 tb (fun k hk e => own_ne oi1 pb1 (by decide) (by rw [hk, e])), ownsRow_touch ho tb (fun k hk e => own_ne ho pb1 (by decide) (by rw [hk, e])),
    (h.rd.touch tg (fun e => own_ne h.ow hb (by decide) e)).far (a := ⟨w.heap.size, 1, none⟩) (by show g ≠ w.heap.size; omega) _, (h.tc.grow h.iw hg).set_ (a := ⟨w.heap.size, 1, none⟩) (fun h => absurd h (Nat.lt_irrefl _)) _, h.ii, h.iw.moved hm h.tc.size, h.gl, h.fg⟩
theorem PS.res (h : PS w wr base g ft A A' c c' p o) (X Y : Value) :
    Blk (((wr.setCell ⟨w.heap.size + 1, 0, none⟩ X).setCell ⟨w.heap.size + 1, 1, none⟩ Y).drew) (w.heap.size + 1) 25 #[X, Y] ∧ OwnI (((wr.setCell ⟨w.heap.size + 1, 0, none⟩ X).setCell ⟨w.heap.size + 1, 1, none⟩ Y).drew) base A c p.all ∧ OwnW (((wr.setCell ⟨w.heap.size + 1, 0, none⟩ X).setCell ⟨w.heap.size + 1, 1, none⟩ Y).drew) base A' c' p.ws ∧
      RdO (((wr.setCell ⟨w.heap.size + 1, 0, none⟩ X).setCell ⟨w.heap.size + 1, 1, none⟩ Y).drew) g o ∧ Touch ft w (((wr.setCell ⟨w.heap.size + 1, 0, none⟩ X).setCell ⟨w.heap.size + 1, 1, none⟩ Y).drew) := by
  have tb : Touch (· = w.heap.size + 1) wr ((wr.setCell ⟨w.heap.size + 1, 0, none⟩ X).setCell ⟨w.heap.size + 1, 1, none⟩ Y) := Touch.set_ (p := (· = w.heap.size + 1)) (Touch.set_ (p := (· = w.heap.size + 1)) (Touch.refl _ _) (fun _ => rfl) _) (fun _ => rfl) _
  have hl := h.gl
  have e1 : OwnI ((wr.setCell ⟨w.heap.size + 1, 0, none⟩ X).setCell ⟨w.heap.size + 1, 1, none⟩ Y) base A c p.all := ownsRow_touch h.oi tb (fun k hk e => own_ne h.oi h.rb (by decide) (by rw [hk, e]))
  have e2 : OwnW ((wr.setCell ⟨w.heap.size + 1, 0, none⟩ X).setCell ⟨w.heap.size + 1, 1, none⟩ Y) base A' c' p.ws := ownsRow_touch h.ow tb (fun k hk e => own_ne h.ow h.rb (by decide) (by rw [hk, e]))
  have e3 : RdO ((wr.setCell ⟨w.heap.size + 1, 0, none⟩ X).setCell ⟨w.heap.size + 1, 1, none⟩ Y) g o := h.rd.touch tb (by omega)
  exact ⟨Blk.set_ (Blk.set_ h.rb 0 X) 1 Y, e1, e2, e3, ((h.tc.set_ (a := ⟨w.heap.size + 1, 0, none⟩) (fun h => absurd h (by show ¬ w.heap.size + 1 < _; omega)) _).set_ (a := ⟨w.heap.size + 1, 1, none⟩) (fun h => absurd h (by show ¬ w.heap.size + 1 < _; omega)) _).drew⟩
theorem PS.res0 (h : PS w wr base g ft A A' c c' p o) (X Y : Value) :
    Blk ((wr.setCell ⟨w.heap.size + 1, 0, none⟩ X).setCell ⟨w.heap.size + 1, 1, none⟩ Y) (w.heap.size + 1) 25 #[X, Y] ∧ Touch ft w ((wr.setCell ⟨w.heap.size + 1, 0, none⟩ X).setCell ⟨w.heap.size + 1, 1, none⟩ Y) := by
  obtain ⟨f0, _, _, _, f4⟩ := h.res X Y
  exact ⟨f0, ⟨f4.os, f4.tape, f4.output, f4.size, f4.block⟩⟩
end
theorem WordsAt.same {w w' : World} {B : Nat} {A : Option Addr} {l : List Wd} (h : WordsAt w B A l) (hb : ∀ x, A = some x → x.block < B → w'.heap[x.block]? = w.heap[x.block]?) : WordsAt w' B A l := fun k hk => by
  obtain ⟨b, off, rfl, hl, h0, h1, h2, h3⟩ := h k hk
  have e := hb _ rfl hl
  have hc : ∀ j, w'.cell? ⟨b, j, none⟩ = w.cell? ⟨b, j, none⟩ := fun j => World.cell?_of_block (a := ⟨b, j, none⟩) e
  exact ⟨b, off, rfl, hl, (hc _).trans h0, (hc _).trans h1, (hc _).trans h2, (hc _).trans h3⟩
theorem say_len (k : Int) (m value born : Nat) (ev : List UInt8) : (sayOf k m value born ev).all.length ≤ 1 ∧ (sayOf k m value born ev).ws.length = m % 8192 := by
  unfold sayOf
  refine ⟨by simp only; split <;> simp, by simp [wordsOf]⟩
/-- What lies at the head of a row, whoever goes on behind it. -/
def Lies (w : World) (t : TypeId) (v : Value) (xs : List Value) : Prop := ∀ k, v.ownBlock = some k → ∃ cur, Blk w k t cur ∧ cur.toList.take xs.length = xs
theorem Lies.of_own {w : World} {base : Nat} {e : TypeId} {size n : Nat} {v : Value} {xs : List Value} (h : w.ownsRow base e size v n xs) : Lies w e v xs := by
  intro k hk
  rcases h.2 with ⟨rfl, _⟩ | ⟨g, cap, cur, rfl, _, hg, _, _, _, ht⟩
  · simp [Value.ownBlock] at hk
  · have : g = k := by simpa [Value.ownBlock] using hk
    subst this
    exact ⟨cur, hg, by rw [h.1]; exact ht⟩
theorem Lies.ne {w : World} {t t' : TypeId} {v : Value} {xs : List Value} {g : Nat} {cs : Array Value} (h : Lies w t v xs) (hb : Blk w g t' cs) (ht : t' ≠ t) : v.ownBlock ≠ some g := by
  intro e
  obtain ⟨cur, hc, _⟩ := h g e
  unfold Blk at hc hb
  rw [hc] at hb
  injection hb with hb
  injection hb with _ hb
  exact ht hb.symm
theorem Lies.touch {w w1 : World} {t : TypeId} {v : Value} {xs : List Value} {q : Nat → Prop} (h : Lies w t v xs) (ht : Touch q w w1) (hq : ∀ k, v.ownBlock = some k → ¬ q k) : Lies w1 t v xs := by
  intro k hk
  obtain ⟨cur, hb, h2⟩ := h k hk
  exact ⟨cur, hb.touch ht (hq k hk), h2⟩
/-- The message that came stays readable, whatever is put behind it. -/
structure Keep (wr : World) (v v' : Value) (p p1 : Msg) : Prop where
  li : Lies wr 3 v (intsL p.all)
  lw : Lies wr 43 v' (wordsL p.ws)
  pi : p.all <+: p1.all
  pw : p.ws <+: p1.ws
section
variable {wr w1 : World} {v v' : Value} {p p1 : Msg}
theorem Keep.one (h : Keep wr v v' p p1) {g : Nat} {t : TypeId} {cs : Array Value} (hb : Blk wr g t cs) (ht1 : t ≠ 3) (ht2 : t ≠ 43) (ht : Touch (· = g) wr w1) : Keep w1 v v' p p1 :=
  ⟨h.li.touch ht (fun k hk e => h.li.ne hb ht1 (by rw [hk, e])), h.lw.touch ht (fun k hk e => h.lw.ne hb ht2 (by rw [hk, e])), h.pi, h.pw⟩
theorem Keep.on (h : Keep wr v v' p p1) (hb : Below wr.heap.size wr w1) : Keep w1 v v' p p1 :=
  ⟨h.li.touch (Below.touch hb) (fun k hk hp => by obtain ⟨cur, hc, _⟩ := h.li k hk; have := hc.lt; have h2 : wr.heap.size ≤ k := hp; omega),
    h.lw.touch (Below.touch hb) (fun k hk hp => by obtain ⟨cur, hc, _⟩ := h.lw k hk; have := hc.lt; have h2 : wr.heap.size ≤ k := hp; omega), h.pi, h.pw⟩
theorem Keep.row {base : Nat} {t : TypeId} {size n n5 : Nat} {x y z : Value} {xs x5 zs : List Value} (h : Lies wr t z zs) (_ho : wr.ownsRow base t size x n xs) (ho5 : w1.ownsRow base t size y n5 x5) (hg : wr.grownBy w1 x.ownBlock)
    (hk5 : ∀ k, x.ownBlock = some k → y.ownBlock ≠ some k → w1.heap[k]? = wr.heap[k]?) (hp : zs <+: x5) : Lies w1 t z zs := by
  intro k hk
  obtain ⟨cur, hb, ht⟩ := h k hk
  by_cases e : x.ownBlock = some k
  · by_cases e5 : y.ownBlock = some k
    · obtain ⟨cur5, hb5, ht5⟩ := Lies.of_own ho5 k e5
      refine ⟨cur5, hb5, ?_⟩
      obtain ⟨r, hr⟩ := hp
      have hlen : zs.length ≤ x5.length := by rw [← hr]; simp
      have : cur5.toList.take zs.length = (cur5.toList.take x5.length).take zs.length := by rw [List.take_take, Nat.min_eq_left hlen]
      rw [this, ht5, ← hr, List.take_left]
    · exact ⟨cur, (hk5 k e e5).trans hb, ht⟩
  · exact ⟨cur, (hg.block k hb.lt (fun h => e h.symm)).trans hb, ht⟩
theorem Keep.all {base : Nat} {A1 a5 : Option Addr} {c1 c5 : Nat} {qa : List Int} (h : Keep wr v v' p p1) (ho : OwnI wr base A1 c1 p1.all) (ho5 : OwnI w1 base a5 c5 qa) (hg : wr.grownBy w1 (Value.slice A1 p1.all.length c1).ownBlock)
    (hk5 : ∀ k, (Value.slice A1 p1.all.length c1).ownBlock = some k → (Value.slice a5 qa.length c5).ownBlock ≠ some k → w1.heap[k]? = wr.heap[k]?) (hp : p1.all <+: qa) : Keep w1 v v' p ⟨qa, p1.ws⟩ := by
  have hpp : p.all <+: qa := h.pi.trans hp
  have hpi : intsL p.all <+: intsL qa := by obtain ⟨r, hr⟩ := hpp; exact ⟨intsL r, by rw [← intsL_append, hr]⟩
  refine ⟨Keep.row h.li ho ho5 hg hk5 hpi, h.lw.touch (Touch.of_grown hg) (fun k hk e => ?_), hpp, h.pw⟩
  obtain ⟨cur, hb, _⟩ := h.lw k hk
  exact own_ne ho hb (by decide) e
theorem Keep.words {base : Nat} {A1 a5 : Option Addr} {c1 c5 : Nat} {qw : List Wd} (h : Keep wr v v' p p1) (ho : OwnW wr base A1 c1 p1.ws) (ho5 : OwnW w1 base a5 c5 qw) (hg : wr.grownBy w1 (Value.slice A1 p1.ws.length c1).ownBlock)
    (hk5 : ∀ k, (Value.slice A1 p1.ws.length c1).ownBlock = some k → (Value.slice a5 qw.length c5).ownBlock ≠ some k → w1.heap[k]? = wr.heap[k]?) (hp : p1.ws <+: qw) : Keep w1 v v' p ⟨p1.all, qw⟩ := by
  have hpp : p.ws <+: qw := h.pw.trans hp
  have hpi : wordsL p.ws <+: wordsL qw := by obtain ⟨r, hr⟩ := hpp; exact ⟨wordsL r, by rw [← wordsL_append, hr]⟩
  refine ⟨h.li.touch (Touch.of_grown hg) (fun k hk e => ?_), Keep.row h.lw ho ho5 hg hk5 hpi, h.pi, hpp⟩
  obtain ⟨cur, hb, _⟩ := h.li k hk
  exact own_ne ho hb (by decide) e
end
theorem Lies.ints {w w0 : World} {base c : Nat} {A : Option Addr} {l : List Int} (h0 : OwnI w0 base A c l) (h : Lies w 3 (.slice A l.length c) (intsL l)) : IntsAt w w.heap.size A l := fun k hk => by
  obtain ⟨b, rfl, hl, hc⟩ := own_at h0 (by omega)
  obtain ⟨cur, hb, ht⟩ := h b rfl
  refine ⟨b, 0, rfl, hb.lt, ?_⟩
  have h1 := intsL_at l k hk
  rw [← ht, List.getElem?_take] at h1
  split at h1
  · rw [Nat.zero_add, hb.cell, ← Array.getElem?_toList]; exact h1
  · cases h1
theorem Lies.words {w w0 : World} {base c : Nat} {A : Option Addr} {l : List Wd} (h0 : OwnW w0 base A c l) (h : Lies w 43 (.slice A l.length c) (wordsL l)) : WordsAt w w.heap.size A l := fun k hk => by
  obtain ⟨b, rfl, hl, hc⟩ := own_at h0 (by omega)
  obtain ⟨cur, hb, ht⟩ := h b rfl
  have hh : ∀ j, j < 4 → w.cell? ⟨b, 0 + k * 4 + j, none⟩ = (wcell (l.getD k wd0))[j]? := fun j hj => by
    have h1 := wordsL_at l k hk j hj
    rw [← ht, List.getElem?_take] at h1
    rw [if_pos (by rw [wordsL_length]; omega)] at h1
    rw [Nat.zero_add, hb.cell, ← Array.getElem?_toList]
    exact h1
  exact ⟨b, 0, rfl, hb.lt, hh 0 (by omega), hh 1 (by omega), hh 2 (by omega), hh 3 (by omega)⟩
/-- How far a reader has to go. -/
def rdM (g : Nat) (w : World) : Nat :=
  match w.cell? ⟨g, 0, none⟩, w.cell? ⟨g, 1, none⟩, w.cell? ⟨g, 2, none⟩ with
  | some (.string s), some (.int _ a), some (.bool b) => if b then 0 else s.size - a.toNat + 1
  | _, _, _ => 0
def oM : Option (List UInt8) → Nat
  | some l => l.length + 1
  | none => 0
theorem rdM_is {w : World} {g : Nat} {o : Option (List UInt8)} (h : RdO w g o) : rdM g w = oM o := by
  obtain ⟨r, hr, hok, ho⟩ := h
  unfold rdM oM
  rw [hr.c0, hr.c1, hr.c2]
  cases o with
  | none => simp only at ho; simp [ho]
  | some l =>
    simp only at ho
    have hll : l.length = r.s.size - r.at_ := by rw [← ho.2]; simp
    simp [ho.1, hll]

set_option maxHeartbeats 1000000 in
theorem part_odd (g : Nat) (k z : Int) (X Y : Value) (w : World) (h : (vs k : Int) = 0 ∨ (vs k : Int) ≠ z) :
    Calls Try.prog 36 #[.pointer (some ⟨g, 0, none⟩), .agg #[X, Y], .int .i64 k, .int .i64 z] w fun e w' => e = .returned (.tuple #[.agg #[.slice none 0 0, .slice none 0 0], .bool false]) ∧ Below w.heap.size w w' := by
  have hb := Blk.new (w.alloc (.cells #[X, Y] 25)) 25 #[.slice none 0 0, .slice none 0 0]
  have hs : (w.alloc (.cells #[X, Y] 25)).heap.size = w.heap.size + 1 := by simp
  rw [hs] at hb
  have hbl := bel_alloc2 w (.cells #[X, Y] 25) (.cells #[.slice none 0 0, .slice none 0 0] 25)
  clear hs
  by_cases h0 : (vs k : Int) = 0
  · have H0 := Lib.hid h0
    clear h h0
    go_enter Try.func36, Try.ntmps36
    go_wp2_with (go_at_call 27; refine (vs_any k _).mono ?_; rw [H0.out]; rintro e w' ⟨rfl, rfl⟩)
    exact bodyPost_ret (presults_pair rfl _ _ (w.heap.size + 1) 25 _ rfl hb rfl) rfl ⟨rfl, hbl⟩
  · have hz : (vs k : Int) ≠ z := by rcases h with h | h; exact absurd h h0; exact h
    obtain ⟨q, hq⟩ : ∃ q : Int, (vs k : Int) = q := ⟨_, rfl⟩
    rw [hq] at h0 hz
    have HQ := Lib.hid hq
    have d1 : (q == 0) = false := by simpa using h0
    have d2 : (q != z) = true := by simpa using hz
    clear h h0 hz hq
    go_enter Try.func36, Try.ntmps36
    go_wp2_with (go_at_call 27; refine (vs_any k _).mono ?_; rw [HQ.out]; rintro e w' ⟨rfl, rfl⟩)
    exact bodyPost_ret (presults_pair rfl _ _ (w.heap.size + 1) 25 _ rfl hb rfl) rfl ⟨rfl, hbl⟩

/-- How a part's reading ends. -/
def PartEnd (R : Option (Msg × List UInt8)) (base g : Nat) (v v' : Value) (p : Msg) (e : Ending) (w' : World) : Prop :=
  (R = none ∧ ∃ X0 X1 X2 Y0 Y1 Y2, e = .returned (.tuple #[.agg #[.slice X0 X1 X2, .slice Y0 Y1 Y2], .bool false]) ∧ Keep w' v v' p p) ∨
  (∃ q l' A A' c c', R = some (q, l') ∧ e = .returned (.tuple #[.agg #[.slice A q.all.length c, .slice A' q.ws.length c'], .bool true]) ∧ OwnI w' base A c q.all ∧ OwnW w' base A' c' q.ws ∧ RdO w' g (some l'))
def olen : Option (List UInt8) → Nat
  | some l => l.length
  | none => 0
/-- What is still to be read of a part gives R. -/
def Goes (k : Int) (s : Bool) (p : Msg) (o : Option (List UInt8)) (R : Option (Msg × List UInt8)) : Prop :=
  match o with
  | some l => partLoop k s p l = R
  | none => R = none
theorem goes_zero {k : Int} {p : Msg} {s : Bool} {o : Option (List UInt8)} {R : Option (Msg × List UInt8)} (h : Goes k s p o R) (hm : num (takeO 2 o) = 0) :
    (dropO 2 o = none ∧ R = none) ∨ (s = true ∧ R = none) ∨ (s = false ∧ ∃ l', dropO 2 o = some l' ∧ R = some (p, l')) := by
  cases o with
  | none => exact .inl ⟨rfl, h⟩
  | some l =>
    unfold Goes at h
    simp only at h
    by_cases hl : 2 ≤ l.length
    · have e : vecAt k l = .stop (l.drop 2) := by
        unfold vecAt
        simp only [takeO, hl, ite_true] at hm
        rw [if_neg (by omega), if_pos hm]
      rw [part_stop e] at h
      cases s
      · exact .inr (.inr ⟨rfl, l.drop 2, by simp [dropO, hl], by rw [← h]; rfl⟩)
      · exact .inr (.inl ⟨rfl, by rw [← h]; rfl⟩)
    · left
      refine ⟨by simp [dropO, hl], ?_⟩
      rw [← h]
      exact part_bad (by unfold vecAt; rw [if_pos (by omega)]) _ _
/-- Behind the number of a vector. -/
theorem goes_more {k : Int} {p : Msg} {s : Bool} {o : Option (List UInt8)} {R : Option (Msg × List UInt8)} {m : Nat} (h : Goes k s p o R) (hm : num (takeO 2 o) = m) (h0 : m ≠ 0) :
    (16383 < m → R = none) ∧ (m ≤ 16383 → ∀ (o1 o2 o3 o4 : Option (List UInt8)) (value born : Nat) (ev : List UInt8), dropO 2 o = o1 → num (takeO (vs k) o1) = value → dropO (vs k) o1 = o2 → num (takeO 4 o2) = born → dropO 4 o2 = o3 → takeO (sz (m % 8192) 3) o3 = ev → dropO (sz (m % 8192) 3) o3 = o4 →
      (¬ vecOk m value born ev → R = none) ∧ (vecOk m value born ev → (¬ joinsP p (sayOf k m value born ev) → R = none) ∧ (joinsP p (sayOf k m value born ev) → Goes k false (p.app (sayOf k m value born ev)) o4 R ∧
        (o4 = none → m % 8192 = 0) ∧ (o4 ≠ none → olen o4 < olen o ∧ (sayOf k m value born ev).ws.length + 3 * olen o4 ≤ 3 * olen o ∧ (sayOf k m value born ev).all.length + olen o4 ≤ olen o)))) ∧ o ≠ none ∧ 2 ≤ olen o ∧ m < 65536 := by
  cases o with
  | none =>
    simp only [takeO] at hm
    exact absurd hm.symm h0
  | some l =>
    unfold Goes at h
    simp only at h
    by_cases hl : 2 ≤ l.length
    · simp only [takeO, hl, ite_true] at hm
      have hlt : m < 65536 := by
        have := num_lt (l.take 2)
        rw [hm, List.length_take, Nat.min_eq_left hl] at this
        exact this
      refine ⟨fun hf => ?_, fun hf o1 o2 o3 o4 value born ev e1 ev2 e2 e3 e4 e5 e6 => ?_, by simp, hl, hlt⟩
      · rw [← h]
        exact part_bad (by unfold vecAt; rw [if_neg (by omega), hm, if_neg h0, if_pos hf]) _ _
      · have a1 : o1 = some (l.drop 2) := by rw [← e1]; simp [dropO, hl]
        subst a1
        by_cases hs : (l.drop 2).length < vs k + 4 + sz (m % 8192) 3
        · have hb : R = none := by
            rw [← h]
            exact part_bad (by unfold vecAt; rw [if_neg (by omega), hm, if_neg h0, if_neg (by omega), if_pos hs]) _ _
          have h4 : o4 = none := by
            rw [List.length_drop] at hs
            rw [← e6, ← e4, ← e2]
            simp only [dropO, List.length_drop]
            by_cases q1 : vs k ≤ l.length - 2
            · simp only [q1, ite_true, List.length_drop]
              by_cases q2 : 4 ≤ l.length - 2 - vs k
              · simp only [q2, ite_true, List.length_drop]
                rw [if_neg (by omega)]
              · simp only [q2, ite_false]
            · simp only [q1, ite_false]
          subst h4
          exact ⟨fun _ => hb, fun hv => ⟨fun _ => hb, fun _ => ⟨hb, fun _ => by
            have h1 := hv.1.1
            have h2 : ev.length = 0 ∨ ev.length = sz (m % 8192) 3 ∧ dropO (sz (m % 8192) 3) o3 ≠ none := by
              rw [← e5]
              cases o3 with
              | none => simp [takeO]
              | some q =>
                simp only [takeO, dropO]
                split
                · right; simp; omega
                · left; rfl
            rcases h2 with h2 | ⟨_, h2⟩
            · unfold sz at h1; omega
            · exact absurd e6 h2, fun h => absurd rfl h⟩⟩⟩
        · have hs' := hs
          rw [List.length_drop] at hs'
          have a2 : o2 = some (l.drop (2 + vs k)) := by rw [← e2]; simp only [dropO, List.length_drop]; rw [if_pos (by omega), List.drop_drop]
          have a3 : o3 = some (l.drop (2 + vs k + 4)) := by rw [← e4, a2]; simp only [dropO, List.length_drop]; rw [if_pos (by omega), List.drop_drop]
          have a4 : o4 = some (l.drop (2 + vs k + 4 + sz (m % 8192) 3)) := by rw [← e6, a3]; simp only [dropO, List.length_drop]; rw [if_pos (by omega), List.drop_drop]
          have b1 : num ((l.drop 2).take (vs k)) = value := by rw [← ev2]; simp only [takeO, List.length_drop]; rw [if_pos (by omega)]
          have b2 : num ((l.drop (2 + vs k)).take 4) = born := by rw [← e3, a2]; simp only [takeO, List.length_drop]; rw [if_pos (by omega)]
          have b3 : (l.drop (2 + vs k + 4)).take (sz (m % 8192) 3) = ev := by rw [← e5, a3]; simp only [takeO, List.length_drop]; rw [if_pos (by omega)]
          by_cases hv : vecOk m value born ev
          · have hrow : vecAt k l = .row (sayOf k m value born ev) (l.drop (2 + vs k + 4 + sz (m % 8192) 3)) := by
              unfold vecAt
              rw [if_neg (by omega), hm, if_neg h0, if_neg (by omega), if_neg hs, b1, b2, b3, if_pos hv]
            rw [part_row hrow] at h
            refine ⟨fun hn => absurd hv hn, fun _ => ⟨fun hj => ?_, fun hj => ?_⟩⟩
            · rw [if_neg hj] at h; exact h.symm
            · rw [if_pos hj] at h
              subst a4
              have hr := vec_room hrow
              have hq := vec_row_lt hrow
              exact ⟨h, (fun h => nomatch h), fun _ => ⟨hq, hr.1, hr.2.1⟩⟩
          · have hbad : vecAt k l = .bad := by
              unfold vecAt
              rw [if_neg (by omega), hm, if_neg h0, if_neg (by omega), if_neg hs, b1, b2, b3, if_neg hv]
            have hb : R = none := by rw [← h]; exact part_bad hbad _ _
            exact ⟨fun _ => hb, fun h => absurd h hv⟩
    · simp only [takeO, hl, ite_false] at hm
      exact absurd hm.symm h0

set_option maxHeartbeats 8000000 in
set_option maxRecDepth 100000 in
theorem part_good (g : Nat) (k : Int) (base : Nat) (A A' : Option Addr) (c c' : Nat) (p : Msg) (l : List UInt8) (ft : Nat → Prop) (w : World) (hk : vs k ≠ 0) (hi : OwnI w base A c p.all) (hw : OwnW w base A' c' p.ws) (hr : RdO w g (some l)) (hg : ft g)
    (fi : ∀ j, (Value.slice A p.all.length c).ownBlock = some j → ft j) (fw : ∀ j, (Value.slice A' p.ws.length c').ownBlock = some j → ft j) (b1 : p.all.length + l.length ≤ 400000) (b2 : p.ws.length + 3 * l.length ≤ 400000) (hB : base ≤ w.heap.size) :
    Calls Try.prog 36 #[.pointer (some ⟨g, 0, none⟩), .agg #[.slice A p.all.length c, .slice A' p.ws.length c'], .int .i64 k, .int .i64 (vs k)] w fun e w' => PartEnd (partLoop k true p l) base g (.slice A p.all.length c) (.slice A' p.ws.length c') p e w' ∧ Touch ft w w' := by
  obtain ⟨R, hR⟩ : ∃ R, partLoop k true p l = R := ⟨_, rfl⟩
  rw [hR]
  have HG : Hid (Goes k true p (some l) R) := Lib.hid hR
  clear hR
  have HK := Lib.hid hk
  obtain ⟨z, hz⟩ : ∃ z : Int, (vs k : Int) = z := ⟨_, rfl⟩
  have hz0 : (z == 0) = false := by have := hk; simp; omega
  have hzz : (z != z) = false := by simp
  have HZ := Lib.hid hz
  rw [hz]
  have hps : PS w ((w.alloc (.cells #[.slice A p.all.length c, .slice A' p.ws.length c'] 25)).alloc (.cells #[.slice none 0 0, .slice none 0 0] 25)) base g ft A A' c c' p (some l) :=
    ⟨(Blk.new w _ _).alloc _, by have := Blk.new (w.alloc (.cells #[.slice A p.all.length c, .slice A' p.ws.length c'] 25)) 25 #[.slice none 0 0, .slice none 0 0]; rwa [show (w.alloc (.cells #[.slice A p.all.length c, .slice A' p.ws.length c'] 25)).heap.size = w.heap.size + 1 from by simp] at this,
      World.ownsRow.alloc (World.ownsRow.alloc hi _) _, World.ownsRow.alloc (World.ownsRow.alloc hw _) _, (hr.alloc _).alloc _, ((Touch.refl ft w).alloc _).alloc _, fun j hj _ => fi j hj, fun j hj _ => fw j hj, hr.lt, hg⟩
  have hks : Keep ((w.alloc (.cells #[.slice A p.all.length c, .slice A' p.ws.length c'] 25)).alloc (.cells #[.slice none 0 0, .slice none 0 0] 25)) (.slice A p.all.length c) (.slice A' p.ws.length c') p p := (Keep.mk (Lies.of_own hi) (Lies.of_own hw) (List.prefix_refl _) (List.prefix_refl _)).on (bel_alloc2 w _ _)
  clear hk hi hw hr hz fi fw
  go_enter Try.func36, Try.ntmps36
  go_wp2_with (go_at_call 27; refine (vs_any k _).mono ?_; rw [HZ.out]; rintro e w' ⟨rfl, rfl⟩)
  generalize (w.alloc (.cells #[.slice A p.all.length c, .slice A' p.ws.length c'] 25)).alloc (.cells #[.slice none 0 0, .slice none 0 0] 25) = W at *
  go_loopw [10] (fun sv wr => ∃ (A1 A1' : Option Addr) (c1 c1' : Nat) (p1 : Msg) (o : Option (List UInt8)) (s : Bool), sv = .bool s ∧ PS w wr base g ft A1 A1' c1 c1' p1 o ∧ Keep wr (.slice A p.all.length c) (.slice A' p.ws.length c') p p1 ∧ p1.all.length + olen o ≤ 400000 ∧ p1.ws.length + 3 * olen o ≤ 400000 ∧ Hid (Goes k s p1 o R)) (fun _ wr => rdM g wr)
  case atStart => exact ⟨A, A', c, c', p, some l, true, rfl, hps, hks, b1, b2, HG⟩
  case round =>
    clear hps hks b1 b2 HG
    obtain ⟨A1, A1', c1, c1', p1, o, s, rfl, ps, ks, b1, b2, HG⟩ := hrel
    have hB1 : base ≤ wr.heap.size := Nat.le_trans hB ps.tc.size
    go_wp2_with fail
    refine (rget g o 2 _ ps.rd (by omega) (by omega)).mono ?_
    obtain ⟨m, hm⟩ : ∃ m, num (takeO 2 o) = m := ⟨_, rfl⟩
    obtain ⟨o1, ho1⟩ : ∃ o1, dropO 2 o = o1 := ⟨_, rfl⟩
    rw [hm, ho1]
    rintro e w1 ⟨rfl, hr1, t1⟩
    have ps1 := ps.read t1 hr1
    obtain ⟨csr, hbr⟩ := rd_blk ps.rd
    have ks1 := ks.one hbr (by decide) (by decide) t1
    clear ks hbr
    have hs1 := t1.size
    clear hr1 t1
    by_cases h0 : m = 0
    · subst h0
      have hz := goes_zero HG.out hm
      rw [ho1] at hz
      have HZ3 := Lib.hid hz
      clear hz hm ho1 HG
      have k0 : w1.cell? ⟨w.heap.size, 0, none⟩ = some (.slice A1 p1.all.length c1) := ps1.pb.cell 0
      have k1 : w1.cell? ⟨w.heap.size, 1, none⟩ = some (.slice A1' p1.ws.length c1') := ps1.pb.cell 1
      have r0 : w1.cell? ⟨w.heap.size + 1, 0, none⟩ = some (.slice none 0 0) := ps1.rb.cell 0
      have r1 : w1.cell? ⟨w.heap.size + 1, 1, none⟩ = some (.slice none 0 0) := ps1.rb.cell 1
      have y0 := ps1.rb.frozen 0
      have y1 := ps1.rb.frozen 1
      obtain ⟨f0, f1, f2, f3, f4⟩ := ps1.res (.slice A1 p1.all.length c1) (.slice A1' p1.ws.length c1')
      have kz : ∀ X Y, Keep ((w1.setCell ⟨w.heap.size + 1, 0, none⟩ X).setCell ⟨w.heap.size + 1, 1, none⟩ Y) (.slice A p.all.length c) (.slice A' p.ws.length c') p p := fun X Y => ((Keep.mk ks1.li ks1.lw (List.prefix_refl _) (List.prefix_refl _) : Keep _ _ _ p p)).one ps1.rb (by decide) (by decide) (Touch.set_ (p := (· = w.heap.size + 1)) (Touch.set_ (p := (· = w.heap.size + 1)) (Touch.refl _ _) (fun _ => rfl) _) (fun _ => rfl) _)
      have KZ := Lib.hid (kz (.slice A1 p1.all.length c1) (.slice A1' p1.ws.length c1'))
      clear kz
      cases s
      · rcases HZ3.out with ⟨e0, eR⟩ | ⟨e0, _⟩ | ⟨_, l', e0, eR⟩
        · subst e0
          have HR := Lib.hid eR
          clear eR
          go_wp2_with fail
          go_region_law ((go_simp; go_at_call 34; refine (rfault_none g (World.drew w1) ps1.rd).mono ?_; rintro e wa ⟨q, rfl, rfl⟩; have hq : decide ((q : Int) < 0) = false := by simp))
          all_goals
            go_wp2_with fail
            exact bodyPost_ret (presults_pair rfl _ _ (w.heap.size + 1) 25 _ rfl f0 rfl) rfl ⟨.inl ⟨HR.out, _, _, _, _, _, _, rfl, ⟨KZ.out.li, KZ.out.lw, KZ.out.pi, KZ.out.pw⟩⟩, f4⟩
        · cases e0
        · subst e0
          have HR := Lib.hid eR
          clear eR
          go_wp2_with fail
          go_region_law ((go_simp; go_at_call 34; refine (rfault_some g l' (World.drew w1) ps1.rd).mono ?_; rintro e wa ⟨rfl, rfl⟩))
          all_goals
            go_wp2_with fail
            exact bodyPost_ret (presults_pair rfl _ _ (w.heap.size + 1) 25 _ rfl f0 rfl) rfl ⟨.inr ⟨_, _, _, _, _, _, HR.out, rfl, f1, f2, f3⟩, f4⟩
      · have HR : Hid (R = none) := Lib.hid (by rcases HZ3.out with ⟨_, eR⟩ | ⟨_, eR⟩ | ⟨e0, _⟩; exact eR; exact eR; cases e0)
        go_wp2_with fail
        go_big_region
        all_goals
          go_wp2_with fail
          exact bodyPost_ret (presults_pair rfl _ _ (w.heap.size + 1) 25 _ rfl f0 rfl) rfl ⟨.inl ⟨HR.out, _, _, _, _, _, _, rfl, ⟨KZ.out.li, KZ.out.lw, KZ.out.pi, KZ.out.pw⟩⟩, f4⟩
    · obtain ⟨G1, G2, G3, G5, G4⟩ := goes_more HG.out hm h0
      have hrd := rdM_is ps.rd
      have dm : ((m : Int) == 0) = false := by simp; omega
      have G1h := Lib.hid G1
      have G2h := Lib.hid G2
      have G3h := Lib.hid G3
      have G5h := Lib.hid G5
      have HRD := Lib.hid hrd
      have hm64 : m < 65536 := G4
      clear G1 G2 G3 G4 G5 hrd hm HG
      have r0 : w1.cell? ⟨w.heap.size + 1, 0, none⟩ = some (.slice none 0 0) := ps1.rb.cell 0
      by_cases hf : 16383 < m
      · have HR := Lib.hid (G1h.out hf)
        go_wp2_with fail
        refine (vec_far g k m _ hf).mono ?_
        rintro e w2 ⟨rfl, bb2⟩
        have ps2 := ps1.on bb2
        have ps3 := ps2.on (bel_alloc w2 (.cells #[.slice none 0 0, .slice none 0 0] 25))
        obtain ⟨f0, f4⟩ := ps3.res0 (.slice none 0 0) (.slice none 0 0)
        have ks3 := (ks1.on bb2).on (bel_alloc w2 (.cells #[.slice none 0 0, .slice none 0 0] 25))
        have kz : ∀ X Y, Keep (((w2.alloc (.cells #[.slice none 0 0, .slice none 0 0] 25)).setCell ⟨w.heap.size + 1, 0, none⟩ X).setCell ⟨w.heap.size + 1, 1, none⟩ Y) (.slice A p.all.length c) (.slice A' p.ws.length c') p p := fun X Y => ((Keep.mk ks3.li ks3.lw (List.prefix_refl _) (List.prefix_refl _) : Keep _ _ _ p p)).one ps3.rb (by decide) (by decide) (Touch.set_ (p := (· = w.heap.size + 1)) (Touch.set_ (p := (· = w.heap.size + 1)) (Touch.refl _ _) (fun _ => rfl) _) (fun _ => rfl) _)
        have KZ := Lib.hid (kz (.slice none 0 0) (.slice none 0 0))
        clear kz
        have hq0 := ps3.rb.cell 0
        have hq1 := ps3.rb.cell 1
        have y0 := ps3.rb.frozen 0
        have y1 := ps3.rb.frozen 1
        simp only [List.getElem?_toArray, List.getElem?_cons_zero, List.getElem?_cons_succ] at hq0 hq1
        go_wp2_with fail
        exact bodyPost_ret (presults_pair rfl _ _ (w.heap.size + 1) 25 _ rfl f0 rfl) rfl ⟨.inl ⟨HR.out, _, _, _, _, _, _, rfl, ⟨KZ.out.li, KZ.out.lw, KZ.out.pi, KZ.out.pw⟩⟩, f4⟩
      · obtain ⟨value, hvv⟩ : ∃ q, num (takeO (vs k) o1) = q := ⟨_, rfl⟩
        obtain ⟨o2, ho2⟩ : ∃ q, dropO (vs k) o1 = q := ⟨_, rfl⟩
        obtain ⟨born, hbb⟩ : ∃ q, num (takeO 4 o2) = q := ⟨_, rfl⟩
        obtain ⟨o3, ho3⟩ : ∃ q, dropO 4 o2 = q := ⟨_, rfl⟩
        obtain ⟨ev, hev⟩ : ∃ q, takeO (sz (m % 8192) 3) o3 = q := ⟨_, rfl⟩
        obtain ⟨o4, ho4⟩ : ∃ q, dropO (sz (m % 8192) 3) o3 = q := ⟨_, rfl⟩
        obtain ⟨J1, J2⟩ := G2h.out (by omega) o1 o2 o3 o4 value born ev ho1 hvv ho2 hbb ho3 hev ho4
        have hsl := say_len k m value born ev
        have HV := Lib.hid (vec_near g k m (m % 8192) value born o1 o2 o3 o4 ev w1 ps1.rd HK.out h0 (by omega) rfl hvv ho2 hbb ho3 hev ho4)
        generalize sayOf k m value born ev = u at *
        have J1h := Lib.hid J1
        have J2h := Lib.hid J2
        have HSL := Lib.hid hsl.2
        have hal1 := hsl.1
        have hws1 : u.ws.length ≤ 8191 := by have := hsl.2; omega
        clear J1 J2 ho1 hvv ho2 hbb ho3 hev ho4 hsl G1h G2h
        go_wp2_with fail
        refine HV.out.mono ?_
        rintro e w2 ⟨hend, hr2, t2⟩
        have ps2 := ps1.read t2 hr2
        obtain ⟨csr2, hbr2⟩ := rd_blk ps1.rd
        have ks2 := ks1.one hbr2 (by decide) (by decide) t2
        have hs2 := t2.size
        clear hr2 t2
        rcases hend with ⟨hok, V, V', d, d', rfl, hv, hv', nv, nv', hfresh⟩ | ⟨hok, rfl⟩
        · have HJ := Lib.hid (J2h.out hok)
          clear hok J1h J2h
          have ks3 := ks2.on (bel_alloc w2 (.cells #[.slice V u.all.length d, .slice V' u.ws.length d'] 25))
          have ps3 := ps2.on (bel_alloc w2 (.cells #[.slice V u.all.length d, .slice V' u.ws.length d'] 25))
          have vb3 := Blk.new w2 25 #[.slice V u.all.length d, .slice V' u.ws.length d']
          have hv3 := (hv.below (bel_alloc w2 (.cells #[.slice V u.all.length d, .slice V' u.ws.length d'] 25))).more (B' := (w2.alloc (.cells #[.slice V u.all.length d, .slice V' u.ws.length d'] 25)).heap.size) (by simp)
          have hv3' := (hv'.below (bel_alloc w2 (.cells #[.slice V u.all.length d, .slice V' u.ws.length d'] 25))).more (B' := (w2.alloc (.cells #[.slice V u.all.length d, .slice V' u.ws.length d'] 25)).heap.size) (by simp)
          have hs3 : (w2.alloc (.cells #[.slice V u.all.length d, .slice V' u.ws.length d'] 25)).heap.size = w2.heap.size + 1 := by simp
          have k0 := ps3.pb.cell 0
          have k1 := ps3.pb.cell 1
          simp only [List.getElem?_toArray, List.getElem?_cons_zero, List.getElem?_cons_succ] at k0 k1
          have hl0 := ps2.pb.lt
          clear hv hv'
          go_wp2_with fail
          generalize w2.alloc (.cells #[.slice V u.all.length d, .slice V' u.ws.length d'] 25) = w3 at *
          clear k0 k1
          refine (joins_any A1 A1' V V' c1 c1' d d' p1 u w3 (OwnI.at_ ps3.oi) (OwnW.at_ ps3.ow) hv3 hv3' (own_cap ps3.oi).1 (own_cap ps3.ow).1 (own_cap ps3.oi).2 (own_cap ps3.ow).2 nv nv' (by omega) (by omega) (by omega) (by omega)).mono ?_
          rintro e w4 ⟨rfl, bb4⟩
          have ps4 := ps3.on bb4
          have ks4 := ks3.on bb4
          have vb4 := vb3.below bb4 vb3.lt
          have hv4 := (hv3.below bb4).more bb4.size
          have hv4' := (hv3'.below bb4).more bb4.size
          have hs4 := bb4.size
          clear vb3 hv3 hv3' bb4 ps3
          have k0 : w4.cell? ⟨w.heap.size, 0, none⟩ = some (.slice A1 p1.all.length c1) := ps4.pb.cell 0
          have y0 := ps4.pb.frozen 0
          have v0 : w4.cell? ⟨w2.heap.size, 0, none⟩ = some (.slice V u.all.length d) := vb4.cell 0
          have r0' : w4.cell? ⟨w.heap.size + 1, 0, none⟩ = some (.slice none 0 0) := ps4.rb.cell 0
          have r1' : w4.cell? ⟨w.heap.size + 1, 1, none⟩ = some (.slice none 0 0) := ps4.rb.cell 1
          have z0 := ps4.rb.frozen 0
          have z1 := ps4.rb.frozen 1
          by_cases hj : joinsP p1 u
          · have HD : Hid (joinsB p1 u = true) := Lib.hid (decide_eq_true hj)
            obtain ⟨K1, K2, K3⟩ := HJ.out.2 hj
            have K1h := Lib.hid K1
            have K2h := Lib.hid K2
            have K3h := Lib.hid K3
            clear K1 K2 K3 hj
            rw [HD.out]
            obtain ⟨a5, c5, w5, hrun5, ho5, hg5, hm5, hkp5⟩ := append_ints w4 base A1 c1 p1.all ps4.oi V d w4.heap.size u.all nv hv4 (by omega) (by omega)
            obtain ⟨qa, hqa⟩ : ∃ qa, p1.all ++ u.all = qa := ⟨_, rfl⟩
            rw [hqa] at hrun5 ho5 hm5 hkp5
            have HR5 := Lib.hid hrun5
            have ps5 := ps4.all ho5 hg5 hm5
            have ks5 := (ks4.all ps4.oi ho5 hg5 hkp5 ⟨u.all, hqa⟩).one (ps4.pb.touch (Touch.of_grown hg5) (fun e => own_ne ps4.oi ps4.pb (by decide) e)) (by decide) (by decide) (Touch.set_ (p := (· = w.heap.size)) (a := ⟨w.heap.size, 0, none⟩) (Touch.refl _ w5) (fun _ => rfl) (.slice a5 qa.length c5))
            have hown1 := World.ownsRow.lt ps1.oi
            have vb5 : Blk (w5.setCell ⟨w.heap.size, 0, none⟩ (.slice a5 qa.length c5)) w2.heap.size 25 #[.slice V u.all.length d, .slice V' u.ws.length d'] := (vb4.touch (Touch.of_grown hg5) (fun e => own_ne ps4.oi vb4 (by decide) e)).far (by show w2.heap.size ≠ w.heap.size; omega) _
            have hl1 := ps1.pb.lt
            have hv5 : WordsAt (w5.setCell ⟨w.heap.size, 0, none⟩ (.slice a5 qa.length c5)) w4.heap.size V' u.ws := hv4'.same fun x hx hlt => by
              have h1 := hfresh x hx
              refine (Below.heap_setCell w5 ⟨w.heap.size, 0, none⟩ _ x.block (by show x.block ≠ w.heap.size; omega)).trans (hg5.block x.block hlt fun e => ?_)
              have := (hown1 x.block e.symm).2
              omega
            have hs5 := hg5.size
            have hs5' : w4.heap.size ≤ (w5.setCell ⟨w.heap.size, 0, none⟩ (.slice a5 qa.length c5)).heap.size := by simpa [World.setCell] using hs5
            have k1 : (w5.setCell ⟨w.heap.size, 0, none⟩ (.slice a5 qa.length c5)).cell? ⟨w.heap.size, 1, none⟩ = some (.slice A1' p1.ws.length c1') := ps5.pb.cell 1
            have y1 := ps5.pb.frozen 1
            have v1 : (w5.setCell ⟨w.heap.size, 0, none⟩ (.slice a5 qa.length c5)).cell? ⟨w2.heap.size, 1, none⟩ = some (.slice V' u.ws.length d') := vb5.cell 1
            have x0 : w5.cell? ⟨w.heap.size, 0, none⟩ = some (.slice A1 p1.all.length c1) := (ps4.pb.touch (Touch.of_grown hg5) (fun e => own_ne ps4.oi ps4.pb (by decide) e)).cell 0
            have x1 := (ps4.pb.touch (Touch.of_grown hg5) (fun e => own_ne ps4.oi ps4.pb (by decide) e)).frozen 0
            have hqal : qa.length ≤ 400001 := by rw [← hqa, List.length_append]; omega
            have HQA := Lib.hid hqa
            obtain ⟨a6, c6, w6, hrun6, ho6, hg6, hm6, hkp6⟩ := append_words (w5.setCell ⟨w.heap.size, 0, none⟩ (.slice a5 qa.length c5)) base A1' c1' p1.ws ps5.ow V' d' w4.heap.size u.ws nv' hv5 (by omega) (by omega)
            obtain ⟨qw, hqw⟩ : ∃ qw, p1.ws ++ u.ws = qw := ⟨_, rfl⟩
            rw [hqw] at hrun6 ho6 hm6 hkp6
            have HR6 := Lib.hid hrun6
            have ps6 := ps5.words ho6 hg6 hm6
            have ks6 := (ks5.words ps5.ow ho6 hg6 hkp6 ⟨u.ws, hqw⟩).one (ps5.pb.touch (Touch.of_grown hg6) (fun e => own_ne ps5.ow ps5.pb (by decide) e)) (by decide) (by decide) (Touch.set_ (p := (· = w.heap.size)) (a := ⟨w.heap.size, 1, none⟩) (Touch.refl _ w6) (fun _ => rfl) (.slice a6 qw.length c6))
            have x2 : w6.cell? ⟨w.heap.size, 1, none⟩ = some (.slice A1' p1.ws.length c1') := (ps5.pb.touch (Touch.of_grown hg6) (fun e => own_ne ps5.ow ps5.pb (by decide) e)).cell 1
            have x3 := (ps5.pb.touch (Touch.of_grown hg6) (fun e => own_ne ps5.ow ps5.pb (by decide) e)).frozen 1
            have HQW := Lib.hid hqw
            have happ : p1.app u = ⟨qa, qw⟩ := by unfold Msg.app; rw [hqa, hqw]
            have hlen : qa.length + olen o4 ≤ 400000 ∧ qw.length + 3 * olen o4 ≤ 400000 ∧ rdM g (w6.setCell ⟨w.heap.size, 1, none⟩ (.slice a6 qw.length c6)) < rdM g wr := by
              rw [rdM_is ps6.rd, HRD.out, ← hqa, ← hqw, List.length_append, List.length_append]
              cases o with
              | none => exact absurd rfl G3h.out
              | some lo =>
                cases o4 with
                | none =>
                  have e1 := K2h.out rfl
                  have e2 := HSL.out
                  have e3 := G5h.out
                  simp only [olen, oM] at *
                  omega
                | some l4 =>
                  have e1 := K3h.out (by simp)
                  simp only [olen, oM] at *
                  omega
            have K1' := K1h.out
            rw [happ] at K1'
            have HK1 := Lib.hid K1'
            have HLN := Lib.hid hlen
            clear hrun5 ho5 hg5 hm5 hkp5 hrun6 ho6 hg6 hm6 hkp6 ks4 ks5 ks3 ks2 ks1 ps4 ps5 vb4 vb5 hv4 hv4' hv5 K1' hlen happ hqa hqw hown1
            go_wp2_with (at_builtin; first | refine Lib.wpList_append_run _ rfl _ _ 22 22 rfl _ _ rfl rfl _ _ HR5.out ?_ | refine Lib.wpList_append_run _ rfl _ _ 23 23 rfl _ _ rfl rfl _ _ HR6.out ?_)
            go_roundw
            case rel => exact ⟨a5, a6, c5, c6, ⟨qa, qw⟩, o4, false, rfl, ps6, ks6, HLN.out.1, HLN.out.2.1, HK1⟩
            case measure => exact HLN.out.2.2
          · have HD : Hid (joinsB p1 u = false) := Lib.hid (decide_eq_false hj)
            have HR := Lib.hid (HJ.out.1 hj)
            obtain ⟨f0, f4⟩ := ps4.res0 (.slice none 0 0) (.slice none 0 0)
            have kz : ∀ X Y, Keep ((w4.setCell ⟨w.heap.size + 1, 0, none⟩ X).setCell ⟨w.heap.size + 1, 1, none⟩ Y) (.slice A p.all.length c) (.slice A' p.ws.length c') p p := fun X Y => ((Keep.mk ks4.li ks4.lw (List.prefix_refl _) (List.prefix_refl _) : Keep _ _ _ p p)).one ps4.rb (by decide) (by decide) (Touch.set_ (p := (· = w.heap.size + 1)) (Touch.set_ (p := (· = w.heap.size + 1)) (Touch.refl _ _) (fun _ => rfl) _) (fun _ => rfl) _)
            have KZ := Lib.hid (kz (.slice none 0 0) (.slice none 0 0))
            clear kz
            rw [HD.out]
            clear hj HJ
            go_wp2_with fail
            exact bodyPost_ret (presults_pair rfl _ _ (w.heap.size + 1) 25 _ rfl f0 rfl) rfl ⟨.inl ⟨HR.out, _, _, _, _, _, _, rfl, ⟨KZ.out.li, KZ.out.lw, KZ.out.pi, KZ.out.pw⟩⟩, f4⟩
        · have HR := Lib.hid (J1h.out hok)
          have ps3 := ps2.on (bel_alloc w2 (.cells #[.slice none 0 0, .slice none 0 0] 25))
          obtain ⟨f0, f4⟩ := ps3.res0 (.slice none 0 0) (.slice none 0 0)
          have ks3 := ks2.on (bel_alloc w2 (.cells #[.slice none 0 0, .slice none 0 0] 25))
          have kz : ∀ X Y, Keep (((w2.alloc (.cells #[.slice none 0 0, .slice none 0 0] 25)).setCell ⟨w.heap.size + 1, 0, none⟩ X).setCell ⟨w.heap.size + 1, 1, none⟩ Y) (.slice A p.all.length c) (.slice A' p.ws.length c') p p := fun X Y => ((Keep.mk ks3.li ks3.lw (List.prefix_refl _) (List.prefix_refl _) : Keep _ _ _ p p)).one ps3.rb (by decide) (by decide) (Touch.set_ (p := (· = w.heap.size + 1)) (Touch.set_ (p := (· = w.heap.size + 1)) (Touch.refl _ _) (fun _ => rfl) _) (fun _ => rfl) _)
          have KZ := Lib.hid (kz (.slice none 0 0) (.slice none 0 0))
          clear kz
          have hq0 := ps3.rb.cell 0
          have hq1 := ps3.rb.cell 1
          have y0 := ps3.rb.frozen 0
          have y1 := ps3.rb.frozen 1
          simp only [List.getElem?_toArray, List.getElem?_cons_zero, List.getElem?_cons_succ] at hq0 hq1
          clear hok J1h J2h
          go_wp2_with fail
          exact bodyPost_ret (presults_pair rfl _ _ (w.heap.size + 1) 25 _ rfl f0 rfl) rfl ⟨.inl ⟨HR.out, _, _, _, _, _, _, rfl, ⟨KZ.out.li, KZ.out.lw, KZ.out.pi, KZ.out.pw⟩⟩, f4⟩
end Go.Proofs.Ytoigapanhbmjlaa
