/- What is lost: Age, Flush; All, Fails (layer 18). Its condition: at most 2^20 places. -/
import Derived.Test.YtocahiifeckogaaFgDo
namespace Go.Proofs.Ytocahiifeckogaa
open Go.RowKit
set_option maxRecDepth 100000

theorem eg_forgets : ∀ args w, (callFunc 26 args).run Try.prog w = .ok (.enter 26 args) w := enters_of Try.func26 (by kernel_rfl) rfl
theorem eg_flush : ∀ args w, (callFunc 27 args).run Try.prog w = .ok (.enter 27 args) w := enters_of Try.func27 (by kernel_rfl) rfl
/-- The one that asks whether a place is lost, by a time. -/
def oldB (now : Int) (x : Pl) : Bool := decide (60 < wrap64 (now - x.s))
def goneB (p : Int) (x : Pl) : Bool := decide (p < 0) || decide (x.p = p)
set_option maxHeartbeats 1000000 in
theorem forgets_any (now : Int) (x : Pl) (w : World) : Calls Try.prog 26 #[.int .i64 now, .agg #[.int .i64 x.v, .int .i64 x.m, .int .i64 x.p, .int .i64 x.s, .bool x.st]] w fun e w' => e = .returned (.bool (oldB now x)) ∧ Below w.heap.size w w' := by
  have HB := Lib.hid (bel_alloc w (.cells #[.int .i64 x.v, .int .i64 x.m, .int .i64 x.p, .int .i64 x.s, .bool x.st] 40))
  obtain ⟨d, hd⟩ : ∃ d, wrap64 (now - x.s) = d := ⟨_, rfl⟩
  have HR := Lib.hid (show decide (60 < d) = oldB now x by rw [← hd]; rfl)
  go_enter Try.func26, Try.ntmps26
  go_wp2_with fail
  go_ret
  exact ⟨ret_bool HR.out, HB.out⟩
set_option maxHeartbeats 1000000 in
theorem flush1_any (bp : Nat) (p : Int) (x : Pl) (w : World) (h : w.cell? ⟨bp, 0, none⟩ = some (.int .i64 p)) (hb : bp < w.heap.size) : Calls Try.prog 27 #[.agg #[.int .i64 x.v, .int .i64 x.m, .int .i64 x.p, .int .i64 x.s, .bool x.st], .pointer (some ⟨bp, 0, none⟩)] w fun e w' => e = .returned (.bool (goneB p x)) ∧ Below w.heap.size w w' := by
  have HB := Lib.hid (bel_alloc w (.cells #[.int .i64 x.v, .int .i64 x.m, .int .i64 x.p, .int .i64 x.s, .bool x.st] 40))
  have q : (w.alloc (.cells #[.int .i64 x.v, .int .i64 x.m, .int .i64 x.p, .int .i64 x.s, .bool x.st] 40)).cell? ⟨bp, 0, none⟩ = some (.int .i64 p) := (World.cell?_of_block (Below.heap_alloc w _ bp hb)).trans h
  obtain ⟨r, hr⟩ : ∃ r, goneB p x = r := ⟨_, rfl⟩
  rw [hr]
  by_cases hp : p < 0
  · have HR := Lib.hid (show true = r by rw [← hr]; unfold goneB; rw [decide_eq_true hp]; rfl)
    clear h hb hr
    go_enter Try.func27, Try.ntmps27
    go_wp2_with fail
    go_ret
    exact ⟨ret_bool HR.out, HB.out⟩
  · have HR := Lib.hid (show (x.p == p) = r by rw [← hr]; unfold goneB; rw [decide_eq_false hp]; by_cases e : x.p = p <;> simp [e])
    have hp2 : decide (p < 0) = false := decide_eq_false hp
    clear h hb hr
    go_enter Try.func27, Try.ntmps27
    go_wp2_with fail
    go_ret
    exact ⟨ret_bool HR.out, HB.out⟩
/-- What is asked of a place: fv, a value that is a function, while Ok. -/
structure AsksF (Ok : World → Prop) (fv : Value) (dead : Pl → Bool) : Prop where
  call : ∀ (bs : Nat) (W : World) (x : Pl), Ok W → bs < W.heap.size → W.cell? ⟨bs, 0, none⟩ = some fv → Calls Try.prog 36 #[.agg #[.int .i64 x.v, .int .i64 x.m, .int .i64 x.p, .int .i64 x.s, .bool x.st], .pointer (some ⟨bs, 0, none⟩)] W fun e w' => e = .returned (.bool (!x.st && dead x)) ∧ Below W.heap.size W w'
set_option maxHeartbeats 1000000 in
theorem asks_age (now : Int) : AsksF (fun _ => True) (.func (.func 26) #[.int .i64 now] #[]) (oldB now) := ⟨fun bs w x _ hb h => by
  have HF := Lib.hid (fun W => forgets_any now x W)
  have HB := Lib.hid (bel_alloc w (.cells #[.int .i64 x.v, .int .i64 x.m, .int .i64 x.p, .int .i64 x.s, .bool x.st] 40))
  have zx := Blk.new w 40 #[.int .i64 x.v, .int .i64 x.m, .int .i64 x.p, .int .i64 x.s, .bool x.st]
  have q : (w.alloc (.cells #[.int .i64 x.v, .int .i64 x.m, .int .i64 x.p, .int .i64 x.s, .bool x.st] 40)).cell? ⟨bs, 0, none⟩ = some (.func (.func 26) #[.int .i64 now] #[]) := (World.cell?_of_block (Below.heap_alloc w _ bs hb)).trans h
  have efg := eg_forgets
  obtain ⟨r, hr⟩ : ∃ r, oldB now x = r := ⟨_, rfl⟩
  rw [hr] at HF ⊢
  obtain ⟨x0, x1, x2, x3, x4⟩ := x
  clear h hr hb
  cases x4 with
  | true =>
    go_enter Try.func36, Try.ntmps36
    go_wp2_with fail
    go_ret
    exact ⟨rfl, HB.out⟩
  | false =>
    go_enter Try.func36, Try.ntmps36
    go_wp2_with fail
    refine (HF.out _).mono ?_
    rintro e w1 ⟨rfl, b1⟩
    have HB1 := Lib.hid (HB.out.trans (b1.mono HB.out.size))
    clear b1
    go_wp2_with fail
    go_ret
    exact ⟨rfl, HB1.out⟩⟩
/-- A port's number lies in a box. -/
def PortAt (bp : Nat) (p : Int) (W : World) : Prop := bp < W.heap.size ∧ W.cell? ⟨bp, 0, none⟩ = some (.int .i64 p)
set_option maxHeartbeats 1000000 in
theorem asks_flush (bp : Nat) (p : Int) : AsksF (PortAt bp p) (.func (.func 27) #[] #[.pointer (some ⟨bp, 0, none⟩)]) (goneB p) := ⟨fun bs w x hok hb h => by
  have hbal := bel_alloc w (.cells #[.int .i64 x.v, .int .i64 x.m, .int .i64 x.p, .int .i64 x.s, .bool x.st] 40)
  have HF := Lib.hid (flush1_any bp p x (w.alloc (.cells #[.int .i64 x.v, .int .i64 x.m, .int .i64 x.p, .int .i64 x.s, .bool x.st] 40)) ((hbal.cell (p := ⟨bp, 0, none⟩) hok.1).trans hok.2) (Nat.lt_of_lt_of_le hok.1 hbal.size))
  have HB := Lib.hid hbal
  have q : (w.alloc (.cells #[.int .i64 x.v, .int .i64 x.m, .int .i64 x.p, .int .i64 x.s, .bool x.st] 40)).cell? ⟨bs, 0, none⟩ = some (.func (.func 27) #[] #[.pointer (some ⟨bp, 0, none⟩)]) := (World.cell?_of_block (Below.heap_alloc w _ bs hb)).trans h
  have efl := eg_flush
  obtain ⟨r, hr⟩ : ∃ r, goneB p x = r := ⟨_, rfl⟩
  rw [hr] at HF ⊢
  obtain ⟨x0, x1, x2, x3, x4⟩ := x
  clear h hr hb hbal hok
  cases x4 with
  | true =>
    go_enter Try.func36, Try.ntmps36
    go_wp2_with fail
    go_ret
    exact ⟨rfl, HB.out⟩
  | false =>
    go_enter Try.func36, Try.ntmps36
    go_wp2_with fail
    refine HF.out.mono ?_
    rintro e w1 ⟨rfl, b1⟩
    have HB1 := Lib.hid (HB.out.trans (b1.mono HB.out.size))
    clear b1
    go_wp2_with fail
    go_ret
    exact ⟨rfl, HB1.out⟩⟩
def deadB (dead : Pl → Bool) (x : Pl) : Bool := !x.st && dead x
set_option maxHeartbeats 2000000 in
theorem lose_any {Ok : World → Prop} {fi : Nat} {fs cs : Array Value} {dead : Pl → Bool} (hA : AsksF Ok (.func (.func fi) fs cs) dead) {w : World} {B g c : Nat} {F : Nat → Prop} {s : Dt} {A : Option Addr} (h : PtAt w B F g s A c) (hn : s.l.length ≤ 1048000) (hok : Ok w)
    (hbel : ∀ W W' : World, Ok W → Below W.heap.size W W' → Ok W') (htou : ∀ W W' : World, Ok W → Touch (fun k => (Value.slice A s.l.length c).ownBlock = some k) W W' → Ok W') :
    Calls Try.prog 25 #[.pointer (some ⟨g, 0, none⟩), .func (.func fi) fs cs] w fun e w' => e = .returned (.tuple #[]) ∧ Touch F w w' ∧ Pt w' B (grow F w w') g ⟨keepK (deadB dead) s.l, s.f⟩ := by
  obtain ⟨W1, hW1⟩ : ∃ W1, w.alloc (.cells #[.func (.func fi) fs cs] 57) = W1 := ⟨_, rfl⟩
  have hb : Below w.heap.size w W1 := by rw [← hW1]; exact bel_alloc w _
  have hx : Blk W1 w.heap.size 57 #[.func (.func fi) fs cs] := by rw [← hW1]; exact Blk.new w _ _
  have hP : PredF (fun W => Ok W ∧ w.heap.size < W.heap.size ∧ W.cell? ⟨w.heap.size, 0, none⟩ = some (.func (.func fi) fs cs)) w.heap.size (deadB dead) := ⟨fun W x ho => hA.call _ W x ho.1 ho.2.1 ho.2.2, fun W W' ho hbW => ⟨hbel _ _ ho.1 hbW, Nat.lt_of_lt_of_le ho.2.1 hbW.size, (hbW.cell (p := ⟨w.heap.size, 0, none⟩) ho.2.1).trans ho.2.2⟩⟩
  have h1' := h.below hb
  have HD := Lib.hid (delf_any hP A c s.l B W1 h1'.row hn ⟨hbel _ _ hok hb, hx.lt, hx.cell 0⟩ (fun W W' ho ht => ⟨htou _ _ ho.1 ht, Nat.lt_of_lt_of_le ho.2.1 ht.size, (World.cell?_of_block (ht.block _ ho.2.1 (fun e => Nat.lt_irrefl _ ((h.lo _ (h.fr _ e)).2)))).trans ho.2.2⟩))
  have HST := Lib.hid (fun (w2 : World) (ho : OwnL 40 w2 B A c (keepK (deadB dead) s.l)) (ht : Touch (fun k => (Value.slice A s.l.length c).ownBlock = some k) W1 w2) => h.store hb (touch_grown ht) ho (.inl rfl))
  have c0 : W1.cell? ⟨g, 0, none⟩ = some (.slice A s.l.length c) := h1'.blk.cell 0
  obtain ⟨n, hnn⟩ : ∃ n, s.l.length = n := ⟨_, rfl⟩
  rw [hnn] at c0 HD HST
  obtain ⟨kn, hkn⟩ : ∃ kn, (keepK (deadB dead) s.l).length = kn := ⟨_, rfl⟩
  rw [hkn] at HD HST
  clear h hn hok hbel htou hb hx hP h1' hnn hkn hA
  subst hW1
  go_enter Try.func25, Try.ntmps25
  go_wp2_with fail
  refine HD.out.mono ?_
  rintro e w2 ⟨rfl, ho, ht⟩
  obtain ⟨f0, d0, htt, hpt⟩ := HST.out w2 ho ht
  have HF2 := Lib.hid (And.intro htt (show Pt _ B _ g ⟨keepK (deadB dead) s.l, s.f⟩ from ⟨_, _, hpt⟩))
  clear ho ht htt hpt
  go_wp2_with fail
  exact bodyPost_end (results_none rfl _ _ _) rfl ⟨rfl, HF2.out⟩
/-- All that lies there, anew. -/
theorem fclone_any (A : Option Addr) (c : Nat) (l : List Pl) (w : World) (h : PlsAt w w.heap.size A l) (hc : l.length ≤ c ∧ (A = none → c = 0)) (hn : l.length ≤ 1048000) :
    Calls Try.prog 24 #[.slice A l.length c] w fun e w' => ∃ A' c', e = .returned (.slice A' l.length c') ∧ OwnL 40 w' w.heap.size A' c' l ∧ Below w.heap.size w w' := by
  cases A with
  | none =>
    obtain rfl : l = [] := List.eq_nil_of_length_eq_zero (by have := hc.1; have := hc.2 rfl; omega)
    obtain rfl := hc.2 rfl
    clear h hc hn
    show Calls _ _ #[.slice none 0 0] w _
    have q22 := Lib.run_eql_slice_nil (P := Try.prog) w 38 40 none 0 0 0 0 Try.underlying38
    go_enter Try.func24, Try.ntmps24
    go_wp2_with fail
    go_ret
    exact ⟨none, 0, rfl, World.ownsRow_nil _ _ _ _, Below.refl _ _⟩
  | some a =>
    have q22 := Lib.run_eql_slice_nil (P := Try.prog) w 38 40 (some a) l.length c 0 0 Try.underlying38
    have ho : OwnL 40 (w.alloc (.cells #[] 40)) w.heap.size (some ⟨w.heap.size, 0, none⟩) 0 [] := own_blank w w.heap.size 5 40 (Nat.le_refl _)
    have hb1 := bel_alloc w (.cells #[] 40)
    obtain ⟨a', c', w', hr, ho', hg, _, _⟩ := append_f (w.alloc (.cells #[] 40)) w.heap.size (some ⟨w.heap.size, 0, none⟩) 0 [] ho (some a) c w.heap.size l (fun h => by cases h) (h.below hb1) (by show 0 + l.length ≤ _; omega) hb1.size
    rw [List.nil_append] at ho' hr
    have hb : Below w.heap.size w w' := hb1.trans (bel_own ho hg (Nat.le_refl _) hb1.size)
    obtain ⟨n, hnn⟩ : ∃ n, l.length = n := ⟨_, rfl⟩
    have HF := Lib.hid (And.intro ho' hb)
    rw [hnn] at hr q22 ⊢
    have HR := Lib.hid (show (Builtin.append_ #[38, 38] 38 #[.slice (some ⟨w.heap.size, 0, none⟩) 0 0, .slice (some a) n c]).run Try.prog (w.alloc (.cells #[] 40)) = .ok (.slice a' n c') w' from hr)
    clear hr ho' hg hb ho h hc hn hnn hb1
    go_enter Try.func24, Try.ntmps24
    go_wp2_with (at_builtin; refine Lib.wpList_append_run _ rfl _ _ _ _ rfl _ _ rfl rfl _ _ HR.out ?_)
    go_ret
    exact ⟨a', c', rfl, HF.out⟩
theorem fall_any {w : World} {B g : Nat} {F : Nat → Prop} {s : Dt} (hp : Pt w B F g s) (hn : s.l.length ≤ 1048000) : Calls Try.prog 13 #[.pointer (some ⟨g, 0, none⟩)] w fun e w' => ∃ (A : Option Addr) (c : Nat), e = .returned (.slice A s.l.length c) ∧ PlsAt w' w'.heap.size A s.l ∧ Below w.heap.size w w' := by
  obtain ⟨A, c, h⟩ := hp
  have HC := Lib.hid (fclone_any A c s.l w h.row.at_ (own_cap h.row) hn)
  have c0 : w.cell? ⟨g, 0, none⟩ = some (.slice A s.l.length c) := h.blk.cell 0
  obtain ⟨n, hnn⟩ : ∃ n, s.l.length = n := ⟨_, rfl⟩
  rw [hnn] at c0 HC ⊢
  clear h hn hnn
  go_enter Try.func13, Try.ntmps13
  go_wp2_with fail
  refine HC.out.mono ?_
  rintro e w1 ⟨A', c', rfl, ho, b1⟩
  have HE := Lib.hid (And.intro ho.at_ b1)
  clear ho b1
  go_wp2_with fail
  go_ret
  exact ⟨A', c', rfl, HE.out⟩
theorem fall_nil (w : World) : Calls Try.prog 13 #[.pointer none] w fun e w' => ∃ (A : Option Addr) (c : Nat), e = .returned (.slice A 0 c) ∧ Below w.heap.size w w' := by
  go_enter Try.func13, Try.ntmps13
  go_wp2_with fail
  go_ret
  exact ⟨none, 0, rfl, Below.refl _ _⟩
theorem ffails_any {w : World} {B g : Nat} {F : Nat → Prop} {s : Dt} (hp : Pt w B F g s) : Calls Try.prog 10 #[.pointer (some ⟨g, 0, none⟩)] w fun e w' => e = .returned (.int .i64 s.f) ∧ Below w.heap.size w w' := by
  obtain ⟨A, c, h⟩ := hp
  have c1 : w.cell? ⟨g, 1, none⟩ = some (.int .i64 s.f) := h.blk.cell 1
  clear h
  go_enter Try.func10, Try.ntmps10
  go_wp2_with fail
  go_ret
  exact ⟨rfl, Below.refl _ _⟩
theorem ffails_nil (w : World) : Calls Try.prog 10 #[.pointer none] w fun e w' => e = .returned (.int .i64 0) ∧ Below w.heap.size w w' := by
  go_enter Try.func10, Try.ntmps10
  go_wp2_with fail
  go_ret
  exact ⟨rfl, Below.refl _ _⟩
theorem keep_age (s : Dt) (now : Int) : (⟨keepK (deadB (oldB now)) s.l, s.f⟩ : Dt) = keepD s 0 now := by
  unfold keepD keepK
  rw [List.filter_congr (fun x _ => (show (!deadB (oldB now) x) = keepB 0 now x from ?_))]
  unfold deadB oldB keepB
  by_cases h : 60 < wrap64 (now - x.s)
  · have h2 : ¬ wrap64 (now - x.s) ≤ 60 := by omega
    cases x.st <;> simp [h, h2]
  · have h2 : wrap64 (now - x.s) ≤ 60 := by omega
    cases x.st <;> simp [h, h2]
theorem keep_flush (s : Dt) (p : Int) : (⟨keepK (deadB (goneB p)) s.l, s.f⟩ : Dt) = flushK s p := by
  unfold flushK
  by_cases h : p < 0
  · rw [if_pos h]
    unfold keepD keepK
    rw [List.filter_congr (fun x _ => (show (!deadB (goneB p) x) = keepB 2 0 x from ?_))]
    unfold deadB goneB keepB
    cases x.st <;> simp [h]
  · rw [if_neg h]
    unfold keepD keepK
    rw [List.filter_congr (fun x _ => (show (!deadB (goneB p) x) = keepB 1 p x from ?_))]
    unfold deadB goneB keepB
    cases x.st <;> simp [h]
set_option maxHeartbeats 1000000 in
theorem fage_any {w : World} {B g : Nat} {F : Nat → Prop} {s : Dt} (now : Int) (hp : Pt w B F g s) (hn : s.l.length ≤ 1048000) : Calls Try.prog 14 #[.pointer (some ⟨g, 0, none⟩), .int .i64 now] w fun e w' => e = .returned (.tuple #[]) ∧ Touch F w w' ∧ Pt w' B (grow F w w') g (keepD s 0 now) := by
  obtain ⟨A, c, h⟩ := hp
  rw [← keep_age]
  have HL := Lib.hid (lose_any (asks_age now) h hn trivial (fun _ _ _ _ => trivial) (fun _ _ _ _ => trivial))
  clear h hn
  go_enter Try.func14, Try.ntmps14
  go_wp2_with fail
  refine HL.out.mono ?_
  rintro e w2 ⟨rfl, ht⟩
  have HT := Lib.hid ht
  clear ht
  go_wp2_with fail
  exact bodyPost_end (results_none rfl _ _ _) rfl ⟨rfl, HT.out⟩
set_option maxHeartbeats 1000000 in
theorem fflush_any {w : World} {B g : Nat} {F : Nat → Prop} {s : Dt} (p : Int) (hp : Pt w B F g s) (hn : s.l.length ≤ 1048000) : Calls Try.prog 15 #[.pointer (some ⟨g, 0, none⟩), .int .i64 p] w fun e w' => e = .returned (.tuple #[]) ∧ Touch F w w' ∧ Pt w' B (grow F w w') g (flushK s p) := by
  obtain ⟨A, c, h⟩ := hp
  rw [← keep_flush]
  have hb := bel_alloc w (.cells #[.int .i64 p] 3)
  have hx := Blk.new w 3 #[.int .i64 p]
  have hlo := h.lo
  have hfr := h.fr
  have HL := Lib.hid (lose_any (asks_flush w.heap.size p) (h.below hb) hn ⟨hx.lt, hx.cell 0⟩ (fun W W' ho hbW => ⟨Nat.lt_of_lt_of_le ho.1 hbW.size, (hbW.cell (p := ⟨w.heap.size, 0, none⟩) ho.1).trans ho.2⟩) (fun W W' ho ht => ⟨Nat.lt_of_lt_of_le ho.1 ht.size, (World.cell?_of_block (ht.block _ ho.1 (fun e => Nat.lt_irrefl _ ((hlo _ (hfr _ e)).2)))).trans ho.2⟩))
  have HB := Lib.hid hb
  have HH := Lib.hid h
  clear h hn hb hx hlo hfr
  go_enter Try.func15, Try.ntmps15
  go_wp2_with fail
  refine HL.out.mono ?_
  rintro e w2 ⟨rfl, ht, A2, c2, hq⟩
  have HT := Lib.hid (show Touch F w w2 ∧ Pt w2 B (grow F w w2) g ⟨keepK (deadB (goneB p)) s.l, s.f⟩ from ⟨below_next HB.out ht, A2, c2, hq.wide (fun k hk => grow_wide HB.out.size k hk) (grow_lo HH.out.base HH.out.lo (Nat.le_trans HB.out.size ht.size))⟩)
  clear ht hq
  go_wp2_with fail
  exact bodyPost_end (results_none rfl _ _ _) rfl ⟨rfl, HT.out⟩
theorem fage_nil (w : World) (now : Int) : Calls Try.prog 14 #[.pointer none, .int .i64 now] w fun e w' => e = .returned (.tuple #[]) ∧ Below w.heap.size w w' := by
  have HL : Hid (Calls Try.prog 25 #[.pointer none, .func (.func 26) #[.int .i64 now] #[]] w fun e w' => e = .returned (.tuple #[]) ∧ Below w.heap.size w w') := Lib.hid (by
    have HB := Lib.hid (bel_alloc w (.cells #[.func (.func 26) #[.int .i64 now] #[]] 57))
    go_enter Try.func25, Try.ntmps25
    go_wp2_with fail
    exact bodyPost_ret (results_none rfl _ _ _) rfl ⟨rfl, HB.out⟩)
  go_enter Try.func14, Try.ntmps14
  go_wp2_with fail
  refine HL.out.mono ?_
  rintro e w2 ⟨rfl, hb⟩
  go_wp2_with fail
  exact bodyPost_end (results_none rfl _ _ _) rfl ⟨rfl, hb⟩
theorem fflush_nil (w : World) (p : Int) : Calls Try.prog 15 #[.pointer none, .int .i64 p] w fun e w' => e = .returned (.tuple #[]) ∧ Below w.heap.size w w' := by
  have HL : ∀ W bp, Calls Try.prog 25 #[.pointer none, .func (.func 27) #[] #[.pointer (some ⟨bp, 0, none⟩)]] W fun e w' => e = .returned (.tuple #[]) ∧ Below W.heap.size W w' := fun W bp => by
    have HB := Lib.hid (bel_alloc W (.cells #[.func (.func 27) #[] #[.pointer (some ⟨bp, 0, none⟩)]] 57))
    go_enter Try.func25, Try.ntmps25
    go_wp2_with fail
    exact bodyPost_ret (results_none rfl _ _ _) rfl ⟨rfl, HB.out⟩
  have HL := Lib.hid HL
  have HB := Lib.hid (bel_alloc w (.cells #[.int .i64 p] 3))
  go_enter Try.func15, Try.ntmps15
  go_wp2_with fail
  refine (HL.out _ _).mono ?_
  rintro e w2 ⟨rfl, hb⟩
  have HB2 := Lib.hid (HB.out.trans (hb.mono HB.out.size))
  clear hb
  go_wp2_with fail
  exact bodyPost_end (results_none rfl _ _ _) rfl ⟨rfl, HB2.out⟩
end Go.Proofs.Ytocahiifeckogaa
