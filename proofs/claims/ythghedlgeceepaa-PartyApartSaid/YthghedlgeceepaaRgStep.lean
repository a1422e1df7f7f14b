/- The machine of a registrar goes by an event: contracts of good, old, step. Their conditions: a state and an event of the table; ticks far from an int's ends. -/
import Derived.Test.YthghedlgeceepaaRgMem
import Derived.Deep.RegionHeld3
namespace Go.Proofs.Ythghedlgeceepaa
open Go.RowKit
set_option maxRecDepth 100000

def goodMd (m : Int) : Bool := decide (0 ≤ m) && decide (m ≤ 2)
set_option maxHeartbeats 1000000 in
theorem rgood_any (m : Int) (w : World) : Calls Try.prog 54 #[.int .i64 m] w fun e w' => e = .returned (.bool (goodMd m)) ∧ w = w' := by
  have HB := Lib.hid (show goodMd m = (decide (0 ≤ m) && decide (m ≤ 2)) from rfl)
  obtain ⟨b, hb⟩ : ∃ b, goodMd m = b := ⟨_, rfl⟩
  rw [hb] at HB ⊢
  clear hb
  by_cases h0 : 0 ≤ m
  · by_cases h1 : m ≤ 2
    · have HR := Lib.hid (show true = b by rw [HB.out, decide_eq_true h0, decide_eq_true h1]; rfl)
      go_enter Try.func54, Try.ntmps54
      go_wp2_with fail
      go_ret
      exact ⟨ret_bool HR.out, rfl⟩
    · have HR := Lib.hid (show false = b by rw [HB.out, decide_eq_true h0, decide_eq_false h1]; rfl)
      have e1 : decide (m ≤ 2) = false := decide_eq_false h1
      clear h1
      go_enter Try.func54, Try.ntmps54
      go_wp2_with fail
      go_ret
      exact ⟨ret_bool HR.out, rfl⟩
  · have HR := Lib.hid (show false = b by rw [HB.out, decide_eq_false h0]; rfl)
    have e1 : decide (0 ≤ m) = false := decide_eq_false h0
    clear h0
    go_enter Try.func54, Try.ntmps54
    go_wp2_with fail
    go_ret
    exact ⟨ret_bool HR.out, rfl⟩
set_option maxHeartbeats 1000000 in
theorem rold_any (b T : Int) (hw : wrap64 (T - b) = T - b) (w : World) : Calls Try.prog 66 #[.int .i64 b, .int .i64 T] w fun e w' => e = .returned (.bool (decide (120 < T - b))) ∧ w = w' := by
  obtain ⟨d, hd⟩ : ∃ d, T - b = d := ⟨_, rfl⟩
  rw [hd] at hw ⊢
  go_enter Try.func66, Try.ntmps66
  go_wp2_with fail
  go_ret
  exact ⟨rfl, rfl⟩
theorem cellT_reg {s e : Int} (hs : s = 0 ∨ s = 1 ∨ s = 2) (he : e = 0 ∨ e = 1 ∨ e = 2 ∨ e = 3 ∨ e = 4) : atV regT s e = .tuple #[.agg #[.int .i64 (cellR s e).1, .int .i64 (cellR s e).2], .bool true] := by
  rcases hs with rfl | rfl | rfl <;> rcases he with rfl | rfl | rfl | rfl | rfl <;> rfl
/-- Behind the cell's reading: the cell lies by itself, the registrar as it was. -/
def EndR (w : World) (g : Nat) (r : Rg) (c : Ce) (WX : World) (q : Nat) : Prop := Blk WX q 119 #[.int .i64 c.1, .int .i64 c.2] ∧ RgAt WX g r ∧ Below w.heap.size w WX ∧ w.heap.size ≤ q
theorem EndR.of_new {w w2 : World} {g : Nat} {r : Rg} {c : Ce} (h : RgAt w g r) (b : Below w.heap.size w w2) : EndR w g r c (w2.alloc (Obj.cells #[Value.int IntKind.i64 c.1, Value.int IntKind.i64 c.2] 119)) w2.heap.size :=
  ⟨Blk.new _ _ _, (h.below b h.lt).alloc _, b.alloc b.size _, b.size⟩
theorem EndR.of_set {w w2 : World} {g q : Nat} {r : Rg} {c : Ce} {x y : Value} (h : RgAt w g r) (b : Below w.heap.size w w2) (hq : w.heap.size ≤ q) (k : Blk w2 q 119 #[x, y]) : EndR w g r c ((w2.setCell ⟨q, 0, none⟩ (.int .i64 c.1)).setCell ⟨q, 1, none⟩ (.int .i64 c.2)) q := by
  have hl := h.lt
  have ht : Touch (fun k => k = q) w2 ((w2.setCell ⟨q, 0, none⟩ (.int .i64 c.1)).setCell ⟨q, 1, none⟩ (.int .i64 c.2)) := ((Touch.refl (fun k => k = q) w2).set_ (a := ⟨q, 0, none⟩) (fun _ => rfl) _).set_ (a := ⟨q, 1, none⟩) (fun _ => rfl) _
  exact ⟨(k.set_ 0 _).set_ 1 _, (h.below b h.lt).touch ht (by omega), ⟨ht.os.trans b.os, ht.tape.trans b.tape, ht.output.trans b.output, Nat.le_trans b.size ht.size, fun k hk => (ht.block k (Nat.lt_of_lt_of_le hk b.size) (by omega)).trans (b.block k hk)⟩, hq⟩
theorem EndR.fin {w WX : World} {g q : Nat} {r : Rg} {c : Ce} (h : EndR w g r c WX q) (hg : g < w.heap.size) : q ≠ g ∧ WX.cell? ⟨q, 0, none⟩ = some (.int .i64 c.1) ∧ WX.cell? ⟨q, 1, none⟩ = some (.int .i64 c.2) ∧ WX.frozen? ⟨g, 1, none⟩ = false ∧ WX.frozen? ⟨g, 3, none⟩ = false ∧ WX.cell? ⟨g, 1, none⟩ = some (.int .i64 r.state) ∧ WX.cell? ⟨g, 3, none⟩ = some (.int .i64 r.left) :=
  ⟨by have := h.2.2.2; omega, h.1.cell 0, h.1.cell 1, h.2.1.frozen 1, h.2.1.frozen 3, h.2.1.c1, h.2.1.c3⟩
theorem EndR.put {w WX : World} {g q : Nat} {r : Rg} {c : Ce} (h : EndR w g r c WX q) (_hg : g < w.heap.size) (T : Int) :
    (RgAt (WX.setCell ⟨g, 1, none⟩ (.int .i64 c.1)) g ⟨r.mode, c.1, r.born, r.left⟩ ∧ Touch (fun k => k = g) w (WX.setCell ⟨g, 1, none⟩ (.int .i64 c.1))) ∧
    (RgAt ((WX.setCell ⟨g, 3, none⟩ (.int .i64 T)).setCell ⟨g, 1, none⟩ (.int .i64 c.1)) g ⟨r.mode, c.1, r.born, T⟩ ∧ Touch (fun k => k = g) w ((WX.setCell ⟨g, 3, none⟩ (.int .i64 T)).setCell ⟨g, 1, none⟩ (.int .i64 c.1))) := by
  have b : Touch (fun k => k = g) w WX := (Below.touch h.2.2.1).mono fun k hk hk' => by omega
  exact ⟨⟨h.2.1.set_ 1 _, b.set_ (a := ⟨g, 1, none⟩) (fun _ => rfl) _⟩, (h.2.1.set_ 3 _).set_ 1 _, (b.set_ (a := ⟨g, 3, none⟩) (fun _ => rfl) _).set_ (a := ⟨g, 1, none⟩) (fun _ => rfl) _⟩
set_option maxHeartbeats 4000000 in
theorem rstep_any {w : World} {g : Nat} {r : Rg} (h : RgAt w g r) (hs : r.state = 0 ∨ r.state = 1 ∨ r.state = 2) (e T : Int) (he : e = 0 ∨ e = 1 ∨ e = 2 ∨ e = 3 ∨ e = 4) :
    Calls Try.prog 65 #[.pointer (some ⟨g, 0, none⟩), .int .i64 e, .int .i64 T] w fun x w' => x = .returned (.tuple #[]) ∧ RgAt w' g (stepR r e T) ∧ Touch (fun k => k = g) w w' := by
  have hat := cellT_reg hs he
  unfold stepR
  obtain ⟨c, hc⟩ : ∃ c, cellR r.state e = c := ⟨_, rfl⟩
  rw [hc] at hat ⊢
  have HFIN := Lib.hid (fun WX q (hh : EndR w g r c WX q) => hh.fin h.lt)
  have HPUT := Lib.hid (fun WX q (hh : EndR w g r c WX q) => hh.put h.lt T)
  have HNEW := Lib.hid (fun w2 b => EndR.of_new (w2 := w2) (c := c) h b)
  have HSET := Lib.hid (fun w2 q x y b hq k => EndR.of_set (w2 := w2) (q := q) (c := c) (x := x) (y := y) h b hq k)
  obtain ⟨c1, c2⟩ := c
  obtain ⟨m, s, b, l⟩ := r
  simp only at hat ⊢
  clear hc
  obtain ⟨L, hL⟩ : ∃ L, (if c2 = 1 then T else l) = L := ⟨_, rfl⟩
  rw [hL]
  have HL := Lib.hid hL
  clear hL
  have hcf : ∀ W : World, Below w.heap.size w W → W.cell? ⟨g, 1, none⟩ = some (.int .i64 s) ∧ ∀ o : Obj, (W.alloc o).cell? ⟨g, 1, none⟩ = some (.int .i64 s) := fun W b => ⟨(h.below b h.lt).cell 1, fun o => ((h.below b h.lt).alloc o).cell 1⟩
  have HREG := Lib.hid (fun (W : World) (bW : Below w.heap.size w W) => show Calls Try.prog 88 #[] W fun x w' => ∃ A, x = .returned (.slice A 3 3) ∧ (TbAt w' w'.heap.size A regT ∧ ∀ o, TbAt (w'.alloc o) (w'.alloc o).heap.size A regT) ∧ Below W.heap.size W w' ∧ Below w.heap.size w w' ∧ w'.cell? ⟨g, 1, none⟩ = some (.int .i64 s) ∧ ∀ o : Obj, (w'.alloc o).cell? ⟨g, 1, none⟩ = some (.int .i64 s) by
    refine (reg_any W).mono ?_
    rintro x w' ⟨A, rfl, hT, b1⟩
    have b2 := bW.trans (b1.mono bW.size)
    exact ⟨A, rfl, ⟨hT, fun o => hT.keep (bel_alloc w' o) (bel_alloc w' o).size⟩, b1, b2, hcf _ b2⟩)
  have HAT := Lib.hid (fun (A : Option Addr) (W : World) (bW : Below w.heap.size w W) (ht : TbAt W W.heap.size A regT) => show Calls Try.prog 83 #[.slice A 3 3, .int .i64 s, .int .i64 e] W fun r w' => r = .returned (.tuple #[.agg #[.int .i64 c1, .int .i64 c2], .bool true]) ∧ Below W.heap.size W w' ∧ Below w.heap.size w w' ∧ w'.cell? ⟨g, 1, none⟩ = some (.int .i64 s) ∧ ∀ o : Obj, (w'.alloc o).cell? ⟨g, 1, none⟩ = some (.int .i64 s) by
    refine (at_any A 3 regT s e W ht).mono ?_
    rintro x w' ⟨rfl, b1⟩
    have b2 := bW.trans (b1.mono bW.size)
    exact ⟨by rw [hat], b1, b2, hcf _ b2⟩)
  have HB0 := Lib.hid (show Below w.heap.size w w.drew from (Below.refl _ _).drew)
  have HBA := Lib.hid (fun o : Obj => show Below w.heap.size w (w.alloc o).drew from (bel_alloc w o).drew)
  have hsto : ∀ (w2 : World) (q : Nat), w.heap.size ≤ q → Below w.heap.size w w2 → w2.cell? ⟨g, 1, none⟩ = some (.int .i64 s) → ∀ u v : Value, ((w2.setCell ⟨q, 0, none⟩ u).setCell ⟨q, 1, none⟩ v).cell? ⟨g, 1, none⟩ = some (.int .i64 s) := fun w2 q hq hb hc u v => by
    have hl := h.lt
    have ht : Touch (fun k => k = q) w2 ((w2.setCell ⟨q, 0, none⟩ u).setCell ⟨q, 1, none⟩ v) := ((Touch.refl (fun k => k = q) w2).set_ (a := ⟨q, 0, none⟩) (fun _ => rfl) _).set_ (a := ⟨q, 1, none⟩) (fun _ => rfl) _
    have hg : g < w2.heap.size := Nat.lt_of_lt_of_le hl hb.size
    rw [← hc]
    unfold World.cell?
    rw [ht.block g hg (by omega)]
  have HSTO := Lib.hid hsto
  have k0 : w.drew.cell? ⟨g, 1, none⟩ = some (.int .i64 s) := h.c1
  have k0a : ∀ o : Obj, (w.alloc o).drew.cell? ⟨g, 1, none⟩ = some (.int .i64 s) := fun o => (h.alloc o).cell 1
  clear h hat hs he hcf hsto
  go_enter Try.func65, Try.ntmps65
  go_wp2_with fail
  go_region_held3 (fun w' => w'.cell? ⟨g, 1, none⟩ = some (.int .i64 s))
    (first
      | (with_reducible exact k0)
      | (with_reducible exact k0a _)
      | (with_reducible exact k1)
      | (with_reducible exact k1a _)
      | (with_reducible exact k2)
      | (with_reducible exact k2a _)
      | (with_reducible exact k2s _ _)
      | fail)
    (first
      | (go_at_call 88; (with_reducible (refine (HREG.out _ HB0.out).mono ?_)); rintro x w1 ⟨A, rfl, ⟨hT, hTa⟩, b1, b1w, k1, k1a⟩)
      | (go_at_call 88; (with_reducible (refine (HREG.out _ (HBA.out _)).mono ?_)); rintro x w1 ⟨A, rfl, ⟨hT, hTa⟩, b1, b1w, k1, k1a⟩; have kq : Blk w1 w.heap.size 119 #[.int .i64 0, .int .i64 0] := (Blk.new w _ _).drew.below b1 (by simp))
      | (go_at_call 83; have kq1 := kq; (with_reducible (refine (HAT.out A _ b1w hT).mono ?_)); rintro x w2 ⟨rfl, b2, b2w, k2, k2a⟩; have kq2 := kq1.below b2 kq1.lt; have f0 := kq2.frozen 0; have f1 := kq2.frozen 1; have r0 : w2.cell? ⟨w.heap.size, 0, none⟩ = some (.int .i64 0) := kq2.cell 0; have r1 : w2.cell? ⟨w.heap.size, 1, none⟩ = some (.int .i64 0) := kq2.cell 1; have k2s : ∀ u v : Value, ((w2.setCell ⟨w.heap.size, 0, none⟩ u).setCell ⟨w.heap.size, 1, none⟩ v).cell? ⟨g, 1, none⟩ = some (.int .i64 s) := fun u v => HSTO.out w2 _ (Nat.le_refl _) b2w k2 u v)
      | (go_at_call 83; (with_reducible (refine (HAT.out A _ b1w hT).mono ?_)); rintro x w2 ⟨rfl, b2, b2w, k2, k2a⟩)
      | (go_at_call 83; (with_reducible (refine (HAT.out A _ (b1w.alloc b1w.size _) (hTa _)).mono ?_)); rintro x w2 ⟨rfl, b2, b2w, k2, k2a⟩; have kq2 : Blk w2 w1.heap.size 119 #[.int .i64 0, .int .i64 0] := (Blk.new w1 _ _).below b2 (by simp); have f0 := kq2.frozen 0; have f1 := kq2.frozen 1; have r0 : w2.cell? ⟨w1.heap.size, 0, none⟩ = some (.int .i64 0) := kq2.cell 0; have r1 : w2.cell? ⟨w1.heap.size, 1, none⟩ = some (.int .i64 0) := kq2.cell 1; have k2s : ∀ u v : Value, ((w2.setCell ⟨w1.heap.size, 0, none⟩ u).setCell ⟨w1.heap.size, 1, none⟩ v).cell? ⟨g, 1, none⟩ = some (.int .i64 s) := fun u v => HSTO.out w2 _ b1w.size b2w k2 u v))
  all_goals
    clear k0 k0a k1 k1a hT hTa k2a
    first
      | (refine step_world (q := fun WX => EndR w g ⟨m, s, b, l⟩ (c1, c2) WX w.heap.size) (HSET.out w2 _ _ _ b2w (Nat.le_refl _) kq2) ?_; generalize w.heap.size = q)
      | (refine step_world (q := fun WX => EndR w g ⟨m, s, b, l⟩ (c1, c2) WX w1.heap.size) (HSET.out w2 _ _ _ b2w b1w.size kq2) ?_; generalize w1.heap.size = q)
      | (refine step_world (q := fun WX => EndR w g ⟨m, s, b, l⟩ (c1, c2) WX w2.heap.size) (HNEW.out w2 b2w) ?_; generalize w2.heap.size = q)
  all_goals
    rintro WX hE
    obtain ⟨hne, p0, p1, f1, f3, s1, s3⟩ := HFIN.out WX q hE
    have HP := Lib.hid (HPUT.out WX q hE)
    clear hE k2 b1 b1w b2 b2w
    by_cases h1 : c2 = 1
    · obtain rfl : T = L := by rw [← HL.out, if_pos h1]
      subst h1
      go_wp2_with fail
      refine bodyPost_end (results_none rfl _ _ _) rfl ⟨rfl, ?_⟩
      exact HP.out.2
    · obtain rfl : l = L := by rw [← HL.out, if_neg h1]
      have e1 : (c2 == 1) = false := by simpa using h1
      clear h1
      go_wp2_with fail
      refine bodyPost_end (results_none rfl _ _ _) rfl ⟨rfl, ?_⟩
      exact HP.out.1
end Go.Proofs.Ythghedlgeceepaa
