/- The document's Best of a bridge. Its conditions: up to six ports, numbers within their ranges. -/
import Derived.Test.YtonkmbnnbpbhiaaRthear
import Derived.Test.YtonkmbnnbpbhiaaRtlast
namespace Go.Proofs.Ytonkmbnnbpbhiaa
open Go.RowKit
set_option maxRecDepth 100000

theorem keep4 {w : World} {g d : Nat} (hne : d ≠ g) (a b c e : Value) {u : Option Value} (h : w.cell? ⟨d, 0, none⟩ = u) : ((((w.setCell ⟨g, 0, none⟩ a).setCell ⟨g, 1, none⟩ b).setCell ⟨g, 2, none⟩ c).setCell ⟨g, 3, none⟩ e).cell? ⟨d, 0, none⟩ = u := by
  have q : ∀ (w : World) (i : Nat) (x : Value), (w.setCell ⟨g, i, none⟩ x).cell? ⟨d, 0, none⟩ = w.cell? ⟨d, 0, none⟩ := fun w i x => World.cell?_of_block (Below.heap_setCell w ⟨g, i, none⟩ x d hne)
  rw [q, q, q, q]
  exact h
def put4 (w : World) (g : Nat) (a b c e : Int) : World := (((w.setCell ⟨g, 0, none⟩ (.int .i64 a)).setCell ⟨g, 1, none⟩ (.int .i64 b)).setCell ⟨g, 2, none⟩ (.int .i64 c)).setCell ⟨g, 3, none⟩ (.int .i64 e)
theorem results_ctt {fn : Func} {p u v : Tmp} (h : fn.results = #[.cell p 32, .tmp u, .tmp v]) (tmps : Array Value) (w : World) (g : Nat) (t : TypeId) (cs : Array Value)
    (hp : tmps.getD p undef = .pointer (some ⟨g, 0, none⟩)) (hg : Blk w g t cs) (hc : cs.size = 4) :
    (results fn tmps).run Try.prog w = .ok (.tuple #[.agg cs, tmps.getD u undef, tmps.getD v undef]) w := by
  have hl := run_loadVar_row w g t 32 cs (0, 0) _ hg Try.underlying32 rfl (by rw [vec_size, hc])
  simp only [results, h]
  have hp' : tmps[p]?.getD undef = .pointer (some ⟨g, 0, none⟩) := by simpa using hp
  simp [Result.andThen, hp', asAddr, hl]
section
variable {w : World} {base d gp go m cap : Nat} {f : Nat → Pt} {op : Nat → Bool} {id ch : Int} {TU : Nat → List (Int × Int)} {AA : Nat → Option Addr} {CC : Nat → Nat}
theorem best_end {W0 : World} {g : Nat} (h : DocAt w base d gp go cap id m f TU AA CC op ch) (bW : Below W0.heap.size W0 w) (hz : Blk w g 32 #[.int .i64 0, .int .i64 0, .int .i64 0, .int .i64 0]) (hr : Blk w W0.heap.size 32 #[.int .i64 0, .int .i64 0, .int .i64 0, .int .i64 0]) (hne : W0.heap.size < g) (a b c e : Int) :
    DocAt (put4 w g a b c e) base d gp go cap id m f TU AA CC op ch ∧ Below W0.heap.size W0 (put4 w g a b c e) ∧ Blk (put4 w g a b c e) g 32 #[.int .i64 a, .int .i64 b, .int .i64 c, .int .i64 e] ∧ Blk (put4 w g a b c e) W0.heap.size 32 #[.int .i64 0, .int .i64 0, .int .i64 0, .int .i64 0] := by
  have ht : Touch (fun k => k = g) w (put4 w g a b c e) := (((Touch.refl (fun k => k = g) w).set_ (a := ⟨g, 0, none⟩) (fun _ => rfl) _).set_ (a := ⟨g, 1, none⟩) (fun _ => rfl) _).set_ (a := ⟨g, 2, none⟩) (fun _ => rfl) _ |>.set_ (a := ⟨g, 3, none⟩) (fun _ => rfl) _
  refine ⟨h.touch ht fun k hk hq => ?_, ?_, (((hz.set_ 0 _).set_ 1 _).set_ 2 _).set_ 3 _, hr.touch ht (Nat.ne_of_lt hne)⟩
  · subst hk
    obtain ⟨_, t, cs, hb, ht⟩ := hq
    have e := blk_type hz hb
    subst e
    exact absurd ht (by decide)
  · exact ⟨ht.os.trans bW.os, ht.tape.trans bW.tape, ht.output.trans bW.output, Nat.le_trans bW.size ht.size, fun k hk => (ht.block k (Nat.lt_of_lt_of_le hk bW.size) (by omega)).trans (bW.block k hk)⟩
theorem best_new {W0 : World} (h : DocAt w base d gp go cap id m f TU AA CC op ch) (bW : Below W0.heap.size W0 w) (hr : Blk w W0.heap.size 32 #[.int .i64 0, .int .i64 0, .int .i64 0, .int .i64 0]) (a b c e : Int) :
    DocAt (w.alloc (.cells #[.int .i64 a, .int .i64 b, .int .i64 c, .int .i64 e] 32)) base d gp go cap id m f TU AA CC op ch ∧ Below W0.heap.size W0 (w.alloc (.cells #[.int .i64 a, .int .i64 b, .int .i64 c, .int .i64 e] 32)) ∧ Blk (w.alloc (.cells #[.int .i64 a, .int .i64 b, .int .i64 c, .int .i64 e] 32)) w.heap.size 32 #[.int .i64 a, .int .i64 b, .int .i64 c, .int .i64 e] ∧ Blk (w.alloc (.cells #[.int .i64 a, .int .i64 b, .int .i64 c, .int .i64 e] 32)) W0.heap.size 32 #[.int .i64 0, .int .i64 0, .int .i64 0, .int .i64 0] :=
  ⟨h.alloc _, bW.alloc bW.size _, Blk.new w _ _, hr.alloc _⟩
theorem best_ret {W0 : World} (bW : Below W0.heap.size W0 w) (hr : Blk w W0.heap.size 32 #[.int .i64 0, .int .i64 0, .int .i64 0, .int .i64 0]) (a b c e : Int) : Below W0.heap.size W0 (put4 w W0.heap.size a b c e) ∧ Blk (put4 w W0.heap.size a b c e) W0.heap.size 32 #[.int .i64 a, .int .i64 b, .int .i64 c, .int .i64 e] := by
  have ht : Touch (fun k => k = W0.heap.size) w (put4 w W0.heap.size a b c e) := (((Touch.refl (fun k => k = W0.heap.size) w).set_ (a := ⟨W0.heap.size, 0, none⟩) (fun _ => rfl) _).set_ (a := ⟨W0.heap.size, 1, none⟩) (fun _ => rfl) _).set_ (a := ⟨W0.heap.size, 2, none⟩) (fun _ => rfl) _ |>.set_ (a := ⟨W0.heap.size, 3, none⟩) (fun _ => rfl) _
  exact ⟨⟨ht.os.trans bW.os, ht.tape.trans bW.tape, ht.output.trans bW.output, Nat.le_trans bW.size ht.size, fun k hk => (ht.block k (Nat.lt_of_lt_of_le hk bW.size) (by omega)).trans (bW.block k hk)⟩, (((hr.set_ 0 _).set_ 1 _).set_ 2 _).set_ 3 _⟩
theorem step_world {E : Exit → Act → World → Prop} {e : Exit} {a : Act} {w0 : World} {q : World → Prop} (hq : q w0) (h : ∀ W, q W → E e a W) : E e a w0 := h w0 hq
set_option maxHeartbeats 4000000 in
theorem rtbest_any (h : DocAt w base d gp go cap id m f TU AA CC op ch) (hm : m ≤ 6) {T : Int} (hok : POk T m f) :
    Calls Try.prog 48 #[.pointer (some ⟨d, 0, none⟩)] w fun e w' => e = .returned (.tuple #[(bestP id m f).1.v, .int .i64 (bestP id m f).2, .int .i64 (ageP id m f)]) ∧ Below w.heap.size w w' := by
  have H := Lib.hid h
  have d0 := h.d0
  have hcm : (m : Int) ≤ cap := by have := h.cap; omega
  have hcm' : m ≤ cap := h.cap
  have m0 : (0 : Int) ≤ m := by omega
  have HL := Lib.hid (fun (w : World) (h : DocAt w base d gp go cap id m f TU AA CC op ch) => rlist_any h hm)
  have hmem : ∀ x ∈ hds m f, x.ok := fun x hx => by
    unfold hds at hx
    obtain ⟨i, hi, rfl⟩ := List.mem_map.1 hx
    exact (hok i (List.mem_range.1 hi)).hd
  have HB := Lib.hid (fun (A : Option Addr) (c : Nat) (w : World) (h : HdAt w w.heap.size A (hds m f)) => rbest_any A c id (hds m f) w h hmem (by rw [hds_len]; omega))
  rw [hds_len] at HB
  have hlow := best_low id m f
  have hage := age_low id m f
  have hsp := bestP_spec id m f
  obtain ⟨bp, hbp⟩ : ∃ bp, bestP id m f = bp := ⟨_, rfl⟩
  have hbp' : bestTo id (hds m f) m = bp := hbp
  rw [hbp'] at HB
  obtain ⟨ag, hag⟩ : ∃ ag, ageP id m f = ag := ⟨_, rfl⟩
  have hag2 : ag = if bp.2 < 0 then 0 else (f bp.2.toNat).age + 1 := by rw [← hag, ← hbp]; rfl
  rw [hbp] at hlow hsp ⊢
  rw [hag] at hage ⊢
  obtain ⟨⟨br, bc, bb, bq⟩, rt⟩ := bp
  simp only [Vec.v, Vec.arr] at HB ⊢
  have hrt : rt < 0 ∨ ∃ k : Nat, k < m ∧ rt = k := by
    rcases hsp.1 with h1 | ⟨k, hk, e, _⟩
    · have := congrArg Prod.snd h1.1
      simp only at this
      exact .inl (by rw [this]; decide)
    · have := congrArg Prod.snd e
      simp only at this
      exact .inr ⟨k, hk, this⟩
  clear hbp hbp' hag hsp hok hlow hmem
  obtain ⟨W, hW⟩ : ∃ W, w.alloc (.cells #[.int .i64 0, .int .i64 0, .int .i64 0, .int .i64 0] 32) = W := ⟨_, rfl⟩
  have hx : DocAt W base d gp go cap id m f TU AA CC op ch := by rw [← hW]; exact h.alloc _
  have hbe : Below w.heap.size w W := by rw [← hW]; exact bel_alloc w _
  have hbk : Blk W w.heap.size 32 #[.int .i64 0, .int .i64 0, .int .i64 0, .int .i64 0] := by rw [← hW]; exact Blk.new w _ _
  have d0 := hx.d0
  have H := Lib.hid (And.intro hx (And.intro hbe hbk))
  clear hx hbe hbk
  rcases hrt with hn | ⟨k, hk, rfl⟩
  · rw [if_pos hn] at hag2
    subst hag2
    clear hage h
    go_enter Try.func48, Try.ntmps48
    go_wp2_with fail
    clear hW
    have xA := fun o : Obj => (H.out.1.alloc o).drew
    have bA := fun o : Obj => (bel_alloc W o).drew
    go_region_held3 (fun w' => w'.cell? ⟨d, 0, none⟩ = some (.int .i64 id))
      (first
        | (with_reducible exact H.out.1.drew.d0)
        | (with_reducible exact (xA _).d0)
        | (with_reducible exact x1.d0)
        | (with_reducible exact (x1.alloc _).d0)
        | (with_reducible exact x2.d0)
        | (with_reducible exact (x2.alloc _).d0)
        | (with_reducible exact keep4 (Nat.ne_of_lt H.out.1.top.lt) _ _ _ _ x2.d0)
        | (with_reducible exact keep4 (Nat.ne_of_lt x1.top.lt) _ _ _ _ x2.d0)
        | (with_reducible exact keep4 (Nat.ne_of_lt x2.top.lt) _ _ _ _ (x2.alloc _).d0))
      (first
        | (go_at_call 64; (with_reducible (refine (HL.out _ H.out.1.drew).mono ?_)); rintro e w1 ⟨A, c, rfl, ho, b1⟩; have x1 : DocAt w1 base d gp go cap id m f TU AA CC op ch := H.out.1.drew.below b1; have q1 : Below W.heap.size W w1 := Below.drewn b1; have hA := fun o : Obj => (ho.at_.below (bel_alloc w1 o)).more (bel_alloc w1 o).size)
        | (go_at_call 64; (with_reducible (refine (HL.out _ (xA _)).mono ?_)); rintro e w1 ⟨A, c, rfl, ho, b1⟩; have x1 : DocAt w1 base d gp go cap id m f TU AA CC op ch := (xA _).below b1; have q1 : Below W.heap.size W w1 := (bA _).trans (b1.mono (bA _).size); have zb : Blk w1 W.heap.size 32 #[.int .i64 0, .int .i64 0, .int .i64 0, .int .i64 0] := Blk.below (Blk.drew (Blk.new W _ _)) b1 (Blk.new W 32 #[.int .i64 0, .int .i64 0, .int .i64 0, .int .i64 0]).lt)
        | (go_at_call 67; have zb2 := zb; (with_reducible (refine (HB.out A c _ ho.at_).mono ?_)); rintro e w2 ⟨rfl, b2⟩; have q2 : Below W.heap.size W w2 := q1.trans (b2.mono q1.size); have x2 : DocAt w2 base d gp go cap id m f TU AA CC op ch := x1.below b2; have zc := zb.below b2 zb.lt; have z0 : w2.cell? ⟨W.heap.size, 0, none⟩ = some (.int .i64 0) := zc.cell 0; have y0 := zc.frozen 0; have z1 : w2.cell? ⟨W.heap.size, 1, none⟩ = some (.int .i64 0) := zc.cell 1; have y1 := zc.frozen 1; have z2 : w2.cell? ⟨W.heap.size, 2, none⟩ = some (.int .i64 0) := zc.cell 2; have y2 := zc.frozen 2; have z3 : w2.cell? ⟨W.heap.size, 3, none⟩ = some (.int .i64 0) := zc.cell 3; have y3 := zc.frozen 3; have zr : Blk w2 w.heap.size 32 #[.int .i64 0, .int .i64 0, .int .i64 0, .int .i64 0] := Blk.below H.out.2.2 q2 H.out.2.2.lt; have bt : Below w.heap.size w w2 := H.out.2.1.trans (q2.mono H.out.2.1.size); have HEND := Lib.hid (best_end x2 bt zc zr (Nat.lt_of_lt_of_le H.out.2.2.lt (Nat.le_refl _)) br bc bb bq); clear zb zb2 zc zr bt)
        | (go_at_call 67; (with_reducible (refine (HB.out A c _ (hA _)).mono ?_)); rintro e w2 ⟨rfl, b2⟩; have q2 : Below W.heap.size W w2 := (q1.alloc q1.size _).trans (b2.mono (q1.alloc q1.size _).size); have x2 : DocAt w2 base d gp go cap id m f TU AA CC op ch := (x1.alloc _).below b2; have zc : Blk w2 w1.heap.size 32 #[.int .i64 0, .int .i64 0, .int .i64 0, .int .i64 0] := Blk.below (Blk.new w1 _ _) b2 (Blk.new w1 32 #[.int .i64 0, .int .i64 0, .int .i64 0, .int .i64 0]).lt; have z0 : w2.cell? ⟨w1.heap.size, 0, none⟩ = some (.int .i64 0) := zc.cell 0; have y0 := zc.frozen 0; have z1 : w2.cell? ⟨w1.heap.size, 1, none⟩ = some (.int .i64 0) := zc.cell 1; have y1 := zc.frozen 1; have z2 : w2.cell? ⟨w1.heap.size, 2, none⟩ = some (.int .i64 0) := zc.cell 2; have y2 := zc.frozen 2; have z3 : w2.cell? ⟨w1.heap.size, 3, none⟩ = some (.int .i64 0) := zc.cell 3; have y3 := zc.frozen 3; have zr : Blk w2 w.heap.size 32 #[.int .i64 0, .int .i64 0, .int .i64 0, .int .i64 0] := Blk.below H.out.2.2 q2 H.out.2.2.lt; have bt : Below w.heap.size w w2 := H.out.2.1.trans (q2.mono H.out.2.1.size); have HEND := Lib.hid (best_end x2 bt zc zr (Nat.lt_of_lt_of_le H.out.2.2.lt q1.size) br bc bb bq); clear zc zr bt)
        | (go_at_call 67; (with_reducible (refine (HB.out A c _ ho.at_).mono ?_)); rintro e w2 ⟨rfl, b2⟩; have q2 : Below W.heap.size W w2 := q1.trans (b2.mono q1.size); have x2 : DocAt w2 base d gp go cap id m f TU AA CC op ch := x1.below b2; have zr : Blk w2 w.heap.size 32 #[.int .i64 0, .int .i64 0, .int .i64 0, .int .i64 0] := Blk.below H.out.2.2 q2 H.out.2.2.lt; have bt : Below w.heap.size w w2 := H.out.2.1.trans (q2.mono H.out.2.1.size); have HEND := Lib.hid (best_new x2 bt zr br bc bb bq); clear zr bt))
    all_goals
      clear d0
      first
        | (refine step_world (q := fun WX => DocAt WX base d gp go cap id m f TU AA CC op ch ∧ Below w.heap.size w WX ∧ Blk WX W.heap.size 32 #[.int .i64 br, .int .i64 bc, .int .i64 bb, .int .i64 bq] ∧ Blk WX w.heap.size 32 #[.int .i64 0, .int .i64 0, .int .i64 0, .int .i64 0]) HEND.out ?_; generalize W.heap.size = vb)
        | (refine step_world (q := fun WX => DocAt WX base d gp go cap id m f TU AA CC op ch ∧ Below w.heap.size w WX ∧ Blk WX w1.heap.size 32 #[.int .i64 br, .int .i64 bc, .int .i64 bb, .int .i64 bq] ∧ Blk WX w.heap.size 32 #[.int .i64 0, .int .i64 0, .int .i64 0, .int .i64 0]) HEND.out ?_; generalize w1.heap.size = vb)
        | (refine step_world (q := fun WX => DocAt WX base d gp go cap id m f TU AA CC op ch ∧ Below w.heap.size w WX ∧ Blk WX w2.heap.size 32 #[.int .i64 br, .int .i64 bc, .int .i64 bb, .int .i64 bq] ∧ Blk WX w.heap.size 32 #[.int .i64 0, .int .i64 0, .int .i64 0, .int .i64 0]) HEND.out ?_; generalize w2.heap.size = vb)
    all_goals
      rintro WX ⟨hX, bX, vX, rX⟩
      have HX := Lib.hid (best_ret bX rX br bc bb bq)
      have v0 := vX.cell 0
      have v1 := vX.cell 1
      have v2 := vX.cell 2
      have v3 := vX.cell 3
      have r0 := rX.cell 0
      have r1 := rX.cell 1
      have r2 := rX.cell 2
      have r3 := rX.cell 3
      have s0 := rX.frozen 0
      have s1 := rX.frozen 1
      have s2 := rX.frozen 2
      have s3 := rX.frozen 3
      simp only [List.getElem?_toArray, List.getElem?_cons_zero, List.getElem?_cons_succ] at v0 v1 v2 v3 r0 r1 r2 r3
      clear hX bX vX rX
      go_wp2_with fail
      exact bodyPost_ret (results_ctt rfl _ _ w.heap.size 32 _ rfl HX.out.2 rfl) rfl ⟨rfl, HX.out.1⟩
  · have hk0 : ¬ ((k : Int) < 0) := by omega
    rw [if_neg hk0, Int.toNat_natCast] at hag2
    have j1 : (k : Int) < m := by omega
    have j0 : (0 : Int) ≤ k := by omega
    have dk : decide ((k : Int) < 0) = false := decide_eq_false hk0
    have hw : wrap64 ((f k).age + 1) = ag := by rw [← hag2]; exact IntWalk.wrap64_in _ (by have := hage.1; have := hage.2.1; omega)
    have HK := Lib.hid hk
    have nd : d ≠ w.heap.size := Nat.ne_of_lt h.top.lt
    have ng : gp ≠ w.heap.size := Nat.ne_of_lt h.ports.lt
    clear hage h hk hk0 hag2
    subst hw
    go_enter Try.func48, Try.ntmps48
    go_wp2_with fail
    clear hW
    have xA := fun o : Obj => (H.out.1.alloc o).drew
    have bA := fun o : Obj => (bel_alloc W o).drew
    go_region_held3 (fun w' => w'.cell? ⟨d, 0, none⟩ = some (.int .i64 id))
      (first
        | (with_reducible exact H.out.1.drew.d0)
        | (with_reducible exact (xA _).d0)
        | (with_reducible exact x1.d0)
        | (with_reducible exact (x1.alloc _).d0)
        | (with_reducible exact x2.d0)
        | (with_reducible exact (x2.alloc _).d0)
        | (with_reducible exact keep4 (Nat.ne_of_lt H.out.1.top.lt) _ _ _ _ x2.d0)
        | (with_reducible exact keep4 (Nat.ne_of_lt x1.top.lt) _ _ _ _ x2.d0)
        | (with_reducible exact keep4 (Nat.ne_of_lt x2.top.lt) _ _ _ _ (x2.alloc _).d0))
      (first
        | (go_at_call 64; (with_reducible (refine (HL.out _ H.out.1.drew).mono ?_)); rintro e w1 ⟨A, c, rfl, ho, b1⟩; have x1 : DocAt w1 base d gp go cap id m f TU AA CC op ch := H.out.1.drew.below b1; have q1 : Below W.heap.size W w1 := Below.drewn b1; have hA := fun o : Obj => (ho.at_.below (bel_alloc w1 o)).more (bel_alloc w1 o).size)
        | (go_at_call 64; (with_reducible (refine (HL.out _ (xA _)).mono ?_)); rintro e w1 ⟨A, c, rfl, ho, b1⟩; have x1 : DocAt w1 base d gp go cap id m f TU AA CC op ch := (xA _).below b1; have q1 : Below W.heap.size W w1 := (bA _).trans (b1.mono (bA _).size); have zb : Blk w1 W.heap.size 32 #[.int .i64 0, .int .i64 0, .int .i64 0, .int .i64 0] := Blk.below (Blk.drew (Blk.new W _ _)) b1 (Blk.new W 32 #[.int .i64 0, .int .i64 0, .int .i64 0, .int .i64 0]).lt)
        | (go_at_call 67; have zb2 := zb; (with_reducible (refine (HB.out A c _ ho.at_).mono ?_)); rintro e w2 ⟨rfl, b2⟩; have q2 : Below W.heap.size W w2 := q1.trans (b2.mono q1.size); have x2 : DocAt w2 base d gp go cap id m f TU AA CC op ch := x1.below b2; have zc := zb.below b2 zb.lt; have z0 : w2.cell? ⟨W.heap.size, 0, none⟩ = some (.int .i64 0) := zc.cell 0; have y0 := zc.frozen 0; have z1 : w2.cell? ⟨W.heap.size, 1, none⟩ = some (.int .i64 0) := zc.cell 1; have y1 := zc.frozen 1; have z2 : w2.cell? ⟨W.heap.size, 2, none⟩ = some (.int .i64 0) := zc.cell 2; have y2 := zc.frozen 2; have z3 : w2.cell? ⟨W.heap.size, 3, none⟩ = some (.int .i64 0) := zc.cell 3; have y3 := zc.frozen 3; have zr : Blk w2 w.heap.size 32 #[.int .i64 0, .int .i64 0, .int .i64 0, .int .i64 0] := Blk.below H.out.2.2 q2 H.out.2.2.lt; have bt : Below w.heap.size w w2 := H.out.2.1.trans (q2.mono H.out.2.1.size); have HEND := Lib.hid (best_end x2 bt zc zr (Nat.lt_of_lt_of_le H.out.2.2.lt (Nat.le_refl _)) br bc bb bq); clear zb zb2 zc zr bt)
        | (go_at_call 67; (with_reducible (refine (HB.out A c _ (hA _)).mono ?_)); rintro e w2 ⟨rfl, b2⟩; have q2 : Below W.heap.size W w2 := (q1.alloc q1.size _).trans (b2.mono (q1.alloc q1.size _).size); have x2 : DocAt w2 base d gp go cap id m f TU AA CC op ch := (x1.alloc _).below b2; have zc : Blk w2 w1.heap.size 32 #[.int .i64 0, .int .i64 0, .int .i64 0, .int .i64 0] := Blk.below (Blk.new w1 _ _) b2 (Blk.new w1 32 #[.int .i64 0, .int .i64 0, .int .i64 0, .int .i64 0]).lt; have z0 : w2.cell? ⟨w1.heap.size, 0, none⟩ = some (.int .i64 0) := zc.cell 0; have y0 := zc.frozen 0; have z1 : w2.cell? ⟨w1.heap.size, 1, none⟩ = some (.int .i64 0) := zc.cell 1; have y1 := zc.frozen 1; have z2 : w2.cell? ⟨w1.heap.size, 2, none⟩ = some (.int .i64 0) := zc.cell 2; have y2 := zc.frozen 2; have z3 : w2.cell? ⟨w1.heap.size, 3, none⟩ = some (.int .i64 0) := zc.cell 3; have y3 := zc.frozen 3; have zr : Blk w2 w.heap.size 32 #[.int .i64 0, .int .i64 0, .int .i64 0, .int .i64 0] := Blk.below H.out.2.2 q2 H.out.2.2.lt; have bt : Below w.heap.size w w2 := H.out.2.1.trans (q2.mono H.out.2.1.size); have HEND := Lib.hid (best_end x2 bt zc zr (Nat.lt_of_lt_of_le H.out.2.2.lt q1.size) br bc bb bq); clear zc zr bt)
        | (go_at_call 67; (with_reducible (refine (HB.out A c _ ho.at_).mono ?_)); rintro e w2 ⟨rfl, b2⟩; have q2 : Below W.heap.size W w2 := q1.trans (b2.mono q1.size); have x2 : DocAt w2 base d gp go cap id m f TU AA CC op ch := x1.below b2; have zr : Blk w2 w.heap.size 32 #[.int .i64 0, .int .i64 0, .int .i64 0, .int .i64 0] := Blk.below H.out.2.2 q2 H.out.2.2.lt; have bt : Below w.heap.size w w2 := H.out.2.1.trans (q2.mono H.out.2.1.size); have HEND := Lib.hid (best_new x2 bt zr br bc bb bq); clear zr bt))
    all_goals
      clear d0
      first
        | (refine step_world (q := fun WX => DocAt WX base d gp go cap id m f TU AA CC op ch ∧ Below w.heap.size w WX ∧ Blk WX W.heap.size 32 #[.int .i64 br, .int .i64 bc, .int .i64 bb, .int .i64 bq] ∧ Blk WX w.heap.size 32 #[.int .i64 0, .int .i64 0, .int .i64 0, .int .i64 0]) HEND.out ?_; generalize W.heap.size = vb)
        | (refine step_world (q := fun WX => DocAt WX base d gp go cap id m f TU AA CC op ch ∧ Below w.heap.size w WX ∧ Blk WX w1.heap.size 32 #[.int .i64 br, .int .i64 bc, .int .i64 bb, .int .i64 bq] ∧ Blk WX w.heap.size 32 #[.int .i64 0, .int .i64 0, .int .i64 0, .int .i64 0]) HEND.out ?_; generalize w1.heap.size = vb)
        | (refine step_world (q := fun WX => DocAt WX base d gp go cap id m f TU AA CC op ch ∧ Below w.heap.size w WX ∧ Blk WX w2.heap.size 32 #[.int .i64 br, .int .i64 bc, .int .i64 bb, .int .i64 bq] ∧ Blk WX w.heap.size 32 #[.int .i64 0, .int .i64 0, .int .i64 0, .int .i64 0]) HEND.out ?_; generalize w2.heap.size = vb)
    all_goals
      rintro WX ⟨hX, bX, vX, rX⟩
      have HX := Lib.hid (best_ret bX rX br bc bb bq)
      have d1 := hX.d1
      have c6 := (hX.ports.cells HK.out).c6
      have v0 := vX.cell 0
      have v1 := vX.cell 1
      have v2 := vX.cell 2
      have v3 := vX.cell 3
      have r0 := rX.cell 0
      have r1 := rX.cell 1
      have r2 := rX.cell 2
      have r3 := rX.cell 3
      have s0 := rX.frozen 0
      have s1 := rX.frozen 1
      have s2 := rX.frozen 2
      have s3 := rX.frozen 3
      simp only [List.getElem?_toArray, List.getElem?_cons_zero, List.getElem?_cons_succ] at v0 v1 v2 v3 r0 r1 r2 r3
      clear hX bX vX rX
      go_wp2_with fail
      go_region
      go_wp2_with fail
      first
        | exact bodyPost_ret (results_ctt rfl _ _ w.heap.size 32 _ rfl HX.out.2 rfl) rfl ⟨rfl, HX.out.1⟩
        | exact bodyPost_ret (results_ctt rfl _ _ w.heap.size 32 _ rfl (Blk.drew HX.out.2) rfl) rfl ⟨rfl, HX.out.1.drew⟩
end
end Go.Proofs.Ytonkmbnnbpbhiaa
