/- Joined texts. Conditions: those that each names. -/
import Derived.Test.YtadejdhdkkfliaaVrbest
namespace Go.Proofs.Ytadejdhdkkfliaa
section
/- What stands around Best: otherRole, plain (the same for the document), alive. Its condition: fewer than 2^20 ports. -/
open Go.RowKit
set_option maxRecDepth 100000

/-- The role of a port that isn't the best one's. -/
def roleO (id : Int) (h : Hd) (o : Vec) : Int := if useB id h = true ∧ ¬ ltV o h.vec then 3 else 2
set_option maxHeartbeats 2000000 in
theorem otherRole_any (id : Int) (h : Hd) (o : Vec) (hr : h.root ≤ 9223372036854775807) (w : World) :
    Calls Try.prog 72 #[.int .i64 id, h.v, o.v] w fun e w' => e = .returned (.int .i64 (roleO id h o)) ∧ Below w.heap.size w w' := by
  have HU := Lib.hid (fun w => useful_any id h hr w)
  obtain ⟨bl, hbl⟩ : ∃ bl, decide (ltV o h.vec) = bl := ⟨_, rfl⟩
  have HB := Lib.hid (fun w => better_any o h.vec w)
  rw [hbl] at HB
  obtain ⟨r, k, b, p, a, c, n⟩ := h
  simp only [Hd.v, Hd.arr, Hd.vec, Vec.v, Vec.arr] at HU HB ⊢
  have k1 := (Blk.new w 86 (Hd.mk r k b p a c n).arr).alloc (.cells o.arr 32)
  have k2 := vec_new w (.cells (Hd.mk r k b p a c n).arr 86) o.arr
  have hb := bel_alloc2 w (.cells (Hd.mk r k b p a c n).arr 86) (.cells o.arr 32)
  have HK := Lib.hid (And.intro k1 (And.intro k2 hb))
  clear k1 k2 hb
  cases hu : useB id ⟨r, k, b, p, a, c, n⟩
  · rw [hu] at HU
    rw [show roleO id ⟨r, k, b, p, a, c, n⟩ o = 2 from if_neg (by simp [hu])]
    clear hu
    go_enter Try.func72, Try.ntmps72
    go_wp2_with fail
    refine (HU.out _).mono ?_
    rintro e w1 ⟨rfl, b1⟩
    have hf := HK.out.2.2.trans (b1.mono HK.out.2.2.size)
    clear b1
    go_wp2_with fail
    go_ret
    exact ⟨rfl, hf⟩
  · rw [hu] at HU
    have HUU := Lib.hid hu
    clear hu
    cases bl
    · have hl := hbl
      rw [show roleO id ⟨r, k, b, p, a, c, n⟩ o = 3 from if_pos ⟨HUU.out, of_decide_eq_false hl⟩]
      clear hl hbl
      go_enter Try.func72, Try.ntmps72
      go_wp2_with fail
      refine (HU.out _).mono ?_
      rintro e w1 ⟨rfl, b1⟩
      have j1 := HK.out.1.below b1 HK.out.1.lt
      have j2 := HK.out.2.1.below b1 HK.out.2.1.lt
      have x0 : w1.cell? ⟨w.heap.size, 0, none⟩ = some (.int .i64 r) := j1.cell 0
      have x1 : w1.cell? ⟨w.heap.size, 1, none⟩ = some (.int .i64 k) := j1.cell 1
      have x2 : w1.cell? ⟨w.heap.size, 2, none⟩ = some (.int .i64 b) := j1.cell 2
      have x3 : w1.cell? ⟨w.heap.size, 3, none⟩ = some (.int .i64 p) := j1.cell 3
      have y0 : w1.cell? ⟨w.heap.size + 1, 0, none⟩ = some (.int .i64 o.root) := j2.cell 0
      have y1 : w1.cell? ⟨w.heap.size + 1, 1, none⟩ = some (.int .i64 o.cost) := j2.cell 1
      have y2 : w1.cell? ⟨w.heap.size + 1, 2, none⟩ = some (.int .i64 o.bridge) := j2.cell 2
      have y3 : w1.cell? ⟨w.heap.size + 1, 3, none⟩ = some (.int .i64 o.port) := j2.cell 3
      have hf := HK.out.2.2.trans (b1.mono HK.out.2.2.size)
      clear b1 j1 j2
      go_wp2_with fail
      refine (HB.out _).mono ?_
      rintro e w2 ⟨rfl, b2⟩
      have hf := hf.trans (b2.mono hf.size)
      clear b2
      go_wp2_with fail
      go_ret
      exact ⟨rfl, hf⟩
    · have hl := hbl
      rw [show roleO id ⟨r, k, b, p, a, c, n⟩ o = 2 from if_neg fun h => absurd (of_decide_eq_true hl) h.2]
      clear hl hbl
      go_enter Try.func72, Try.ntmps72
      go_wp2_with fail
      refine (HU.out _).mono ?_
      rintro e w1 ⟨rfl, b1⟩
      have j1 := HK.out.1.below b1 HK.out.1.lt
      have j2 := HK.out.2.1.below b1 HK.out.2.1.lt
      have x0 : w1.cell? ⟨w.heap.size, 0, none⟩ = some (.int .i64 r) := j1.cell 0
      have x1 : w1.cell? ⟨w.heap.size, 1, none⟩ = some (.int .i64 k) := j1.cell 1
      have x2 : w1.cell? ⟨w.heap.size, 2, none⟩ = some (.int .i64 b) := j1.cell 2
      have x3 : w1.cell? ⟨w.heap.size, 3, none⟩ = some (.int .i64 p) := j1.cell 3
      have y0 : w1.cell? ⟨w.heap.size + 1, 0, none⟩ = some (.int .i64 o.root) := j2.cell 0
      have y1 : w1.cell? ⟨w.heap.size + 1, 1, none⟩ = some (.int .i64 o.cost) := j2.cell 1
      have y2 : w1.cell? ⟨w.heap.size + 1, 2, none⟩ = some (.int .i64 o.bridge) := j2.cell 2
      have y3 : w1.cell? ⟨w.heap.size + 1, 3, none⟩ = some (.int .i64 o.port) := j2.cell 3
      have hf := HK.out.2.2.trans (b1.mono HK.out.2.2.size)
      clear b1 j1 j2
      go_wp2_with fail
      refine (HB.out _).mono ?_
      rintro e w2 ⟨rfl, b2⟩
      have hf := hf.trans (b2.mono hf.size)
      clear b2
      go_wp2_with fail
      go_ret
      exact ⟨rfl, hf⟩
end
section
/- Lists of what was heard: one more, and the same for the document (plain). Its condition: fewer than 2^20 ports. -/
open Go.RowKit
set_option maxRecDepth 100000

theorem append_hd (ts te : TypeId) (hts : Try.prog.underlying ts = some (.slice te)) (hte : (Try.prog.info? te).map (fun i => (i.zero, i.size, i.bytes)) = some (some (.agg #[.int .i64 0, .int .i64 0, .int .i64 0, .int .i64 0, .int .i64 0, .int .i64 0, .bool false]), 7, 56))
    (w : World) (base : Nat) (A0 : Option Addr) (c0 n0 : Nat) (l : List Hd) (hl0 : l.length = n0) (hown : OwnH te w base A0 c0 l) (A : Option Addr) (c n1 B : Nat) (m : List Hd) (hl1 : m.length = n1) (hnone : A = none → c = 0) (hsrc : HdAt w B A m) (hn : l.length + m.length ≤ 1048576) (hbase : base ≤ w.heap.size) :
    ∃ a' c' w', (Builtin.append_ #[ts, ts] ts #[.slice A0 n0 c0, .slice A n1 c]).run Try.prog w = .ok (.slice a' (n0 + n1) c') w' ∧ OwnH te w' base a' c' (l ++ m) ∧ w.grownBy w' (Value.slice A0 n0 c0).ownBlock := by
  subst hl0
  subst hl1
  obtain ⟨i0, hi0, hz0, hz1, hz2⟩ := info_parts hte
  obtain ⟨a', c', w', hr, ho, hg, _, _⟩ := append_src w base ts ts te i0 _ 7 56 hts hi0 hz0 hz1 hz2 rfl (by decide) _ l.length (hdL l) hown A m.length c (hdL m) (by rw [hdL_length]) hnone (fun h0 => hsrc.flat h0)
    (hdL_one m) (by unfold maxLen; omega) (by omega) hbase
  refine ⟨a', c', w', hr, ?_, hg⟩
  unfold OwnH
  rw [hdL_append, List.length_append]
  exact ho
theorem hd_one {w : World} {g : Nat} {t : TypeId} {B : Nat} (x : Hd) (h : Blk w g t x.arr) (hB : g < B) : HdAt w B (some ⟨g, 0, none⟩) [x] := fun q hq => by
  obtain rfl : q = 0 := by simpa using hq
  exact ⟨g, 0, rfl, hB, h.cell 0, h.cell 1, h.cell 2, h.cell 3, h.cell 4, h.cell 5, h.cell 6⟩
theorem take_one (l : List Hd) (j : Nat) (hj : j < l.length) : l.take (j + 1) = l.take j ++ [l.getD j hd0] := by
  have e : l.getD j hd0 = l[j] := by simp [List.getD_eq_getElem?_getD, List.getElem?_eq_getElem hj]
  rw [List.take_succ_eq_append_getElem hj, e]
end
section
/- The document's Role, as a contract. Its condition: fewer than 2^20 ports, and a port that is there. -/
open Go.RowKit
set_option maxRecDepth 100000

theorem HdCells.drew {w : World} {b i : Nat} {h : Hd} (k : HdCells w b i h) : HdCells w.drew b i h := ⟨k.c0, k.c1, k.c2, k.c3, k.c4, k.c5, k.c6⟩
/-- The role of port i. -/
def roleAt (id : Int) (l : List Hd) (i : Nat) : Int := if (i : Int) = (bestTo id l l.length).2 then 1 else roleO id (l.getD i hd0) (offerV (bestTo id l l.length).1 id i)
set_option maxHeartbeats 4000000 in
theorem rrole_any (A : Option Addr) (c : Nat) (id : Int) (l : List Hd) (i : Nat) (w : World) (h : HdAt w w.heap.size A l) (hok : ∀ x ∈ l, x.ok) (hn : l.length ≤ 1048576) (hi : i < l.length) :
    Calls Try.prog 65 #[.int .i64 id, .slice A l.length c, .int .i64 i] w fun e w' => e = .returned (.int .i64 (roleAt id l i)) ∧ Below w.heap.size w w' := by
  have HB := Lib.hid (rbest_any A c id l w h hok hn)
  have hmem : l.getD i hd0 ∈ l := by rw [List.getD_eq_getElem?_getD, List.getElem?_eq_getElem hi]; exact List.getElem_mem hi
  have hxok := hok _ hmem
  obtain ⟨b, off, rfl, hbl, hc⟩ := h i hi
  obtain ⟨x, hx⟩ : ∃ x, l.getD i hd0 = x := ⟨_, rfl⟩
  rw [hx] at hc hxok
  obtain ⟨s, hs⟩ : ∃ s, bestTo id l l.length = s := ⟨_, rfl⟩
  rw [hs] at HB
  obtain ⟨bv, at_⟩ := s
  have hrole : roleAt id l i = if (i : Int) = at_ then 1 else roleO id x (offerV bv id i) := by unfold roleAt; rw [hs, hx]
  rw [hrole]
  obtain ⟨n, hnn⟩ : ∃ n, l.length = n := ⟨_, rfl⟩
  rw [hnn] at HB hi ⊢
  obtain ⟨r, k, bb, p, a, cc, nn⟩ := x
  have HC := Lib.hid (And.intro hc hbl)
  have hr : r ≤ 9223372036854775807 := hxok.1.1.2
  have HU := Lib.hid (fun w => use_any id ⟨r, k, bb, p, a, cc, nn⟩ hr w)
  have HBE := Lib.hid (fun w => rbetter_any (offerV bv id i) (Hd.mk r k bb p a cc nn).vec w)
  obtain ⟨bl, hbl'⟩ : ∃ bl, decide (ltV (offerV bv id i) (Hd.mk r k bb p a cc nn).vec) = bl := ⟨_, rfl⟩
  rw [hbl'] at HBE
  simp only [Hd.v, Hd.arr, Hd.vec, Vec.v, Vec.arr, offerV] at HU HBE HB
  have HBL := Lib.hid hbl'
  have i0 : (0 : Int) ≤ i := by omega
  have i1 : (i : Int) < n := by omega
  clear h hok hn hmem hxok hc hbl hx hs hrole hnn hr hbl' hi
  by_cases hat : (i : Int) = at_
  · rw [if_pos hat]
    have d0 : ((i : Int) == at_) = true := by simpa using hat
    clear hat
    go_enter Try.func65, Try.ntmps65
    go_wp2_with fail
    refine HB.out.mono ?_
    rintro e w1 ⟨rfl, b1⟩
    have hf := b1.trans ((bel_alloc w1 (.cells bv.arr 32)).mono b1.size)
    clear b1
    go_wp2_with fail
    go_ret
    exact ⟨rfl, hf⟩
  · rw [if_neg hat]
    have d0 : ((i : Int) == at_) = false := by simpa using hat
    clear hat
    cases hu : useB id ⟨r, k, bb, p, a, cc, nn⟩
    · rw [hu] at HU
      rw [show roleO id ⟨r, k, bb, p, a, cc, nn⟩ (offerV bv id i) = 2 from if_neg (by simp [hu])]
      clear hu
      go_enter Try.func65, Try.ntmps65
      go_wp2_with fail
      refine HB.out.mono ?_
      rintro e w1 ⟨rfl, b1⟩
      have hc1 := HC.out.1.below b1 HC.out.2
      obtain ⟨q0, q1, q2, q3, q4, q5, q6⟩ := (hc1.below (bel_alloc2 w1 (.cells bv.arr 32) (.cells (offerV bv id i).arr 32)) (Nat.lt_of_lt_of_le HC.out.2 b1.size))
      simp only [Vec.arr, offerV] at q0 q1 q2 q3 q4 q5 q6
      have hf := b1.trans ((bel_alloc2 w1 (.cells bv.arr 32) (.cells (offerV bv id i).arr 32)).mono b1.size)
      clear b1 hc1
      go_wp2_with fail
      refine wp_region_pf (by kernel_rfl) (fun _ _ _ _ _ h => h) (fun hPF => ?_)
      refine wpAny_takeD (i := 0) 26 (v := ?_) hPF rfl rfl (by kernel_rfl) (by kernel_rfl) (by kernel_rfl) (Or.inl ⟨by kernel_rfl, ?_⟩) ?_
      rotate_left
      · intro w; go_simp; try with_reducible rfl
      simp only [Act.put]
      refine wpAny_takeD (i := 1) 27 (v := ?_) hPF rfl rfl (by kernel_rfl) (by kernel_rfl) (by kernel_rfl) (Or.inl ⟨by kernel_rfl, ?_⟩) ?_
      rotate_left
      · intro w; go_simp; try with_reducible rfl
      simp only [Act.put]
      refine wpAny_takeD (i := 2) 28 (v := ?_) hPF rfl rfl (by kernel_rfl) (by kernel_rfl) (by kernel_rfl) (Or.inl ⟨by kernel_rfl, ?_⟩) ?_
      rotate_left
      · intro w; go_simp; try with_reducible rfl
      simp only [Act.put]
      refine wpAny_takeD (i := 4) 30 (v := ?_) hPF rfl rfl (by kernel_rfl) (by kernel_rfl) (by kernel_rfl) (Or.inl ⟨by kernel_rfl, ?_⟩) ?_
      rotate_left
      · intro w; go_simp; try with_reducible rfl
      simp only [Act.put]
      refine wpAny_ready (rs := [3]) (by kernel_rfl) (by simp) ?_
      refine AllReady.cons rfl (fun K hK => ?_) AllReady.nil
      go_simp
      refine hK _ _ ?_
      clear hK K
      refine wpAny_ready (rs := [5]) (by kernel_rfl) (by simp) ?_
      refine AllReady.cons rfl (fun K hK => ?_) AllReady.nil
      go_simp
      go_at_call 74
      refine (HU.out _).mono ?_
      rintro e w2 ⟨rfl, b2⟩
      refine hK _ _ ?_
      clear hK K
      refine wpAny_takeD (i := 6) 32 (v := ?_) hPF rfl rfl (by kernel_rfl) (by kernel_rfl) (by kernel_rfl) (Or.inl ⟨by kernel_rfl, ?_⟩) ?_
      rotate_left
      · intro w; go_simp; try with_reducible rfl
      simp only [Act.put]
      refine wpAny_takeD (i := 7) 33 (v := ?_) hPF rfl rfl (by kernel_rfl) (by kernel_rfl) (by kernel_rfl) (Or.inl ⟨by kernel_rfl, ?_⟩) ?_
      rotate_left
      · intro w; go_simp; try with_reducible rfl
      simp only [Act.put]
      refine wpAny_takeD (i := 8) 34 (v := undef) hPF rfl rfl (by kernel_rfl) (by kernel_rfl) (by kernel_rfl) (Or.inr ⟨by kernel_rfl, rfl⟩) ?_
      simp only [Act.put]
      refine wpAny_takeD (i := 9) 35 (v := undef) hPF rfl rfl (by kernel_rfl) (by kernel_rfl) (by kernel_rfl) (Or.inr ⟨by kernel_rfl, rfl⟩) ?_
      simp only [Act.put]
      refine wpAny_takeD (i := 10) 36 (v := undef) hPF rfl rfl (by kernel_rfl) (by kernel_rfl) (by kernel_rfl) (Or.inr ⟨by kernel_rfl, rfl⟩) ?_
      simp only [Act.put]
      refine wpAny_takeD (i := 11) 37 (v := undef) hPF rfl rfl (by kernel_rfl) (by kernel_rfl) (by kernel_rfl) (Or.inr ⟨by kernel_rfl, rfl⟩) ?_
      simp only [Act.put]
      refine wpAny_takeD (i := 12) 38 (v := undef) hPF rfl rfl (by kernel_rfl) (by kernel_rfl) (by kernel_rfl) (Or.inr ⟨by kernel_rfl, rfl⟩) ?_
      simp only [Act.put]
      refine wpAny_takeD (i := 13) 39 (v := undef) hPF rfl rfl (by kernel_rfl) (by kernel_rfl) (by kernel_rfl) (Or.inr ⟨by kernel_rfl, rfl⟩) ?_
      simp only [Act.put]
      refine wpAny_takeD (i := 14) 40 (v := undef) hPF rfl rfl (by kernel_rfl) (by kernel_rfl) (by kernel_rfl) (Or.inr ⟨by kernel_rfl, rfl⟩) ?_
      simp only [Act.put]
      refine wpAny_takeD (i := 15) 41 (v := ?_) hPF rfl rfl (by kernel_rfl) (by kernel_rfl) (by kernel_rfl) (Or.inl ⟨by kernel_rfl, ?_⟩) ?_
      rotate_left
      · intro w; go_simp; try with_reducible rfl
      simp only [Act.put]
      refine wpAny_done (by kernel_rfl) ?_ _
      simp only [List.setIfInBounds_toArray, List.set_cons_zero, List.set_cons_succ]
      have hf := hf.drew.trans (b2.mono hf.size)
      clear b2 q0 q1 q2 q3 q4 q5 q6
      go_wp2_with fail
      go_ret
      exact ⟨rfl, hf⟩
    · rw [hu] at HU
      have HUU := Lib.hid hu
      clear hu
      cases bl
      · rw [show roleO id ⟨r, k, bb, p, a, cc, nn⟩ (offerV bv id i) = 3 from if_pos ⟨HUU.out, of_decide_eq_false HBL.out⟩]
        go_enter Try.func65, Try.ntmps65
        go_wp2_with fail
        refine HB.out.mono ?_
        rintro e w1 ⟨rfl, b1⟩
        have hc1 := HC.out.1.below b1 HC.out.2
        have kc := (hc1.below (bel_alloc2 w1 (.cells bv.arr 32) (.cells (offerV bv id i).arr 32)) (Nat.lt_of_lt_of_le HC.out.2 b1.size)).drew
        have kz := (vec_new w1 (.cells bv.arr 32) (offerV bv id i).arr).drew
        have hf := (b1.trans ((bel_alloc2 w1 (.cells bv.arr 32) (.cells (offerV bv id i).arr 32)).mono b1.size)).drew
        clear b1 hc1
        go_wp2_with fail
        go_region_held3 (fun w' => w'.cell? ⟨b, off + i * 7, none⟩ = some (.int .i64 r) ∧ w'.cell? ⟨b, off + i * 7 + 1, none⟩ = some (.int .i64 k) ∧ w'.cell? ⟨b, off + i * 7 + 2, none⟩ = some (.int .i64 bb) ∧ w'.cell? ⟨b, off + i * 7 + 3, none⟩ = some (.int .i64 p) ∧ w'.cell? ⟨b, off + i * 7 + 4, none⟩ = some (.int .i64 a) ∧ w'.cell? ⟨b, off + i * 7 + 5, none⟩ = some (.int .i64 cc) ∧ w'.cell? ⟨b, off + i * 7 + 6, none⟩ = some (.bool nn)
          ∧ w'.cell? ⟨w1.heap.size + 1, 0, none⟩ = some (.int .i64 bv.root) ∧ w'.cell? ⟨w1.heap.size + 1, 1, none⟩ = some (.int .i64 bv.cost) ∧ w'.cell? ⟨w1.heap.size + 1, 2, none⟩ = some (.int .i64 id) ∧ w'.cell? ⟨w1.heap.size + 1, 3, none⟩ = some (.int .i64 i))
          (first | exact ⟨kc.c0, kc.c1, kc.c2, kc.c3, kc.c4, kc.c5, kc.c6, kz.cell 0, kz.cell 1, kz.cell 2, kz.cell 3⟩ | exact ⟨kc2.c0, kc2.c1, kc2.c2, kc2.c3, kc2.c4, kc2.c5, kc2.c6, kz2.cell 0, kz2.cell 1, kz2.cell 2, kz2.cell 3⟩ | exact ⟨kc3.c0, kc3.c1, kc3.c2, kc3.c3, kc3.c4, kc3.c5, kc3.c6, kz3.cell 0, kz3.cell 1, kz3.cell 2, kz3.cell 3⟩)
          (first
            | (go_at_call 74; (with_reducible (refine (HU.out _).mono ?_)); rintro e w2 ⟨rfl, b2⟩; have kc2 := kc.below b2 (Nat.lt_of_lt_of_le HC.out.2 hf.size); have kz2 := kz.below b2 kz.lt; have hf2 := hf.trans (b2.mono hf.size))
            | (go_at_call 75; (with_reducible (refine (HBE.out _).mono ?_)); rintro e w3 ⟨rfl, b3⟩; have kc3 := kc2.below b3 (Nat.lt_of_lt_of_le HC.out.2 hf2.size); have kz3 := kz2.below b3 kz2.lt; have hf3 := hf2.trans (b3.mono hf2.size)))
        all_goals
          go_wp2_with fail
          go_ret
          exact ⟨rfl, hf3⟩

      · rw [show roleO id ⟨r, k, bb, p, a, cc, nn⟩ (offerV bv id i) = 2 from if_neg fun h => absurd (of_decide_eq_true HBL.out) h.2]
        go_enter Try.func65, Try.ntmps65
        go_wp2_with fail
        refine HB.out.mono ?_
        rintro e w1 ⟨rfl, b1⟩
        have hc1 := HC.out.1.below b1 HC.out.2
        have kc := (hc1.below (bel_alloc2 w1 (.cells bv.arr 32) (.cells (offerV bv id i).arr 32)) (Nat.lt_of_lt_of_le HC.out.2 b1.size)).drew
        have kz := (vec_new w1 (.cells bv.arr 32) (offerV bv id i).arr).drew
        have hf := (b1.trans ((bel_alloc2 w1 (.cells bv.arr 32) (.cells (offerV bv id i).arr 32)).mono b1.size)).drew
        clear b1 hc1
        go_wp2_with fail
        go_region_held3 (fun w' => w'.cell? ⟨b, off + i * 7, none⟩ = some (.int .i64 r) ∧ w'.cell? ⟨b, off + i * 7 + 1, none⟩ = some (.int .i64 k) ∧ w'.cell? ⟨b, off + i * 7 + 2, none⟩ = some (.int .i64 bb) ∧ w'.cell? ⟨b, off + i * 7 + 3, none⟩ = some (.int .i64 p) ∧ w'.cell? ⟨b, off + i * 7 + 4, none⟩ = some (.int .i64 a) ∧ w'.cell? ⟨b, off + i * 7 + 5, none⟩ = some (.int .i64 cc) ∧ w'.cell? ⟨b, off + i * 7 + 6, none⟩ = some (.bool nn)
          ∧ w'.cell? ⟨w1.heap.size + 1, 0, none⟩ = some (.int .i64 bv.root) ∧ w'.cell? ⟨w1.heap.size + 1, 1, none⟩ = some (.int .i64 bv.cost) ∧ w'.cell? ⟨w1.heap.size + 1, 2, none⟩ = some (.int .i64 id) ∧ w'.cell? ⟨w1.heap.size + 1, 3, none⟩ = some (.int .i64 i))
          (first | exact ⟨kc.c0, kc.c1, kc.c2, kc.c3, kc.c4, kc.c5, kc.c6, kz.cell 0, kz.cell 1, kz.cell 2, kz.cell 3⟩ | exact ⟨kc2.c0, kc2.c1, kc2.c2, kc2.c3, kc2.c4, kc2.c5, kc2.c6, kz2.cell 0, kz2.cell 1, kz2.cell 2, kz2.cell 3⟩ | exact ⟨kc3.c0, kc3.c1, kc3.c2, kc3.c3, kc3.c4, kc3.c5, kc3.c6, kz3.cell 0, kz3.cell 1, kz3.cell 2, kz3.cell 3⟩)
          (first
            | (go_at_call 74; (with_reducible (refine (HU.out _).mono ?_)); rintro e w2 ⟨rfl, b2⟩; have kc2 := kc.below b2 (Nat.lt_of_lt_of_le HC.out.2 hf.size); have kz2 := kz.below b2 kz.lt; have hf2 := hf.trans (b2.mono hf.size))
            | (go_at_call 75; (with_reducible (refine (HBE.out _).mono ?_)); rintro e w3 ⟨rfl, b3⟩; have kc3 := kc2.below b3 (Nat.lt_of_lt_of_le HC.out.2 hf2.size); have kz3 := kz2.below b3 kz2.lt; have hf3 := hf2.trans (b3.mono hf2.size)))
        all_goals
          go_wp2_with fail
          go_ret
          exact ⟨rfl, hf3⟩
end
end Go.Proofs.Ytadejdhdkkfliaa
