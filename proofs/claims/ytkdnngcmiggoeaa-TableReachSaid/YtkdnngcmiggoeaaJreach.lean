/- Reach: the states that are come to. Its condition: up to 2^20 states. -/
import Derived.Test.YtkdnngcmiggoeaaJsort
import Derived.Test.YtkdnngcmiggoeaaJplain
import Derived.Deep.RegionLaw
namespace Go.Proofs.Ytkdnngcmiggoeaa
open Go.RowKit
set_option maxRecDepth 100000

theorem jbool_info : (Try.prog.info? 4).map (fun i => (i.zero, i.size, i.bytes)) = some (some (.bool false), 1, 1) := by kernel_rfl
def boA (S : List Bool) : Array Value := (S.map Value.bool).toArray
/-- A row of marks as it lies. -/
def Bo (w : World) (g : Nat) (S : List Bool) : Prop := Blk w g 4 (boA S)
theorem make_bools (n : Nat) (hn : n ≤ 1000000) (w : World) : (Instr.makeSlice 65 (.int .i64 n) (.int .i64 n)).run Try.prog w = .ok (.slice (some ⟨w.heap.size, 0, none⟩) n n) (w.alloc (.cells (boA (List.replicate n false)) 4)) := by
  obtain ⟨i0, hi0, hz0, hz1, hz2⟩ := info_parts jbool_info
  have h := run_makeSlice (P := Try.prog) w 65 4 i0 _ Try.underlying65 hi0 hz0 .i64 .i64 n n (by omega) (Int.le_refl _) (by rw [hz1]; simp; omega) (by rw [hz2]; omega) (by omega)
  rw [hz1] at h
  simp only [Int.toNat_natCast, Nat.mul_one] at h
  have e : madeCells (Value.bool false).cells n = boA (List.replicate n false) := by
    apply Array.toList_inj.1
    rw [show (Value.bool false).cells = #[Value.bool false] from rfl, toList_madeCells_one]
    simp [boA]
  rw [e] at h
  exact h
section
variable {w w' : World} {g : Nat} {S : List Bool}
theorem Bo.cell (h : Bo w g S) {b : Nat} (hb : b < S.length) : w.cell? ⟨g, b, none⟩ = some (.bool (S.getD b false)) := by
  refine (Blk.cell h b).trans ?_
  unfold boA
  rw [List.getElem?_toArray, List.getElem?_map, List.getD_eq_getElem?_getD, List.getElem?_eq_getElem hb]
  rfl
theorem Bo.mark (h : Bo w g S) (b : Nat) : Bo (w.setCell ⟨g, b, none⟩ (.bool true)) g (S.set b true) := by
  have := Blk.set_ h b (.bool true)
  have e : (boA S).setIfInBounds b (.bool true) = boA (S.set b true) := by
    unfold boA
    rw [List.map_set]
    simp
  rw [e] at this
  exact this
end
theorem bel_set {w0 w : World} {g b : Nat} (hb : Below w0.heap.size w0 w) (hg : w0.heap.size ≤ g) (u : Value) : Below w0.heap.size w0 (w.setCell ⟨g, b, none⟩ u) := by
  have ht : Touch (fun k => k = g) w (w.setCell ⟨g, b, none⟩ u) := (Touch.refl (fun k => k = g) w).set_ (a := ⟨g, b, none⟩) (fun _ => rfl) _
  exact ⟨ht.os.trans hb.os, ht.tape.trans hb.tape, ht.output.trans hb.output, Nat.le_trans hb.size ht.size, fun k hk => (ht.block k (Nat.lt_of_lt_of_le hk hb.size) (by omega)).trans (hb.block k hk)⟩
/-- What is known between two rounds. -/
structure RS (w wr : World) (t : Tb) (s G : Nat) (L : List Nat) (S : List Bool) (A : Option Addr) (c : Nat) : Prop where
  bfs : Bfs t s L S
  own : OwnN wr w.heap.size A c (L.map Int.ofNat)
  seen : Bo wr G S
  base : w.heap.size ≤ G
  bel : Below w.heap.size w wr
theorem own_one (w : World) (base : Nat) (v : Int) (hb : base ≤ w.heap.size) : OwnN (w.alloc (.cells #[.int .i64 v] 3)) base (some ⟨w.heap.size, 0, none⟩) 1 [v] :=
  ⟨rfl, .inr ⟨w.heap.size, 1, #[.int .i64 v], rfl, hb, Blk.new w 3 _, Nat.le_refl _, by unfold maxLen; omega, rfl, rfl⟩⟩
/-- Both rows made, in either order, and the first state marked. -/
theorem init_ab {w w1 : World} {t : Tb} {k : Nat} (hk : k < t.length) (b1 : Below w.heap.size w w1) {W : World} (hW : ((w1.alloc (.cells #[.int .i64 k] 3)).alloc (.cells (boA (List.replicate t.length false)) 4)).drew = W) :
    RS w (W.setCell ⟨w1.heap.size + 1, k, none⟩ (.bool true)) t k (w1.heap.size + 1) [k] (start t.length k) (some ⟨w1.heap.size, 0, none⟩) 1 ∧ W.frozen? ⟨w1.heap.size + 1, k, none⟩ = false ∧ W.cell? ⟨w1.heap.size + 1, k, none⟩ = some (.bool false) := by
  have o := own_one w1 w.heap.size k b1.size
  have hs : (w1.alloc (.cells #[.int .i64 (k : Int)] 3)).heap.size = w1.heap.size + 1 := by simp
  have kb := Blk.new (w1.alloc (.cells #[.int .i64 (k : Int)] 3)) 4 (boA (List.replicate t.length false))
  rw [hs] at kb
  have kb' : Bo W (w1.heap.size + 1) (List.replicate t.length false) := by rw [← hW]; exact kb.drew
  have o2 : OwnN W w.heap.size (some ⟨w1.heap.size, 0, none⟩) 1 [(k : Int)] := by rw [← hW]; exact (World.ownsRow.alloc o _).drew
  have bW : Below w.heap.size w W := by rw [← hW]; exact (b1.trans ((bel_alloc2 w1 _ _).mono b1.size)).drew
  refine ⟨⟨Bfs.start hk, own_heap o2 fun q hq => ?_, kb'.mark k, by have := b1.size; omega, bel_set bW (by have := b1.size; omega) _⟩, Blk.frozen kb' k, ?_⟩
  · have hq : some w1.heap.size = some q := hq
    injection hq with hq
    exact Below.heap_setCell _ _ _ q (by show q ≠ w1.heap.size + 1; omega)
  · rw [kb'.cell (by rw [List.length_replicate]; exact hk), List.getD_eq_getElem?_getD, List.getElem?_replicate, if_pos hk]
    rfl
theorem init_ba {w w1 : World} {t : Tb} {k : Nat} (hk : k < t.length) (b1 : Below w.heap.size w w1) {W : World} (hW : ((w1.alloc (.cells (boA (List.replicate t.length false)) 4)).alloc (.cells #[.int .i64 k] 3)).drew = W) :
    RS w (W.setCell ⟨w1.heap.size, k, none⟩ (.bool true)) t k w1.heap.size [k] (start t.length k) (some ⟨w1.heap.size + 1, 0, none⟩) 1 ∧ W.frozen? ⟨w1.heap.size, k, none⟩ = false ∧ W.cell? ⟨w1.heap.size, k, none⟩ = some (.bool false) := by
  have hs : (w1.alloc (.cells (boA (List.replicate t.length false)) 4)).heap.size = w1.heap.size + 1 := by simp
  have o := own_one (w1.alloc (.cells (boA (List.replicate t.length false)) 4)) w.heap.size k (by have := b1.size; omega)
  rw [hs] at o
  have kb := (Blk.new w1 4 (boA (List.replicate t.length false))).alloc (.cells #[.int .i64 (k : Int)] 3)
  have kb' : Bo W w1.heap.size (List.replicate t.length false) := by rw [← hW]; exact kb.drew
  have o2 : OwnN W w.heap.size (some ⟨w1.heap.size + 1, 0, none⟩) 1 [(k : Int)] := by rw [← hW]; exact World.ownsRow.drew o
  have bW : Below w.heap.size w W := by rw [← hW]; exact (b1.trans ((bel_alloc2 w1 _ _).mono b1.size)).drew
  refine ⟨⟨Bfs.start hk, own_heap o2 fun q hq => ?_, kb'.mark k, b1.size, bel_set bW b1.size _⟩, Blk.frozen kb' k, ?_⟩
  · have hq : some (w1.heap.size + 1) = some q := hq
    injection hq with hq
    exact Below.heap_setCell _ _ _ q (by show q ≠ w1.heap.size; omega)
  · rw [kb'.cell (by rw [List.length_replicate]; exact hk), List.getD_eq_getElem?_getD, List.getElem?_replicate, if_pos hk]
    rfl
section
variable {w wr w' : World} {t : Tb} {s G : Nat} {L : List Nat} {S : List Bool} {A : Option Addr} {c : Nat}
theorem RS.below (h : RS w wr t s G L S A c) (hb : Below wr.heap.size wr w') : RS w w' t s G L S A c :=
  ⟨h.bfs, own_heap h.own fun k hk => hb.block k (World.ownsRow.lt h.own k hk).2, Blk.below h.seen hb (Blk.lt h.seen), h.base, h.bel.trans (hb.mono h.bel.size)⟩
theorem RS.count (h : RS w wr t s G L S A c) : L.length ≤ t.length := h.bfs.count
theorem RS.push (h : RS w wr t s G L S A c) {a b m : Nat} (ha : a ∈ L) (he : edgeT t a b) (hb : S.getD b false = false) (hm : L.length = m) (hn : t.length ≤ 1000000) :
    ∃ a' c' w7, (Builtin.append_ #[22, 22] 22 #[.slice A m c, .slice (some ⟨wr.heap.size, 0, none⟩) 1 1]).run Try.prog ((wr.setCell ⟨G, b, none⟩ (.bool true)).alloc (.cells #[.int .i64 b] 3)) = .ok (.slice a' (m + 1) c') w7 ∧ RS w w7 t s G (L ++ [b]) (S.set b true) a' c' := by
  have hs : (wr.setCell ⟨G, b, none⟩ (.bool true)).heap.size = wr.heap.size := by simp [World.setCell]
  have hG : G < wr.heap.size := Blk.lt h.seen
  have o1 : OwnN (wr.setCell ⟨G, b, none⟩ (.bool true)) w.heap.size A c (L.map Int.ofNat) := own_heap h.own fun k hk => by
    refine Below.heap_setCell _ _ _ k ?_
    show k ≠ G
    intro e
    subst e
    exact own_ne h.own h.seen (by decide) hk
  have s1 : Bo (wr.setCell ⟨G, b, none⟩ (.bool true)) G (S.set b true) := h.seen.mark b
  have b1 := bel_set h.bel h.base (b := b) (.bool true)
  have o2 : OwnN ((wr.setCell ⟨G, b, none⟩ (.bool true)).alloc (.cells #[.int .i64 b] 3)) w.heap.size A c (L.map Int.ofNat) := World.ownsRow.alloc o1 _
  have s2 : Bo ((wr.setCell ⟨G, b, none⟩ (.bool true)).alloc (.cells #[.int .i64 b] 3)) G (S.set b true) := Blk.alloc s1 _
  have b2 := b1.alloc b1.size (.cells #[.int .i64 (b : Int)] 3)
  have hnew := Blk.new (wr.setCell ⟨G, b, none⟩ (.bool true)) 3 #[.int .i64 (b : Int)]
  rw [hs] at hnew
  have hml : (L.map Int.ofNat).length = m := by rw [List.length_map, hm]
  have hcnt := h.count
  obtain ⟨a', c', w7, hr, o7, g7⟩ := append_nm _ w.heap.size A c m (L.map Int.ofNat) hml o2 (some ⟨wr.heap.size, 0, none⟩) 1 1 [(b : Int)] rfl (fun h => by cases h) (EvAt.blk hnew hnew.lt rfl) (by omega) b2.size
  have o2' := o2
  unfold OwnN at o2'
  rw [hml] at o2'
  refine ⟨a', c', w7, hr, ⟨h.bfs.push ha he (by rw [hb]; decide), ?_, blk_grown s2 o2' (by decide) g7, h.base, b2.trans (bel_own o2' g7 (Nat.le_refl _) b2.size)⟩⟩
  rw [List.map_append]
  exact o7
end
theorem row_mem {t : Tb} {r : Ce} {a : Nat} {row : List Ce} (hrow : t.getD a [] = row) (h : r ∈ row) {b : Nat} (ha : a < t.length) (hb : b < t.length) (he : r.1 = (b : Int)) : edgeT t a b := ⟨ha, hb, r, by rw [hrow]; exact h, he⟩
set_option maxHeartbeats 4000000 in
theorem reach_any (w : World) (A : Option Addr) (c : Nat) (t : Tb) (s : Int) (ht : TbAt w w.heap.size A t) (hl : t.length ≤ 1000000) (hr : ∀ r ∈ t, r.length ≤ maxLen) :
    Calls Try.prog 28 #[.slice A t.length c, .int .i64 s] w fun e w' => ∃ A' c', e = .returned (.slice A' (reachL t s).length c') ∧ EvAt w' w'.heap.size A' (reachL t s) ∧ Below w.heap.size w w' := by
  obtain ⟨n, hn⟩ : ∃ n, t.length = n := ⟨_, rfl⟩
  have hh := fun (x : Int) (w0 : World) => has_any A c t x w0
  rw [hn] at hh hl ⊢
  have HT := Lib.hid ht
  have HN := Lib.hid hn
  have HL := Lib.hid hl
  have HR := Lib.hid hr
  have HH := Lib.hid hh
  clear ht hn hl hr hh
  cases hb : hasB t s with
  | false =>
    have h0 := HH.out s
    rw [hb] at h0
    have H0 := Lib.hid h0
    have HE := Lib.hid (show reachL t s = [] by unfold reachL; rw [if_neg (by rw [hb]; decide)])
    clear h0 hb
    go_enter Try.func28, Try.ntmps28
    go_wp2_with fail
    refine (H0.out _).mono ?_
    rintro e w1 ⟨rfl, b1⟩
    go_wp2_with fail
    go_ret
    rw [HE.out]
    exact ⟨none, 0, rfl, fun k hk => absurd hk (Nat.not_lt_zero _), b1⟩
  | true =>
    have h0s : 0 ≤ s ∧ s < n := by
      simp only [hasB, Bool.and_eq_true, decide_eq_true_eq, HN.out] at hb
      omega
    obtain ⟨k, rfl⟩ : ∃ k : Nat, s = k := ⟨s.toNat, by omega⟩
    have h0 := HH.out k
    rw [hb] at h0
    have H0 := Lib.hid h0
    have hkn : k < n := by omega
    have k1 : (k : Int) < n := by omega
    have k0 : (0 : Int) ≤ k := by omega
    clear h0 hb
    go_enter Try.func28, Try.ntmps28
    go_wp2_with fail
    refine (H0.out _).mono ?_
    rintro e w1 ⟨rfl, b1⟩
    go_wp2_with fail
    have HB1 := Lib.hid b1
    clear b1
    obtain ⟨zb, hzb⟩ : ∃ zb, boA (List.replicate n false) = zb := ⟨_, rfl⟩
    have hmk := make_bools n HL.out
    rw [hzb] at hmk
    have HZB := Lib.hid hzb
    clear hzb
    go_region_law (go_simp)
    all_goals clear hmk
    all_goals
      obtain ⟨W, G, gi, hi⟩ : ∃ W G gi, (W, G, gi) = ((w1, 0, 0) : World × Nat × Nat) := ⟨_, _, _, rfl⟩
      clear hi
      clear W G gi
      first
        | (obtain ⟨W, hW⟩ : ∃ W, ((w1.alloc (.cells #[.int .i64 k] 3)).alloc (.cells zb 4)).drew = W := ⟨_, rfl⟩
           rw [hW]
           have hi := init_ab (t := t) (k := k) (by rw [HN.out]; exact hkn) HB1.out (W := W) (by rw [HN.out, HZB.out]; exact hW)
           clear hW HB1
           generalize w1.heap.size + 1 = G at hi ⊢
           generalize w1.heap.size = gi at hi ⊢)
        | (obtain ⟨W, hW⟩ : ∃ W, ((w1.alloc (.cells zb 4)).alloc (.cells #[.int .i64 k] 3)).drew = W := ⟨_, rfl⟩
           rw [hW]
           have hi := init_ba (t := t) (k := k) (by rw [HN.out]; exact hkn) HB1.out (W := W) (by rw [HN.out, HZB.out]; exact hW)
           clear hW HB1
           generalize w1.heap.size + 1 = gi at hi ⊢
           generalize w1.heap.size = G at hi ⊢)
      obtain ⟨hi1, f0, q0⟩ := hi
      have HS := Lib.hid hi1
      clear hi1
      go_wp2_with fail
      clear f0 q0
      go_loopw [5, 7] (fun rv iv wr => ∃ (L : List Nat) (S : List Bool) (A1 : Option Addr) (c1 m i : Nat), i ≤ m ∧ m ≤ n ∧ iv = .int .i64 i ∧ rv = .slice A1 m c1 ∧ Hid (L.length = m ∧ RS w wr t k G L S A1 c1 ∧ ∀ p, p < i → ∀ b, edgeT t (L.getD p 0) b → b ∈ L)) (fun _ iv _ => n - (intOf iv).toNat)
      case atStart => exact ⟨[k], _, _, 1, 1, 0, by omega, by omega, rfl, rfl, Lib.hid ⟨rfl, HS.out, fun p hp => absurd hp (Nat.not_lt_zero _)⟩⟩
      case round =>
        obtain ⟨L, S, A1, c1, m, i, him, hmn, rfl, rfl, hR⟩ := hrel
        by_cases hlt : i < m
        · have i1 : (i : Int) < m := by omega
          have i0 : (0 : Int) ≤ i := by omega
          have HI := Lib.hid (show wrap64 ((i : Int) + 1) = (i : Int) + 1 from IntWalk.wrap64_in _ (by have := HL.out; omega))
          obtain ⟨b5, e5, hb5, hc5⟩ := own_at hR.out.2.1.own (by rw [List.length_map, hR.out.1]; omega)
          subst e5
          have hiL : i < L.length := by rw [hR.out.1]; exact hlt
          obtain ⟨a, haL⟩ : ∃ a, L.getD i 0 = a := ⟨_, rfl⟩
          have haM : a ∈ L := by
            rw [← haL, List.getD_eq_getElem?_getD, List.getElem?_eq_getElem hiL]
            exact List.getElem_mem hiL
          have han : a < n := by rw [← HN.out]; exact (hR.out.2.1.bfs.come a haM).lt
          have q5 : wr.cell? ⟨b5, i, none⟩ = some (.int .i64 a) := hc5 i _ (by
            rw [nmL_at (by rw [List.length_map]; exact hiL), List.getD_eq_getElem?_getD, List.getElem?_map, List.getElem?_eq_getElem hiL]
            rw [List.getD_eq_getElem?_getD, List.getElem?_eq_getElem hiL] at haL
            simp only [Option.map_some, Option.getD_some] at haL ⊢
            rw [haL]
            rfl)
          obtain ⟨bb, off, ra, rc, rfl, hbl, p, hrow⟩ := HT.out a (by rw [HN.out]; exact han)
          obtain ⟨R, hRR⟩ : ∃ R, t.getD a [] = R := ⟨_, rfl⟩
          rw [hRR] at p hrow
          obtain ⟨mr, hmr⟩ : ∃ mr, R.length = mr := ⟨_, rfl⟩
          rw [hmr] at p
          have hRt : R ∈ t := by
            have hl : a < t.length := by rw [HN.out]; exact han
            rw [← hRR, List.getD_eq_getElem?_getD, List.getElem?_eq_getElem hl]
            exact List.getElem_mem hl
          have hmx := HR.out R hRt
          rw [hmr] at hmx
          have q6 : wr.cell? ⟨bb, off + a, none⟩ = some (.slice ra mr rc) := (hR.out.2.1.bel.cell (p := ⟨bb, off + a, none⟩) hbl).trans p
          have a1 : (a : Int) < n := by omega
          have a0 : (0 : Int) ≤ a := by omega
          have HRW := Lib.hid (And.intro hrow (And.intro hmr (And.intro hRR hmx)))
          have HST := Lib.hid (show ∃ L' S', L'.length = m ∧ RS w wr t k G L' S' (some ⟨b5, 0, none⟩) c1 ∧ (∀ p, p < i → ∀ b, edgeT t (L'.getD p 0) b → b ∈ L') ∧ L'.getD i 0 = a from ⟨L, S, hR.out.1, hR.out.2.1, hR.out.2.2, haL⟩)
          clear p hrow hmr hRR hRt hc5 hb5 hbl hmx haL haM hiL hR
          go_wp2_with fail
          go_loopw [5, 36] (fun rv jv wr => ∃ (L : List Nat) (S : List Bool) (A1 : Option Addr) (c1 m j : Nat), j ≤ mr ∧ i < m ∧ m ≤ n ∧ jv = .int .i64 j ∧ rv = .slice A1 m c1 ∧ Hid (L.length = m ∧ RS w wr t k G L S A1 c1 ∧ (∀ p, p < i → ∀ b, edgeT t (L.getD p 0) b → b ∈ L) ∧ L.getD i 0 = a ∧ ∀ x ∈ R.take j, hasB t x.1 = true → x.1.toNat ∈ L)) (fun _ jv _ => mr - (intOf jv).toNat)
          case atStart =>
            obtain ⟨L', S', h1, h2, h3, h4⟩ := HST.out
            exact ⟨L', S', _, c1, m, 0, Nat.zero_le _, hlt, hmn, rfl, rfl, Lib.hid ⟨h1, h2, h3, h4, fun x hx => by rw [List.take_zero] at hx; cases hx⟩⟩
          case round =>
            clear HST
            obtain ⟨L, S, A1, c1, m, j, hj, him2, hmn2, rfl, rfl, hR⟩ := hrel
            by_cases hjl : j < mr
            · have j1 : (j : Int) < mr := by omega
              have j0 : (0 : Int) ≤ j := by omega
              have HJ := Lib.hid (show wrap64 ((j : Int) + 1) = (j : Int) + 1 from IntWalk.wrap64_in _ (by have := HRW.out.2.2.2; unfold maxLen at this; omega))
              obtain ⟨gx, ox, ex, hgx, px0, px1⟩ := HRW.out.1 j (by rw [HRW.out.2.1]; exact hjl)
              subst ex
              have hjR : j < R.length := by rw [HRW.out.2.1]; exact hjl
              obtain ⟨x, hx⟩ : ∃ x, R.getD j ce0 = x := ⟨_, rfl⟩
              have hxR : x ∈ R := by
                rw [← hx, List.getD_eq_getElem?_getD, List.getElem?_eq_getElem hjR]
                exact List.getElem_mem hjR
              have htk : ∀ y ∈ R.take (j + 1), y ∈ R.take j ∨ y = x := fun y hy => by
                rw [List.take_add_one, List.getElem?_eq_getElem hjR, List.mem_append] at hy
                rcases hy with hy | hy
                · exact .inl hy
                · right
                  rw [← hx, List.getD_eq_getElem?_getD, List.getElem?_eq_getElem hjR]
                  simpa using hy
              rw [hx] at px0 px1
              obtain ⟨x0, x1⟩ := x
              have qx0 : wr.cell? ⟨gx, ox + j * 2, none⟩ = some (.int .i64 x0) := (hR.out.2.1.bel.cell (p := ⟨gx, ox + j * 2, none⟩) hgx).trans px0
              have qx1 : wr.cell? ⟨gx, ox + j * 2 + 1, none⟩ = some (.int .i64 x1) := (hR.out.2.1.bel.cell (p := ⟨gx, ox + j * 2 + 1, none⟩) hgx).trans px1
              have kx := Blk.new wr 56 #[.int .i64 x0, .int .i64 x1]
              have r0 : (wr.alloc (.cells #[.int .i64 x0, .int .i64 x1] 56)).cell? ⟨wr.heap.size, 0, none⟩ = some (.int .i64 x0) := kx.cell 0
              have hcall := HH.out x0 (wr.alloc (.cells #[.int .i64 x0, .int .i64 x1] 56))
              have HTK := Lib.hid (And.intro htk hxR)
              clear px0 px1 hgx hx htk hxR hjR
              cases hhb : hasB t x0 with
              | false =>
                rw [hhb] at hcall
                have HC := Lib.hid hcall
                have HHB := Lib.hid hhb
                clear hcall hhb kx
                go_wp2_with fail
                refine HC.out.mono ?_
                rintro e w5 ⟨rfl, b5⟩
                have hrs := hR.out.2.1.below ((bel_alloc wr (.cells #[.int .i64 x0, .int .i64 x1] 56)).trans (b5.mono (by simp)))
                have HN2 := Lib.hid (And.intro hR.out.1 (And.intro hrs (And.intro hR.out.2.2.1 (And.intro hR.out.2.2.2.1 (show ∀ y ∈ R.take (j + 1), hasB t y.1 = true → y.1.toNat ∈ L from fun y hy hh => by
                  rcases HTK.out.1 y hy with hy | hy
                  · exact hR.out.2.2.2.2 y hy hh
                  · subst hy
                    rw [HHB.out] at hh
                    cases hh)))))
                clear b5 hrs
                go_wp2_with fail
                go_roundw
                case rel =>
                  rw [HJ.out]
                  exact ⟨L, S, A1, c1, m, j + 1, hjl, him2, hmn2, by rw [Int.natCast_add]; rfl, rfl, HN2⟩
                case measure =>
                  rw [HJ.out]
                  show mr - ((j : Int) + 1).toNat < mr - ((j : Int)).toNat
                  omega
              | true =>
                rw [hhb] at hcall
                have HC := Lib.hid hcall
                have hx0 : 0 ≤ x0 ∧ x0 < n := by
                  simp only [hasB, Bool.and_eq_true, decide_eq_true_eq, HN.out] at hhb
                  omega
                obtain ⟨b, rfl⟩ : ∃ b : Nat, x0 = b := ⟨x0.toNat, by omega⟩
                have hbn : b < n := by omega
                have bn1 : (b : Int) < n := by omega
                have bn0 : (0 : Int) ≤ b := by omega
                clear hcall hhb
                go_wp2_with fail
                refine HC.out.mono ?_
                rintro e w5 ⟨rfl, b5⟩
                have hrs := hR.out.2.1.below ((bel_alloc wr (.cells #[.int .i64 b, .int .i64 x1] 56)).trans (b5.mono (by simp)))
                have k5 := Blk.below kx b5 kx.lt
                have y0 : w5.cell? ⟨wr.heap.size, 0, none⟩ = some (.int .i64 b) := k5.cell 0
                have hSl : b < S.length := by rw [hrs.bfs.len, HN.out]; exact hbn
                have ys := hrs.seen.cell hSl
                cases hsb : S.getD b false with
                | true =>
                  rw [hsb] at ys
                  have hbL : b ∈ L := (hrs.bfs.mark b).1 hsb
                  have HN2 := Lib.hid (And.intro hR.out.1 (And.intro hrs (And.intro hR.out.2.2.1 (And.intro hR.out.2.2.2.1 (show ∀ y ∈ R.take (j + 1), hasB t y.1 = true → y.1.toNat ∈ L from fun y hy hh => by
                    rcases HTK.out.1 y hy with hy | hy
                    · exact hR.out.2.2.2.2 y hy hh
                    · subst hy
                      exact hbL)))))
                  clear b5 hrs k5 kx hSl hsb hbL
                  go_wp2_with fail
                  go_roundw
                  case rel =>
                    rw [HJ.out]
                    exact ⟨L, S, A1, c1, m, j + 1, hjl, him2, hmn2, by rw [Int.natCast_add]; rfl, rfl, HN2⟩
                  case measure =>
                    rw [HJ.out]
                    show mr - ((j : Int) + 1).toNat < mr - ((j : Int)).toNat
                    omega
                | false =>
                  rw [hsb] at ys
                  have hiL : i < L.length := by rw [hR.out.1]; exact him2
                  have haM : a ∈ L := by
                    rw [← hR.out.2.2.2.1, List.getD_eq_getElem?_getD, List.getElem?_eq_getElem hiL]
                    exact List.getElem_mem hiL
                  obtain ⟨a', c', w7, hrun, h7⟩ := hrs.push haM (row_mem HRW.out.2.2.1 HTK.out.2 (by rw [HN.out]; exact han) (by rw [HN.out]; exact hbn) rfl) hsb hR.out.1 (by rw [HN.out]; exact HL.out)
                  have hfz := Blk.frozen hrs.seen b
                  have hcnt := h7.count
                  rw [List.length_append, hR.out.1, HN.out] at hcnt
                  have hmn3 : m + 1 ≤ n := hcnt
                  have yb : (w5.setCell ⟨G, b, none⟩ (.bool true)).cell? ⟨wr.heap.size, 0, none⟩ = some (.int .i64 b) := (k5.far (a := ⟨G, b, none⟩) (by
                    show wr.heap.size ≠ G
                    have := Blk.lt hR.out.2.1.seen
                    omega) (.bool true)).cell 0
                  have HRUN := Lib.hid hrun
                  have HN2 := Lib.hid (show (L ++ [b]).length = m + 1 ∧ RS w w7 t k G (L ++ [b]) (S.set b true) a' c' ∧ (∀ p, p < i → ∀ b', edgeT t ((L ++ [b]).getD p 0) b' → b' ∈ L ++ [b]) ∧ (L ++ [b]).getD i 0 = a ∧ ∀ y ∈ R.take (j + 1), hasB t y.1 = true → y.1.toNat ∈ L ++ [b] from
                    ⟨by rw [List.length_append, hR.out.1]; rfl, h7, fun p hp b' he => by
                      rw [List.getD_eq_getElem?_getD, List.getElem?_append_left (by omega), ← List.getD_eq_getElem?_getD] at he
                      exact List.mem_append_left _ (hR.out.2.2.1 p hp b' he), by
                      rw [List.getD_eq_getElem?_getD, List.getElem?_append_left hiL, ← List.getD_eq_getElem?_getD]
                      exact hR.out.2.2.2.1, fun y hy hh => by
                      rcases HTK.out.1 y hy with hy | hy
                      · exact List.mem_append_left _ (hR.out.2.2.2.2 y hy hh)
                      · subst hy
                        exact List.mem_append_right _ (by simp)⟩)
                  clear b5 hrs k5 kx hSl hsb hiL haM hrun h7 hcnt
                  go_wp2_with (at_builtin; refine Lib.wpList_append_run _ rfl _ _ _ _ rfl _ _ rfl rfl _ _ HRUN.out ?_)
                  go_roundw
                  case rel =>
                    rw [HJ.out]
                    exact ⟨L ++ [b], S.set b true, a', c', m + 1, j + 1, hjl, by omega, hmn3, by rw [Int.natCast_add]; rfl, rfl, HN2⟩
                  case measure =>
                    rw [HJ.out]
                    show mr - ((j : Int) + 1).toNat < mr - ((j : Int)).toNat
                    omega
            · obtain rfl : mr = j := by omega
              have HN3 := Lib.hid (show L.length = m ∧ RS w wr t k G L S A1 c1 ∧ ∀ p, p < i + 1 → ∀ b, edgeT t (L.getD p 0) b → b ∈ L from ⟨hR.out.1, hR.out.2.1, fun p hp b he => by
                by_cases hpi : p = i
                · subst hpi
                  rw [hR.out.2.2.2.1] at he
                  obtain ⟨_, hbt, x, hx, hxb⟩ := he
                  rw [HRW.out.2.2.1] at hx
                  have := hR.out.2.2.2.2 x (by rw [List.take_of_length_le (by rw [HRW.out.2.1]; exact Nat.le_refl _)]; exact hx) (by unfold hasB; rw [hxb]; simp only [Bool.and_eq_true, decide_eq_true_eq]; omega)
                  rw [hxb] at this
                  exact this
                · exact hR.out.2.2.1 p (by omega) b he⟩)
              go_wp2_with fail
              go_roundw
              case rel =>
                try rw [HI.out]
                exact ⟨L, S, A1, c1, m, i + 1, him2, hmn2, by rw [Int.natCast_add]; rfl, rfl, HN3⟩
              case measure =>
                try rw [HI.out]
                show n - ((i : Int) + 1).toNat < n - ((i : Int)).toNat
                omega
        · obtain rfl : m = i := by omega
          have hdone := hR.out.2.1.bfs.done (fun a ha b he => by
            obtain ⟨q, hq, rfl⟩ := List.getElem_of_mem ha
            exact hR.out.2.2 q (by rw [← hR.out.1]; exact hq) b (by rw [List.getD_eq_getElem?_getD, List.getElem?_eq_getElem hq]; exact he))
          have hmp : 0 < m := by rw [← hR.out.1]; exact List.length_pos_of_mem hR.out.2.1.bfs.first
          have hsort := sort_ints A1 c1 (L.map Int.ofNat) m (by rw [List.length_map, hR.out.1]) w.heap.size wr hR.out.2.1.own (by rw [List.length_map, hR.out.1]; exact hmp) (by rw [List.length_map, hR.out.1]; have := HL.out; omega)
          rw [show sortI (L.map Int.ofNat) = reachL t k from hdone] at hsort
          have hrl : (reachL t k).length = m := by rw [← hdone, (List.mergeSort_perm _ _).length_eq, List.length_map, hR.out.1]
          have HSO := Lib.hid hsort
          have HRL := Lib.hid hrl
          clear hsort hrl hdone
          go_wp2_with fail
          refine HSO.out.mono ?_
          rintro e w8 ⟨rfl, o8, g8⟩
          have HF := Lib.hid (show EvAt w8 w8.heap.size A1 (reachL t k) ∧ Below w.heap.size w w8 from ⟨o8.ev, hR.out.2.1.bel.trans (by
            have ho := hR.out.2.1.own
            unfold OwnN at ho
            rw [List.length_map, hR.out.1] at ho
            exact bel_own ho g8 (Nat.le_refl _) hR.out.2.1.bel.size)⟩)
          clear o8 g8
          go_wp2_with fail
          go_ret
          rw [HRL.out]
          exact ⟨A1, c1, rfl, HF.out.1, HF.out.2⟩
end Go.Proofs.Ytkdnngcmiggoeaa
