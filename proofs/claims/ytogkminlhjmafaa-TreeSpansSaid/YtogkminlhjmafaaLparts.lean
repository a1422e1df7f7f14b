/- parts: of each bridge the lowest one that it hangs together with, by all links, or some. Its condition: links between bridges that there are. -/
import Derived.Test.YtogkminlhjmafaaLk
import Derived.Test.YtogkminlhjmafaaTints
import Derived.Lib.SliceRun
namespace Go.Proofs.Ytogkminlhjmafaa
open Go.RowKit
set_option maxRecDepth 100000

/-- Numbers that are held. -/
def NwAt (w : World) (g n : Nat) (F : Nat → Nat) : Prop := ∃ cs, Blk w g 3 cs ∧ n ≤ cs.size ∧ ∀ i, i < n → cs[i]? = some (.int .i64 (F i))
theorem OwnI.nw {w : World} {base c : Nat} {A : Option Addr} {l : List Int} (h : OwnI w base A c l) (hl : 0 < l.length) {F : Nat → Nat} (hF : ∀ i, i < l.length → l.getD i 0 = F i) : ∃ g, A = some ⟨g, 0, none⟩ ∧ base ≤ g ∧ NwAt w g l.length F := by
  rcases h.2 with ⟨e0, _⟩ | ⟨g', cap', cur, e0, hb', hg', hle, _, hs', ht⟩
  · injection e0 with _ e2
    omega
  · injection e0 with e1 _ e3
    subst e1 e3
    refine ⟨g', rfl, hb', cur, hg', by omega, fun i hi => ?_⟩
    have hlt : i < l.length * 1 := by omega
    have e1 : cur[i]? = (cur.toList.take (l.length * 1))[i]? := by
      rw [List.getElem?_take_of_lt hlt]
      simp
    rw [e1, ht, List.getElem?_map, List.getElem?_eq_getElem hi]
    have := hF i hi
    rw [List.getD_eq_getElem?_getD, List.getElem?_eq_getElem hi] at this
    simp at this
    simp [this]
section
variable {w w' : World} {g n : Nat} {F : Nat → Nat}
theorem NwAt.cell (h : NwAt w g n F) {i : Nat} (hi : i < n) : w.cell? ⟨g, i, none⟩ = some (.int .i64 (F i)) ∧ w.frozen? ⟨g, i, none⟩ = false := by
  obtain ⟨cs, hb, hs, hc⟩ := h
  exact ⟨(hb.cell _).trans (hc i hi), hb.frozen i⟩
theorem NwAt.lt (h : NwAt w g n F) : g < w.heap.size := by
  obtain ⟨cs, hb, _⟩ := h
  exact hb.lt
theorem NwAt.below {B : Nat} (h : NwAt w g n F) (hb : Below B w w') (hl : g < B) : NwAt w' g n F := by
  obtain ⟨cs, hk, hs, hc⟩ := h
  exact ⟨cs, hk.below hb hl, hs, hc⟩
theorem NwAt.put (h : NwAt w g n F) {i : Nat} (hi : i < n) (v : Nat) {F' : Nat → Nat} (h1 : F' i = v) (h2 : ∀ j, j < n → j ≠ i → F' j = F j) : NwAt (w.setCell ⟨g, i, none⟩ (.int .i64 v)) g n F' := by
  obtain ⟨cs, hb, hs, hc⟩ := h
  refine ⟨_, hb.set_ i _, by simp [hs], fun q hq => ?_⟩
  by_cases e : q = i
  · subst e
    rw [h1, Array.getElem?_setIfInBounds_self_of_lt (by omega)]
  · rw [Array.getElem?_setIfInBounds_ne (by omega), h2 q hq e]
    exact hc q hq
theorem below_set {w0 : World} {a : Addr} (hb : Below w0.heap.size w0 w) (hg : w0.heap.size ≤ a.block) (v : Value) : Below w0.heap.size w0 (w.setCell a v) :=
  ⟨hb.os, hb.tape, hb.output, by simpa [World.setCell] using hb.size, fun k hk => (Below.heap_setCell _ _ _ k (by omega)).trans (hb.block k hk)⟩
end
/-- Which links count: all, or those that a row of truths names. -/
def SelAt (w : World) (B : Nat) (v : Value) (k : Nat) (s : Nat → Bool) : Prop := (v = .slice none 0 0 ∧ ∀ q, s q = true) ∨ ∃ b off c, v = .slice (some ⟨b, off, none⟩) k c ∧ b < B ∧ ∀ q, q < k → w.cell? ⟨b, off + q, none⟩ = some (.bool (s q))
/-- So many rounds over the links that count. -/
def partsF (L : List Lk) (s : List Bool) : Nat → Nat → Nat
  | 0 => fun x => x
  | t + 1 => pfoldS L s L.length (partsF L s t)
theorem SelAt.below {w w' : World} {B k : Nat} {v : Value} {s : Nat → Bool} (h : SelAt w B v k s) (hb : Below B w w') : SelAt w' B v k s := by
  rcases h with h | ⟨b, off, c, e, hl, hc⟩
  · exact .inl h
  · exact .inr ⟨b, off, c, e, hl, fun q hq => (hb.cell (p := ⟨b, off + q, none⟩) hl).trans (hc q hq)⟩
set_option maxHeartbeats 8000000 in
theorem parts_any (n : Nat) (A2 : Option Addr) (c2 : Nat) (l : List Li) (v : Value) (s : Nat → Bool) (w : World) (h2 : LiAt w w.heap.size A2 l) (hv : SelAt w w.heap.size v l.length s) (hn1 : 1 ≤ n) (hn8 : n ≤ 8) (hL : l.length ≤ 16) (ha : ∀ x ∈ l, 0 ≤ x.a ∧ x.a < n ∧ 0 ≤ x.b ∧ x.b < n ∧ x.a ≠ x.b) :
    Calls Try.prog 33 #[.int .i64 n, .slice A2 l.length c2, v] w fun e w' => ∃ g cap, e = .returned (.slice (some ⟨g, 0, none⟩) n cap) ∧ w.heap.size ≤ g ∧ NwAt w' g n (partsF (l.map Li.lk) ((List.range l.length).map s) n) ∧ Below w.heap.size w w' := by
  obtain ⟨k, hk⟩ : ∃ k, l.length = k := ⟨_, rfl⟩
  have H := Lib.hid (And.intro h2 (And.intro (hk ▸ hv : SelAt w w.heap.size v k s) (And.intro hn1 (And.intro hn8 (And.intro (hk ▸ hL : k ≤ 16) (And.intro ha hk))))))
  rw [hk]
  have n0 : (0 : Int) ≤ n := by omega
  have k0 : (0 : Int) ≤ k := by omega
  clear h2 hv hn1 hn8 hL ha hk
  go_enter Try.func33, Try.ntmps33
  go_wp2_with fail
  go_loopw [7, 8] (fun ov iv wr => ∃ (j : Nat) (A1 : Option Addr) (c1 : Nat), j ≤ n ∧ iv = .int .i64 j ∧ ov = .slice A1 j c1 ∧ Hid (OwnI wr w.heap.size A1 c1 ((List.range j).map fun (i : Nat) => (i : Int)) ∧ Below w.heap.size w wr)) (fun _ iv _ => n - (intOf iv).toNat)
  case atStart => exact ⟨0, none, 0, Nat.zero_le _, rfl, rfl, Lib.hid ⟨World.ownsRow_nil _ _ _ _, Below.refl _ _⟩⟩
  case round =>
    obtain ⟨j, A1, c1, hj, rfl, rfl, hS⟩ := hrel
    by_cases hlt : j < n
    · have j1 : (j : Int) < n := by omega
      have j0 : (0 : Int) ≤ j := by omega
      have HJ := Lib.hid (show wrap64 ((j : Int) + 1) = (j : Int) + 1 from IntWalk.wrap64_in _ (by have := H.out.2.2.2.1; omega))
      have hap : ∃ a' c' w3, (Builtin.append_ #[47, 47] 47 #[.slice A1 j c1, .slice (some ⟨wr.heap.size, 0, none⟩) 1 1]).run Try.prog (wr.alloc (.cells #[.int .i64 (j : Int)] 3)) = .ok (.slice a' (j + 1) c') w3 ∧ Hid (OwnI w3 w.heap.size a' c' ((List.range (j + 1)).map fun (i : Nat) => (i : Int)) ∧ Below w.heap.size w w3) := by
        have hnb := Blk.new wr 3 #[.int .i64 (j : Int)]
        have hbe := bel_alloc wr (.cells #[.int .i64 (j : Int)] 3)
        have hown : OwnI (wr.alloc (.cells #[.int .i64 (j : Int)] 3)) w.heap.size A1 c1 ((List.range j).map fun (i : Nat) => (i : Int)) := World.ownsRow.alloc hS.out.1 _
        have hbw := hS.out.2.trans (hbe.mono hS.out.2.size)
        have hws := hbw.size
        generalize wr.alloc (.cells #[.int .i64 (j : Int)] 3) = W at hnb hbe hown hbw hws ⊢
        obtain ⟨a', c', w3, hr, ho, hg⟩ := append_int W w.heap.size A1 c1 j _ (by simp) hown wr.heap.size (j : Int) hnb (by simp; have := H.out.2.2.2.1; omega) hws
        have hown' := hown
        unfold OwnI at hown'
        rw [List.length_map, List.length_range] at hown'
        refine ⟨a', c', w3, hr, Lib.hid ⟨?_, hbw.trans (bel_own hown' hg (Nat.le_refl _) hws)⟩⟩
        rw [List.range_succ, List.map_append]
        exact ho
      obtain ⟨a', c', w3, hr, HE⟩ := hap
      have HR := Lib.hid hr
      clear hr hj
      go_wp2_with (at_builtin; refine Lib.wpList_append_run _ rfl _ _ _ _ rfl _ _ rfl rfl _ _ HR.out ?_)
      go_roundw
      case rel =>
        rw [HJ.out]
        exact ⟨j + 1, a', c', hlt, by rw [Int.natCast_add]; rfl, rfl, HE⟩
      case measure =>
        rw [HJ.out]
        show n - ((j : Int) + 1).toNat < n - ((j : Int)).toNat
        omega
    · obtain rfl : n = j := by omega
      obtain ⟨g, hA1, hbg, hvs⟩ := hS.out.1.nw (F := fun x => x) (by rw [List.length_map, List.length_range]; exact H.out.2.2.1) (fun i hi => by
        rw [List.length_map, List.length_range] at hi
        rw [List.getD_eq_getElem?_getD, List.getElem?_map, List.getElem?_range hi]
        rfl)
      rw [List.length_map, List.length_range] at hvs
      subst hA1
      have HV := Lib.hid (And.intro hvs (And.intro hbg hS.out.2))
      have nc : (n : Int) ≤ n := Int.le_refl _
      clear hvs hbg hS hj hlt
      obtain ⟨Lm, hLm⟩ : ∃ Lm, l.map Li.lk = Lm := ⟨_, rfl⟩
      obtain ⟨sl, hsl⟩ : ∃ sl, (List.range k).map s = sl := ⟨_, rfl⟩
      have hLl : Lm.length = k := by rw [← hLm, List.length_map]; exact H.out.2.2.2.2.2.2
      have HLM := Lib.hid (And.intro hLm (And.intro hsl hLl))
      clear hLm hsl hLl
      go_wp2_with fail
      go_loopw [22] (fun iv wr => ∃ t : Nat, t ≤ n ∧ iv = .int .i64 t ∧ Hid (NwAt wr g n (partsF Lm sl t) ∧ Below w.heap.size w wr)) (fun iv _ => n - (intOf iv).toNat)
      case atStart => exact ⟨0, Nat.zero_le _, rfl, Lib.hid ⟨HV.out.1, HV.out.2.2⟩⟩
      case round =>
        obtain ⟨t, ht, rfl, hT⟩ := hrel
        by_cases hlt : t < n
        rotate_left
        · obtain rfl : n = t := by omega
          go_wp2_with fail
          go_ret
          exact ⟨g, c1, rfl, HV.out.2.1, by rw [HLM.out.1, HLM.out.2.1]; exact hT.out.1, hT.out.2⟩
        have t1 : (t : Int) < n := by omega
        have t0 : (0 : Int) ≤ t := by omega
        have HJT := Lib.hid (show wrap64 ((t : Int) + 1) = (t : Int) + 1 from IntWalk.wrap64_in _ (by have := H.out.2.2.2.1; omega))
        go_wp2_with fail
        go_loopw [26] (fun iv wr => ∃ q : Nat, q ≤ k ∧ iv = .int .i64 q ∧ Hid (NwAt wr g n (pfoldS Lm sl q (partsF Lm sl t)) ∧ Below w.heap.size w wr)) (fun iv _ => k - (intOf iv).toNat)
        case atStart => exact ⟨0, Nat.zero_le _, rfl, Lib.hid ⟨hT.out.1, hT.out.2⟩⟩
        case round =>
          obtain ⟨q, hq, rfl, hQ⟩ := hrel
          by_cases hlq : q < k
          rotate_left
          · obtain rfl : k = q := by omega
            have HNX := Lib.hid (show NwAt wr g n (partsF Lm sl (t + 1)) ∧ Below w.heap.size w wr from ⟨by show NwAt wr g n (pfoldS Lm sl Lm.length (partsF Lm sl t)); rw [HLM.out.2.2]; exact hQ.out.1, hQ.out.2⟩)
            go_wp2_with fail
            go_roundw
            case rel =>
              rw [HJT.out]
              exact ⟨t + 1, hlt, by rw [Int.natCast_add]; rfl, HNX⟩
            case measure =>
              rw [HJT.out]
              show n - ((t : Int) + 1).toNat < n - ((t : Int)).toNat
              omega
          have q1 : (q : Int) < k := by omega
          have q0 : (0 : Int) ≤ q := by omega
          have HJQ := Lib.hid (show wrap64 ((q : Int) + 1) = (q : Int) + 1 from IntWalk.wrap64_in _ (by have := H.out.2.2.2.2.1; omega))
          have hql : q < l.length := by rw [H.out.2.2.2.2.2.2]; exact hlq
          obtain ⟨bl, ofl, rfl, hbl, hc⟩ := H.out.1 q hql
          have hc := hc.below hQ.out.2 hbl
          have hmem : l.getD q li0 ∈ l := by rw [List.getD_eq_getElem?_getD, List.getElem?_eq_getElem hql]; exact List.getElem_mem hql
          have hpos := H.out.2.2.2.2.2.1 _ hmem
          have hqm : q < Lm.length := by rw [HLM.out.2.2]; exact hlq
          have hqs : q < sl.length := by rw [← HLM.out.2.1, List.length_map, List.length_range]; exact hlq
          have hstep := pfoldS_succ Lm sl q hqm hqs (partsF Lm sl t)
          have hel : Lm[q] = (l.getD q li0).lk := by
            have := HLM.out.1
            subst this
            rw [List.getElem_map, List.getD_eq_getElem?_getD, List.getElem?_eq_getElem hql]; rfl
          have hes : sl[q] = s q := by
            have := HLM.out.2.1
            subst this
            rw [List.getElem_map, List.getElem_range]
          rw [hel, hes] at hstep
          obtain ⟨F, hF⟩ : ∃ F, pfoldS Lm sl q (partsF Lm sl t) = F := ⟨_, rfl⟩
          rw [hF] at hstep
          have hVF : NwAt wr g n F := hF ▸ hQ.out.1
          obtain ⟨x, hx⟩ : ∃ x, l.getD q li0 = x := ⟨_, rfl⟩
          rw [hx] at hc hpos hstep
          obtain ⟨xa, xpa, xb, xpb, xca, xcb⟩ := x
          have hpos : 0 ≤ xa ∧ xa < n ∧ 0 ≤ xb ∧ xb < n ∧ xa ≠ xb := hpos
          obtain ⟨a, rfl⟩ : ∃ a : Nat, xa = a := ⟨xa.toNat, by omega⟩
          obtain ⟨b, rfl⟩ : ∃ b : Nat, xb = b := ⟨xb.toNat, by omega⟩
          have hab : a < n ∧ b < n := by omega
          have nab : a ≠ b := by omega
          have nba : b ≠ a := by omega
          have hstep : pfoldS Lm sl (q + 1) (partsF Lm sl t) = if s q = true then pstep F (a, b) else F := by simpa [Li.lk] using hstep
          obtain ⟨p0, p1, p2, p3, p4, p5⟩ := hc
          have hsel := H.out.2.1.below hQ.out.2
          have HSEL := Lib.hid hsel
          have HL := Lib.hid (And.intro hstep (And.intro hab hVF))
          have a1 : (a : Int) < n := by omega
          have b1 : (b : Int) < n := by omega
          have a0 : (0 : Int) ≤ a := by omega
          have b0 : (0 : Int) ≤ b := by omega
          obtain ⟨G, hG⟩ : ∃ G, wr.heap.size = G := ⟨_, rfl⟩
          obtain ⟨W, hW⟩ : ∃ W, wr.alloc (.cells #[.int .i64 a, .int .i64 xpa, .int .i64 b, .int .i64 xpb, .int .i64 xca, .int .i64 xcb] 99) = W := ⟨_, rfl⟩
          have hbe : Below wr.heap.size wr W := by rw [← hW]; exact bel_alloc _ _
          have hbk : Blk W G 99 #[.int .i64 a, .int .i64 xpa, .int .i64 b, .int .i64 xpb, .int .i64 xca, .int .i64 xcb] := by rw [← hW, ← hG]; exact Blk.new _ _ _
          have hVW : NwAt W g n F := hVF.below hbe hVF.lt
          have hbW : Below w.heap.size w W := hQ.out.2.trans (hbe.mono hQ.out.2.size)
          have hsW : SelAt W w.heap.size v k s := hsel.below ⟨hbe.os, hbe.tape, hbe.output, hbe.size, fun z hz => hbe.block z (Nat.lt_of_lt_of_le hz hQ.out.2.size)⟩
          have hGg : G ≠ g := by have := hVF.lt; omega
          have HW := Lib.hid (And.intro hbk (And.intro hVW (And.intro hbW (And.intro hsW hGg))))
          clear hql hbl hmem hpos hqm hqs hstep hel hes hF hVF hx hsel hab hq hbe hbk hVW hbW hsW hGg
          have y0 : W.cell? ⟨G, 0, none⟩ = some (.int .i64 a) := HW.out.1.cell 0
          have y2 : W.cell? ⟨G, 2, none⟩ = some (.int .i64 b) := HW.out.1.cell 2
          obtain ⟨ka, fra⟩ := HW.out.2.1.cell HL.out.2.1.1
          obtain ⟨kb, frb⟩ := HW.out.2.1.cell HL.out.2.1.2
          have nGg : G ≠ g := HW.out.2.2.2.2
          have ngG : g ≠ G := nGg.symm
          -- what becomes of a link that counts
          have htake : s q = true → ∀ mm : Nat, mm = min (F a) (F b) → Hid (NwAt ((W.setCell ⟨g, a, none⟩ (.int .i64 mm)).setCell ⟨g, b, none⟩ (.int .i64 mm)) g n (pfoldS Lm sl (q + 1) (partsF Lm sl t)) ∧ Below w.heap.size w ((W.setCell ⟨g, a, none⟩ (.int .i64 mm)).setCell ⟨g, b, none⟩ (.int .i64 mm))) := fun hsq mm hmm => Lib.hid (by
            rw [HL.out.1, if_pos hsq]
            have h1 := HW.out.2.1.put HL.out.2.1.1 mm (F' := fun x => if x = a then mm else F x) (if_pos rfl) (fun j _ hj => if_neg hj)
            refine ⟨h1.put HL.out.2.1.2 mm (F' := pstep F (a, b)) (by unfold pstep; rw [if_pos (.inr rfl)]; exact hmm.symm) (fun j _ hj => ?_), below_set (below_set HW.out.2.2.1 HV.out.2.1 _) HV.out.2.1 _⟩
            unfold pstep
            by_cases e : j = a
            · rw [if_pos (.inl e), if_pos e]; exact hmm.symm
            · rw [if_neg (fun h => h.elim e hj), if_neg e])
          have HTAKE := Lib.hid htake
          have hk1 : ∀ mm : Nat, (W.setCell ⟨g, a, none⟩ (.int .i64 mm)).cell? ⟨g, b, none⟩ = some (.int .i64 ((if b = a then mm else F b : Nat) : Int)) := fun mm => ((HW.out.2.1.put HL.out.2.1.1 mm (F' := fun x => if x = a then mm else F x) (if_pos rfl) (fun j _ hj => if_neg hj)).cell HL.out.2.1.2).1
          have HK1 := Lib.hid hk1
          have HSKIP := Lib.hid (show s q = false → Hid (NwAt W g n (pfoldS Lm sl (q + 1) (partsF Lm sl t)) ∧ Below w.heap.size w W) from fun hsq => Lib.hid ⟨by rw [HL.out.1, hsq, if_neg (by decide)]; exact HW.out.2.1, HW.out.2.2.1⟩)
          obtain ⟨fa, hfa⟩ : ∃ fa, F a = fa := ⟨_, rfl⟩
          obtain ⟨fb, hfb⟩ : ∃ fb, F b = fb := ⟨_, rfl⟩
          rw [hfa] at ka
          rw [hfb] at kb
          have hmin : ∃ mm : Nat, mm = min (F a) (F b) ∧ (if fb < fa then (fb : Int) else (fa : Int)) = (mm : Int) := by
            by_cases h : fb < fa
            · exact ⟨fb, by rw [hfa, hfb]; omega, if_pos h⟩
            · exact ⟨fa, by rw [hfa, hfb]; omega, if_neg h⟩
          obtain ⟨mm, hmm, hif⟩ := hmin
          have HMM := Lib.hid hmm
          have HIF := Lib.hid hif
          clear htake hk1 hfa hfb hmm hif
          rcases HW.out.2.2.2.1 with ⟨rfl, hall⟩ | ⟨b3, off3, c3, rfl, hl3, hs3⟩
          · have HTK := HTAKE.out (hall q) mm HMM.out
            have k1 := HK1.out mm
            clear hall
            have heq := fun w : World => Lib.run_eql_slice_nil (P := Try.prog) w 69 4 none 0 0 0 0 Try.underlying69
            simp only [Option.isNone_none] at heq
            · go_wp2_with fail
              go_region
              go_wp2_with fail
              rw [HJQ.out, HIF.out]
              refine ⟨⟨q + 1, hlq, by rw [Int.natCast_add]; rfl, ?_⟩, ?_⟩
              · first
                | exact HTK
                | exact Lib.hid ⟨HTK.out.1, HTK.out.2.drew⟩
              · show k - ((q : Int) + 1).toNat < k - ((q : Int)).toNat
                omega
          · have heq := fun w : World => Lib.run_eql_slice_nil (P := Try.prog) w 69 4 (some ⟨b3, off3, none⟩) k c3 0 0 Try.underlying69
            simp only [Option.isNone_some] at heq
            have hs := hs3 q hlq
            clear hs3
            obtain ⟨sq, hsq⟩ : ∃ sq, s q = sq := ⟨_, rfl⟩
            rw [hsq] at hs
            cases sq
            · have HSK := HSKIP.out hsq
              clear hsq
              go_wp2_with fail
              go_roundw
              case rel =>
                rw [HJQ.out]
                exact ⟨q + 1, hlq, by rw [Int.natCast_add]; rfl, HSK⟩
              case measure =>
                rw [HJQ.out]
                show k - ((q : Int) + 1).toNat < k - ((q : Int)).toNat
                omega
            · have HTK := HTAKE.out hsq mm HMM.out
              have k1 := HK1.out mm
              clear hsq
              · go_wp2_with fail
                go_region
                go_wp2_with fail
                rw [HJQ.out, HIF.out]
                refine ⟨⟨q + 1, hlq, by rw [Int.natCast_add]; rfl, ?_⟩, ?_⟩
                · first
                  | exact HTK
                  | exact Lib.hid ⟨HTK.out.1, HTK.out.2.drew⟩
                · show k - ((q : Int) + 1).toNat < k - ((q : Int)).toNat
                  omega
end Go.Proofs.Ytogkminlhjmafaa
