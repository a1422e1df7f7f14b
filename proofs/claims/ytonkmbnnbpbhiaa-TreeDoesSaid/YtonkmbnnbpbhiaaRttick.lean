/- The document's part of a bridge ticks. Its conditions: up to six ports, ticks up to 2^40, fewer than 40000 turns each. -/
import Derived.Test.YtonkmbnnbpbhiaaRtrow
namespace Go.Proofs.Ytonkmbnnbpbhiaa
open Go.RowKit
set_option maxRecDepth 100000

section
variable {w : World} {base d gp go m cap : Nat} {f : Nat → Pt} {op : Nat → Bool} {id ch : Int} {TU : Nat → List (Int × Int)} {AA : Nat → Option Addr} {CC : Nat → Nat}
theorem vnew {w1 : World} (h : DocAt w1 base d gp go cap id m f TU AA CC op ch) (ht : Touch (DocQ base w) w w1) (a b c e : Int) :
    DocAt (w1.alloc (.cells #[.int .i64 a, .int .i64 b, .int .i64 c, .int .i64 e] 32)) base d gp go cap id m f TU AA CC op ch ∧ Touch (DocQ base w) w (w1.alloc (.cells #[.int .i64 a, .int .i64 b, .int .i64 c, .int .i64 e] 32)) ∧ Blk (w1.alloc (.cells #[.int .i64 a, .int .i64 b, .int .i64 c, .int .i64 e] 32)) w1.heap.size 32 #[.int .i64 a, .int .i64 b, .int .i64 c, .int .i64 e] :=
  ⟨h.alloc _, ht.alloc _, Blk.new w1 _ _⟩
theorem vput {w1 : World} {g : Nat} (h : DocAt w1 base d gp go cap id m f TU AA CC op ch) (ht : Touch (DocQ base w) w w1) (hz : Blk w1 g 32 #[.int .i64 0, .int .i64 0, .int .i64 0, .int .i64 0]) (hg : w.heap.size ≤ g) (a b c e : Int) :
    DocAt (put4 w1 g a b c e) base d gp go cap id m f TU AA CC op ch ∧ Touch (DocQ base w) w (put4 w1 g a b c e) ∧ Blk (put4 w1 g a b c e) g 32 #[.int .i64 a, .int .i64 b, .int .i64 c, .int .i64 e] := by
  have h4 : Touch (fun k => k = g) w1 (put4 w1 g a b c e) := (((Touch.refl (fun k => k = g) w1).set_ (a := ⟨g, 0, none⟩) (fun _ => rfl) _).set_ (a := ⟨g, 1, none⟩) (fun _ => rfl) _).set_ (a := ⟨g, 2, none⟩) (fun _ => rfl) _ |>.set_ (a := ⟨g, 3, none⟩) (fun _ => rfl) _
  refine ⟨h.touch h4 fun k hk hq => ?_, ⟨h4.os.trans ht.os, h4.tape.trans ht.tape, h4.output.trans ht.output, Nat.le_trans ht.size h4.size, fun k hk hn => (h4.block k (Nat.lt_of_lt_of_le hk ht.size) (by omega)).trans (ht.block k hk hn)⟩, (((hz.set_ 0 _).set_ 1 _).set_ 2 _).set_ 3 _⟩
  subst hk
  obtain ⟨_, t, cs, hb, ht⟩ := hq
  have e := blk_type hz hb
  subst e
  exact absurd ht (by decide)
/-- Both rows, as they grow. -/
structure RowSt (w wr : World) (vb : Nat) (br bc bb bq : Int) (A : Option Addr) (c : Nat) (A2 : Option Addr) (c2 : Nat) (l1 : List Int) (l2 : List Bp) (base d gp go cap : Nat) (id : Int) (m : Nat) (f : Nat → Pt) (TU : Nat → List (Int × Int)) (AA : Nat → Option Addr) (CC : Nat → Nat) (op : Nat → Bool) (ch : Int) : Prop where
  i : OwnI wr w.heap.size A c l1
  b : OwnB wr w.heap.size A2 c2 l2
  doc : DocAt wr base d gp go cap id m f TU AA CC op ch
  t : Touch (DocQ base w) w wr
  v : Blk wr vb 32 #[.int .i64 br, .int .i64 bc, .int .i64 bb, .int .i64 bq]
theorem RowSt.below {w wr w' : World} {vb : Nat} {br bc bb bq : Int} {A A2 : Option Addr} {c c2 : Nat} {l1 : List Int} {l2 : List Bp} (h : RowSt w wr vb br bc bb bq A c A2 c2 l1 l2 base d gp go cap id m f TU AA CC op ch) (hb : Below wr.heap.size wr w') : RowSt w w' vb br bc bb bq A c A2 c2 l1 l2 base d gp go cap id m f TU AA CC op ch where
  i := own_heap h.i fun k hk => hb.block k (World.ownsRow.lt h.i k hk).2
  b := own_heap h.b fun k hk => hb.block k (World.ownsRow.lt h.b k hk).2
  doc := h.doc.below hb
  t := docq_trans h.t (bel_docq hb)
  v := h.v.below hb h.v.lt
theorem own_ge {w w' : World} {base size n : Nat} {e : TypeId} {v : Value} {xs : List Value} {p : Nat → Prop} {w0 : World} (h : w.ownsRow base e size v n xs) (hg : w.grownBy w' v.ownBlock) (ht : Touch p w0 w) (hb : w0.heap.size ≤ base) : Touch p w0 w' :=
  ⟨hg.os.trans ht.os, hg.tape.trans ht.tape, hg.output.trans ht.output, Nat.le_trans ht.size hg.size, fun k hk hn => (hg.block k (Nat.lt_of_lt_of_le hk ht.size) fun e => by have := (World.ownsRow.lt h k e.symm).1; omega).trans (ht.block k hk hn)⟩
theorem RowSt.int {w wr : World} {vb : Nat} {br bc bb bq : Int} {A A2 : Option Addr} {c c2 : Nat} {l1 : List Int} {l2 : List Bp} (h : RowSt w wr vb br bc bb bq A c A2 c2 l1 l2 base d gp go cap id m f TU AA CC op ch) {k : Nat} (hk : l1.length = k) (hk6 : k ≤ 100) (s : Int) :
    ∃ a' c' w3, (Builtin.append_ #[47, 47] 47 #[.slice A k c, .slice (some ⟨wr.heap.size, 0, none⟩) 1 1]).run Try.prog (wr.alloc (.cells #[.int .i64 s] 3)) = .ok (.slice a' (k + 1) c') w3 ∧ RowSt w w3 vb br bc bb bq a' c' A2 c2 (l1 ++ [s]) l2 base d gp go cap id m f TU AA CC op ch := by
  have hA := h.below (bel_alloc wr (.cells #[.int .i64 s] 3))
  have hnb := Blk.new wr 3 #[.int .i64 s]
  have hsz := (bel_alloc wr (.cells #[.int .i64 s] 3)).size
  have hts := h.t.size
  generalize wr.alloc (.cells #[.int .i64 s] 3) = W at hA hnb hsz ⊢
  obtain ⟨a', c', w3, hr, ho, hg⟩ := append_int W w.heap.size A c k l1 hk hA.i wr.heap.size s hnb (by omega) (by omega)
  have hi := hA.i
  unfold OwnI at hi
  rw [hk] at hi
  exact ⟨a', c', w3, hr, ho, own_other hi hA.b hg (by decide), hA.doc.grown hi hg (by decide), own_ge hi hg hA.t (Nat.le_refl _), blk_grown hA.v hi (by decide) hg⟩
theorem RowSt.bp {w wr : World} {vb : Nat} {br bc bb bq : Int} {A A2 : Option Addr} {c c2 : Nat} {l1 : List Int} {l2 : List Bp} (h : RowSt w wr vb br bc bb bq A c A2 c2 l1 l2 base d gp go cap id m f TU AA CC op ch) {k : Nat} (hk : l2.length = k) (hk6 : k ≤ 100) (s : Bp) :
    ∃ a' c' w3, (Builtin.append_ #[48, 48] 48 #[.slice A2 k c2, .slice (some ⟨wr.heap.size, 0, none⟩) 1 1]).run Try.prog (wr.alloc (.cells #[.int .i64 s.root, .int .i64 s.cost, .int .i64 s.bridge, .int .i64 s.port, .int .i64 s.age, .int .i64 s.role, .bool s.change] 34)) = .ok (.slice a' (k + 1) c') w3 ∧ RowSt w w3 vb br bc bb bq A c a' c' l1 (l2 ++ [s]) base d gp go cap id m f TU AA CC op ch := by
  have hA := h.below (bel_alloc wr (.cells #[.int .i64 s.root, .int .i64 s.cost, .int .i64 s.bridge, .int .i64 s.port, .int .i64 s.age, .int .i64 s.role, .bool s.change] 34))
  have hnb := Blk.new wr 34 #[.int .i64 s.root, .int .i64 s.cost, .int .i64 s.bridge, .int .i64 s.port, .int .i64 s.age, .int .i64 s.role, .bool s.change]
  have hsz := (bel_alloc wr (.cells #[.int .i64 s.root, .int .i64 s.cost, .int .i64 s.bridge, .int .i64 s.port, .int .i64 s.age, .int .i64 s.role, .bool s.change] 34)).size
  have hts := h.t.size
  generalize wr.alloc (.cells #[.int .i64 s.root, .int .i64 s.cost, .int .i64 s.bridge, .int .i64 s.port, .int .i64 s.age, .int .i64 s.role, .bool s.change] 34) = W at hA hnb hsz ⊢
  obtain ⟨a', c', w3, hr, ho, hg⟩ := append_bpdu W w.heap.size A2 c2 k l2 hk hA.b wr.heap.size s hnb (by omega) (by omega)
  have hi := hA.b
  unfold OwnB at hi
  rw [hk] at hi
  exact ⟨a', c', w3, hr, own_other hi hA.i hg (by decide), ho, hA.doc.grown hi hg (by decide), own_ge hi hg hA.t (Nat.le_refl _), blk_grown hA.v hi (by decide) hg⟩
set_option maxHeartbeats 8000000 in
theorem rtick_any {chP : Int} (h : DocAt w base d gp go cap id m f TU AA CC op (dch chP)) (hm : m ≤ 6) {T now : Int} (hok : POk T m f) (h0 : 0 ≤ T) (hT : T ≤ now) (h1 : now ≤ 1099511627776) (hlen : ∀ i, (TU i).length ≤ 40000) (hbs : base ≤ w.heap.size) (hc : chP = -1 ∨ 0 ≤ chP ∧ chP ≤ T) :
    Calls Try.prog 24 #[.pointer (some ⟨d, 0, none⟩), .int .i64 now] w fun e w' => ∃ (A : Option Addr) (c : Nat) (A2 : Option Addr) (c2 : Nat), e = .returned (.tuple #[.slice A (saysN id m (tickP id m now f) (chN (tickP id m now f) op now m chP) now).length c, .slice A2 (saysN id m (tickP id m now f) (chN (tickP id m now f) op now m chP) now).length c2]) ∧
      OwnI w' w.heap.size A c ((saysN id m (tickP id m now f) (chN (tickP id m now f) op now m chP) now).map fun s => s.port) ∧ OwnB w' w.heap.size A2 c2 ((saysN id m (tickP id m now f) (chN (tickP id m now f) op now m chP) now).map fun s => s.b) ∧
      (∃ TU' AA' CC', DocAt w' base d gp go cap id m (tickP id m now f) TU' AA' CC' (fwN (tickP id m now f) now) (dch (chN (tickP id m now f) op now m chP)) ∧ ∀ i, (TU' i).length ≤ (TU i).length + 1) ∧ Touch (DocQ base w) w w' := by
  have H := Lib.hid h
  have HN := Lib.hid (And.intro hm (And.intro hok (And.intro h0 (And.intro hT (And.intro h1 (And.intro hlen (And.intro hbs hc)))))))
  have hd1 := h.d1
  have hcm : (m : Int) ≤ cap := by have := h.cap; omega
  have m0 : (0 : Int) ≤ m := by omega
  have hF := hok.tickP id h0 hT
  obtain ⟨F, hFe⟩ : ∃ F, tickP id m now f = F := ⟨_, rfl⟩
  have HFA := Lib.hid (show anewP id m now (oldP now f) = F from hFe)
  rw [hFe] at hF ⊢
  have HF := Lib.hid hF
  obtain ⟨C, hC⟩ : ∃ C, chN F op now m chP = C := ⟨_, rfl⟩
  obtain ⟨S, hSS⟩ : ∃ S, saysN id m F C now = S := ⟨_, rfl⟩
  obtain ⟨ns, hns⟩ : ∃ ns, S.length = ns := ⟨_, rfl⟩
  rw [hC, hSS, hns]
  have HC0 := Lib.hid hC
  have HS0 := Lib.hid (And.intro hSS hns)
  clear h hm hok h0 hT h1 hlen hbs hc hF hFe hC hSS hns
  go_enter Try.func24, Try.ntmps24
  go_wp2_with fail
  clear hd1
  go_loopw [20] (fun iv wr => ∃ j : Nat, j ≤ m ∧ iv = .int .i64 j ∧ Hid (DocAt wr base d gp go cap id m (oldTo now f j) TU AA CC op (dch chP) ∧ Touch (DocQ base w) w wr)) (fun iv _ => m - (intOf iv).toNat)
  case atStart => exact ⟨0, Nat.zero_le _, rfl, Lib.hid ⟨H.out.congr fun i _ => if_neg (Nat.not_lt_zero i), Touch.refl _ _⟩⟩
  case round =>
    obtain ⟨j, hj, rfl, hS⟩ := hrel
    by_cases hlt : j < m
    · have j1 : (j : Int) < m := by omega
      have j0 : (0 : Int) ≤ j := by omega
      have HJ := Lib.hid (show wrap64 ((j : Int) + 1) = (j : Int) + 1 from IntWalk.wrap64_in _ (by have := HN.out.1; omega))
      have t1 := hS.out.1.d1
      have hp := HN.out.2.1 j hlt
      have hw : wrap64 (now - (f j).at_) = now - (f j).at_ := wrap_sub (by have := HN.out; omega) HN.out.2.2.2.2.1 hp.at_.1 (by have := hp.at_.2; have := HN.out; omega)
      have e0 : oldTo now f j j = f j := if_neg (Nat.lt_irrefl j)
      have hcl := hS.out.1.ports.cells hlt
      rw [e0] at hcl
      have c9 := hcl.c9
      have e1 : oldTo now f (j + 1) j = if 14 < now - (f j).at_ then wipeP (f j) else f j := by unfold oldTo; rw [if_pos (Nat.lt_succ_self j)]; rfl
      obtain ⟨x, hx⟩ : ∃ x, (f j).at_ = x := ⟨_, rfl⟩
      rw [hx] at hw e1 c9
      have HE1 := Lib.hid e1
      clear hp e1 hj hx
      by_cases h14 : 14 < now - x
      · have dq1 : decide (14 < wrap64 (now - x)) = true := by rw [hw]; exact decide_eq_true h14
        rw [if_pos h14] at HE1
        have h7 := hS.out.1.set7 hlt ⟨0, 0, 0, 0, 0, 0, true⟩ rfl
        have hn : DocAt (set7 wr gp (j * 11 + 2) ⟨0, 0, 0, 0, 0, 0, true⟩) base d gp go cap id m (oldTo now f (j + 1)) TU AA CC op (dch chP) := h7.congr fun i hi => by
          unfold updP
          by_cases e : i = j
          · subst e
            rw [if_pos rfl, HE1.out, e0]
            rfl
          · rw [if_neg e, oldTo_step e]
        have HNX := Lib.hid (And.intro hn (show Touch (DocQ base w) w (set7 wr gp (j * 11 + 2) ⟨0, 0, 0, 0, 0, 0, true⟩) from set7_touch hS.out.2 (fun _ => H.out.qp) _ _))
        have p2 := hcl.c2
        have p3 := hcl.c3
        have p4 := hcl.c4
        have p5 := hcl.c5
        have p6 := hcl.c6
        have p7 := hcl.c7
        have p8 := hcl.c8
        have f2 := hS.out.1.ports.frozen (j * 11 + 2)
        have f3 := hS.out.1.ports.frozen (j * 11 + 3)
        have f4 := hS.out.1.ports.frozen (j * 11 + 4)
        have f5 := hS.out.1.ports.frozen (j * 11 + 5)
        have f6 := hS.out.1.ports.frozen (j * 11 + 6)
        have f7 := hS.out.1.ports.frozen (j * 11 + 7)
        have f8 := hS.out.1.ports.frozen (j * 11 + 8)
        clear h14 hw h7 hn hcl e0
        go_wp2_with fail
        go_roundw
        case rel =>
          rw [HJ.out]
          exact ⟨j + 1, hlt, by rw [Int.natCast_add]; rfl, HNX⟩
        case measure =>
          rw [HJ.out]
          show m - ((j : Int) + 1).toNat < m - ((j : Int)).toNat
          omega
      · have dq1 : decide (14 < wrap64 (now - x)) = false := by rw [hw]; exact decide_eq_false h14
        rw [if_neg h14] at HE1
        have hn : DocAt wr base d gp go cap id m (oldTo now f (j + 1)) TU AA CC op (dch chP) := hS.out.1.congr fun i hi => by
          by_cases e : i = j
          · subst e
            rw [HE1.out, e0]
          · exact oldTo_step e
        have HNX := Lib.hid (And.intro hn hS.out.2)
        clear h14 hw hn hcl e0
        go_wp2_with fail
        go_roundw
        case rel =>
          rw [HJ.out]
          exact ⟨j + 1, hlt, by rw [Int.natCast_add]; rfl, HNX⟩
        case measure =>
          rw [HJ.out]
          show m - ((j : Int) + 1).toNat < m - ((j : Int)).toNat
          omega
    · obtain rfl : m = j := by omega
      have hold : DocAt wr base d gp go cap id m (oldP now f) TU AA CC op (dch chP) := hS.out.1.congr fun i hi => (if_pos hi : oldTo now f m i = _).symm
      have hpo := HN.out.2.1.old now
      have HU := Lib.hid (rupdate_any hold HN.out.1 (fun i hi => (hpo i hi).hd) (fun i => by have := HN.out.2.2.2.2.2.1 i; omega) (Nat.le_trans HN.out.2.2.2.2.2.2.1 hS.out.2.size) now)
      rw [HFA.out] at HU
      have HT0 := Lib.hid hS.out.2
      clear hold hpo hj hS
      go_wp2_with fail
      refine HU.out.mono ?_
      rintro e w1 ⟨rfl, ⟨TU1, AA1, CC1, h1, hl1⟩, t1⟩
      have H1 := Lib.hid (And.intro h1 (And.intro hl1 (docq_trans HT0.out t1)))
      have hd1 := h1.d1
      clear h1 hl1 t1
      have n0 : 0 ≤ now := by have := HN.out; omega
      have HN0 := Lib.hid n0
      have hn4 : wrap64 (now + 4) = now + 4 := IntWalk.wrap64_in _ (by have := HN.out; omega)
      go_wp2_with fail
      clear hd1
      go_loopw [51] (fun iv wr => ∃ j : Nat, j ≤ m ∧ iv = .int .i64 j ∧ Hid (DocAt wr base d gp go cap id m F TU1 AA1 CC1 (fwTo F op now j) (dch (if opensTo F op now j = true then now else chP)) ∧ Touch (DocQ base w) w wr)) (fun iv _ => m - (intOf iv).toNat)
      case atStart => exact ⟨0, Nat.zero_le _, rfl, Lib.hid ⟨H1.out.1.congrOp fun i _ => if_neg (Nat.not_lt_zero i), H1.out.2.2⟩⟩
      case round =>
        obtain ⟨j, hj, rfl, hS⟩ := hrel
        by_cases hlt : j < m
        · have j1 : (j : Int) < m := by omega
          have j0 : (0 : Int) ≤ j := by omega
          have HJ := Lib.hid (show wrap64 ((j : Int) + 1) = (j : Int) + 1 from IntWalk.wrap64_in _ (by have := HN.out.1; omega))
          have t1 := hS.out.1.d1
          have c10 : wr.cell? ⟨gp, j * 11 + 10, none⟩ = some (.slice (AA1 j) (TU1 j).length (CC1 j)) := (hS.out.1.ports.cells hlt).c10
          have hla := H1.out.1.lasts j hlt
          have hsi := (HF.out j hlt).since
          have HST := rstate11_any (AA1 j) (CC1 j) (TU1 j) wr (hS.out.1.turns j hlt).at_ (by have := H1.out.2.1 j; have := HN.out.2.2.2.2.2.1 j; omega) now (by rw [hla]; exact hsi.1) (by rw [hla]; exact hsi.2) HN.out.2.2.2.2.1
          rw [hla] at HST
          rw [show stateI ((F j).role, (F j).since).1 ((F j).role, (F j).since).2 now = stateP (F j) now from rfl] at HST
          obtain ⟨st, hst⟩ : ∃ st, stateP (F j) now = st := ⟨_, rfl⟩
          rw [hst] at HST
          obtain ⟨s, hs⟩ : ∃ s, fwN F now j = s := ⟨_, rfl⟩
          have hse : (st == 2) = s := by rw [← hst, ← hs]; rfl
          have hopc := (hS.out.1.openCell hlt).1
          rw [show fwTo F op now j j = op j from if_neg (Nat.lt_irrefl j)] at hopc
          obtain ⟨b, hb⟩ : ∃ b, op j = b := ⟨_, rfl⟩
          rw [hb] at hopc
          obtain ⟨tl, htl⟩ : ∃ tl, (TU1 j).length = tl := ⟨_, rfl⟩
          obtain ⟨aj, haj⟩ : ∃ aj, AA1 j = aj := ⟨_, rfl⟩
          obtain ⟨cj, hcj⟩ : ∃ cj, CC1 j = cj := ⟨_, rfl⟩
          rw [htl, haj, hcj] at c10 HST
          have HST := Lib.hid HST
          have hfs : ∀ k, k ≠ j → fwTo F op now (j + 1) k = fwTo F op now j k := fun k hk => by
            unfold fwTo
            by_cases hl : k < j
            · rw [if_pos hl, if_pos (by omega)]
            · rw [if_neg hl, if_neg (by omega)]
          have hfj : fwTo F op now (j + 1) j = s := (if_pos (Nat.lt_succ_self j) : fwTo F op now (j + 1) j = _).trans hs
          have hop1 : opensTo F op now (j + 1) = (opensTo F op now j || (b != s)) := by rw [← hb, ← hs]; rfl
          have HC := Lib.hid (And.intro hfs (And.intro hfj hop1))
          have hb2 := Lib.hid hb
          clear hla hsi hst hs hb htl haj hcj hfs hfj hop1 hj
          go_wp2_with fail
          refine HST.out.mono ?_
          rintro e w2 ⟨rfl, b2⟩
          have h2 := hS.out.1.below b2
          have ht2 := docq_trans hS.out.2 (bel_docq b2)
          have t1 := h2.d1
          have t2 := h2.d2
          have t3 := h2.d3
          have ft2 := h2.top.frozen 2
          have hop2 := h2.openCell hlt
          rw [show fwTo F op now j j = op j from if_neg (Nat.lt_irrefl j), hb2.out] at hop2
          obtain ⟨hopc, fo⟩ := hop2
          have hA : DocAt ((w2.setCell ⟨d, 2, none⟩ (.int .i64 (now + 4))).setCell ⟨go, j, none⟩ (.bool s)) base d gp go cap id m F TU1 AA1 CC1 (fwTo F op now (j + 1)) (now + 4) := (h2.setChange (now + 4)).setOpen hlt s HC.out.2.1 HC.out.1
          have hB : DocAt (w2.setCell ⟨go, j, none⟩ (.bool s)) base d gp go cap id m F TU1 AA1 CC1 (fwTo F op now (j + 1)) (dch (if opensTo F op now j = true then now else chP)) := h2.setOpen hlt s HC.out.2.1 HC.out.1
          have tA : Touch (DocQ base w) w ((w2.setCell ⟨d, 2, none⟩ (.int .i64 (now + 4))).setCell ⟨go, j, none⟩ (.bool s)) := (ht2.set_ (a := ⟨d, 2, none⟩) (fun _ => H.out.qd) _).set_ (a := ⟨go, j, none⟩) (fun _ => H.out.qo) _
          have tB : Touch (DocQ base w) w (w2.setCell ⟨go, j, none⟩ (.bool s)) := ht2.set_ (a := ⟨go, j, none⟩) (fun _ => H.out.qo) _
          have HAB := Lib.hid (And.intro (And.intro hA tA) (And.intro hB tB))
          have nd : d ≠ go := h2.dgo_ne
          have ng : go ≠ d := h2.dgo_ne.symm
          clear h2 ht2 b2 hA hB tA tB hS
          by_cases hbs : b = s
          · have db : (s != b) = false := by rw [hbs]; simp
            have hoe : opensTo F op now (j + 1) = opensTo F op now j := by rw [HC.out.2.2, hbs]; simp
            have HNX : Hid (DocAt (w2.setCell ⟨go, j, none⟩ (.bool s)) base d gp go cap id m F TU1 AA1 CC1 (fwTo F op now (j + 1)) (dch (if opensTo F op now (j + 1) = true then now else chP)) ∧ Touch (DocQ base w) w (w2.setCell ⟨go, j, none⟩ (.bool s))) := Lib.hid (by rw [hoe]; exact HAB.out.2)
            clear hoe HAB db
            subst hbs
            cases b
            all_goals
              go_wp2_with fail
              go_roundw
              case rel =>
                rw [HJ.out]
                exact ⟨j + 1, hlt, by rw [Int.natCast_add]; rfl, HNX⟩
              case measure =>
                rw [HJ.out]
                show m - ((j : Int) + 1).toNat < m - ((j : Int)).toNat
                omega
          · have db : (s != b) = true := by cases s <;> cases b <;> simp_all
            have hoe : opensTo F op now (j + 1) = true := by rw [HC.out.2.2, show (b != s) = true by cases s <;> cases b <;> simp_all]; simp
            have hdn : dch now = now + 4 := if_neg (by have := HN0.out; omega)
            have HNX : Hid (DocAt ((w2.setCell ⟨d, 2, none⟩ (.int .i64 (now + 4))).setCell ⟨go, j, none⟩ (.bool s)) base d gp go cap id m F TU1 AA1 CC1 (fwTo F op now (j + 1)) (dch (if opensTo F op now (j + 1) = true then now else chP)) ∧ Touch (DocQ base w) w ((w2.setCell ⟨d, 2, none⟩ (.int .i64 (now + 4))).setCell ⟨go, j, none⟩ (.bool s))) := Lib.hid (by rw [hoe, if_pos rfl, hdn]; exact HAB.out.1)
            clear hoe HAB hdn db
            have hss : (s = true ∧ b = false) ∨ (s = false ∧ b = true) := by cases s <;> cases b <;> simp_all
            clear hbs
            rcases hss with ⟨rfl, rfl⟩ | ⟨rfl, rfl⟩
            all_goals
              go_wp2_with fail
              go_roundw
              case rel =>
                rw [HJ.out]
                exact ⟨j + 1, hlt, by rw [Int.natCast_add]; rfl, HNX⟩
              case measure =>
                rw [HJ.out]
                show m - ((j : Int) + 1).toNat < m - ((j : Int)).toNat
                omega
        · obtain rfl : m = j := by omega
          have h2 : DocAt wr base d gp go cap id m F TU1 AA1 CC1 (fwN F now) (dch (chN F op now m chP)) := hS.out.1.congrOp fun i hi => (if_pos hi : fwTo F op now m i = _).symm
          have HD := Lib.hid (And.intro h2 (And.intro hS.out.2 H1.out.2.1))
          have hch := chN_range (f' := F) (fw := op) (m := m) HN.out.2.2.2.2.2.2.2 HN.out.2.2.1 HN.out.2.2.2.1
          rw [HC0.out] at HD hch
          have HCH := Lib.hid hch
          have HBE := Lib.hid (fun (w : World) (h : DocAt w base d gp go cap id m F TU1 AA1 CC1 (fwN F now) (dch C)) => rtbest_any h HN.out.1 HF.out)
          obtain ⟨bp, hbp⟩ : ∃ bp, bestP id m F = bp := ⟨_, rfl⟩
          obtain ⟨ag, hag⟩ : ∃ ag, ageP id m F = ag := ⟨_, rfl⟩
          rw [hbp, hag] at HBE
          have HBP := Lib.hid (And.intro hbp hag)
          obtain ⟨⟨br, bc, bb, bq⟩, rt⟩ := bp
          simp only [Vec.v, Vec.arr] at HBE
          clear h2 hS hch hj hlt hbp hag
          go_wp2_with fail
          refine (HBE.out _ HD.out.1).mono ?_
          rintro e w3 ⟨rfl, b3⟩
          have HEND := Lib.hid (vnew (HD.out.1.below b3) (docq_trans HD.out.2.1 (bel_docq b3)) br bc bb bq)
          have hd1 := HEND.out.1.d1
          clear b3
          go_wp2_with fail
          clear hd1
          generalize w3.alloc (.cells #[.int .i64 br, .int .i64 bc, .int .i64 bb, .int .i64 bq] 32) = WX at HEND ⊢
          generalize w3.heap.size = vb at HEND ⊢
          obtain ⟨L, hL⟩ : ∃ L : Nat → List Sd, L = fun j => if now % 2 = 0 then saidTo id m F C now j else [] := ⟨_, rfl⟩
          have hLm : L m = S := by rw [hL, ← HS0.out.1]; rfl
          have hL0 : L 0 = [] := by rw [hL]; show (if now % 2 = 0 then ([] : List Sd) else []) = []; split <;> rfl
          have hLen : ∀ j, (L j).length ≤ j := fun j => by
            rw [hL]
            show (if now % 2 = 0 then saidTo id m F C now j else ([] : List Sd)).length ≤ j
            split
            · exact said_len _ _ _ _ _ _
            · exact Nat.zero_le _
          have hLs : ∀ j, L (j + 1) = if now % 2 = 0 ∧ (F j).role = 2 then L j ++ [⟨j, ⟨br, bc, id, j, ag, 2, tells C now⟩⟩] else L j := fun j => by
            rw [hL]
            show (if now % 2 = 0 then saidTo id m F C now (j + 1) else ([] : List Sd)) = if now % 2 = 0 ∧ (F j).role = 2 then (if now % 2 = 0 then saidTo id m F C now j else []) ++ [⟨j, ⟨br, bc, id, j, ag, 2, tells C now⟩⟩] else (if now % 2 = 0 then saidTo id m F C now j else [])
            by_cases e : now % 2 = 0
            · by_cases r : (F j).role = 2
              · rw [if_pos e, if_pos ⟨e, r⟩, if_pos e]
                rw [show saidTo id m F C now (j + 1) = if (F j).role = 2 then saidTo id m F C now j ++ [saidOf id m F C now j] else saidTo id m F C now j from rfl, if_pos r]
                unfold saidOf
                rw [HBP.out.1, HBP.out.2]
              · rw [if_pos e, if_neg (fun h => r h.2), if_pos e]
                rw [saidTo, if_neg r]
            · rw [if_neg e, if_neg (fun h => e h.1), if_neg e]
          have HLL := Lib.hid (And.intro hLm (And.intro hL0 (And.intro hLen hLs)))
          clear hL hLm hL0 hLen hLs
          go_loopw [9, 10, 98] (fun pv sv iv wr => ∃ (j k : Nat) (A : Option Addr) (c : Nat) (A2 : Option Addr) (c2 : Nat), j ≤ m ∧ iv = .int .i64 j ∧ pv = .slice A k c ∧ sv = .slice A2 k c2 ∧ Hid ((L j).length = k ∧ RowSt w wr vb br bc bb bq A c A2 c2 ((L j).map fun s => s.port) ((L j).map fun s => s.b) base d gp go cap id m F TU1 AA1 CC1 (fwN F now) (dch C))) (fun _ _ iv _ => m - (intOf iv).toNat)
          case atStart =>
            refine ⟨0, 0, none, 0, none, 0, Nat.zero_le _, rfl, rfl, rfl, Lib.hid ⟨by rw [HLL.out.2.1]; rfl, ?_⟩⟩
            rw [HLL.out.2.1]
            exact ⟨World.ownsRow_nil _ _ _ _, World.ownsRow_nil _ _ _ _, HEND.out.1, HEND.out.2.1, HEND.out.2.2⟩
          case round =>
            obtain ⟨j, k, A, c, A2, c2, hj, rfl, rfl, rfl, hS⟩ := hrel
            by_cases hlt : j < m
            · have j1 : (j : Int) < m := by omega
              have j0 : (0 : Int) ≤ j := by omega
              have HJ := Lib.hid (show wrap64 ((j : Int) + 1) = (j : Int) + 1 from IntWalk.wrap64_in _ (by have := HN.out.1; omega))
              have t1 := hS.out.2.doc.d1
              have hst := HLL.out.2.2.2 j
              by_cases he : now % 2 = 0
              rotate_left
              · have de : (now % 2 == 0) = false := by simpa using he
                rw [if_neg (fun h => he h.1)] at hst
                have HST := Lib.hid hst
                clear hst he hj
                go_wp2_with fail
                go_roundw
                case rel =>
                  rw [HJ.out]
                  exact ⟨j + 1, k, A, c, A2, c2, hlt, by rw [Int.natCast_add]; rfl, rfl, rfl, Lib.hid (by rw [HST.out]; exact hS.out)⟩
                case measure =>
                  rw [HJ.out]
                  show m - ((j : Int) + 1).toNat < m - ((j : Int)).toNat
                  omega
              · have de : (now % 2 == 0) = true := by simpa using he
                have c10 : wr.cell? ⟨gp, j * 11 + 10, none⟩ = some (.slice (AA1 j) (TU1 j).length (CC1 j)) := (hS.out.2.doc.ports.cells hlt).c10
                have HRO := rrole11_any (AA1 j) (CC1 j) (TU1 j) wr (hS.out.2.doc.turns j hlt).at_ (by have := H1.out.2.1 j; have := HN.out.2.2.2.2.2.1 j; omega)
                rw [H1.out.1.lasts j hlt] at HRO
                rw [show ((F j).role, (F j).since).1 = (F j).role from rfl] at HRO
                obtain ⟨ro, hro⟩ : ∃ ro, (F j).role = ro := ⟨_, rfl⟩
                rw [hro] at HRO hst
                obtain ⟨tl, htl⟩ : ∃ tl, (TU1 j).length = tl := ⟨_, rfl⟩
                obtain ⟨aj, haj⟩ : ∃ aj, AA1 j = aj := ⟨_, rfl⟩
                obtain ⟨cj, hcj⟩ : ∃ cj, CC1 j = cj := ⟨_, rfl⟩
                rw [htl, haj, hcj] at c10 HRO
                have HRO := Lib.hid HRO
                by_cases h2 : ro = 2
                rotate_left
                · have d2 : (ro == 2) = false := by simpa using h2
                  rw [if_neg (fun h => h2 h.2)] at hst
                  have HST := Lib.hid hst
                  clear hst he hj h2 htl haj hcj hro
                  go_wp2_with fail
                  refine HRO.out.mono ?_
                  rintro e w4 ⟨rfl, b4⟩
                  have HNX := Lib.hid (hS.out.2.below b4)
                  clear b4
                  go_wp2_with fail
                  go_roundw
                  case rel =>
                    rw [HJ.out]
                    exact ⟨j + 1, k, A, c, A2, c2, hlt, by rw [Int.natCast_add]; rfl, rfl, rfl, Lib.hid (by rw [HST.out]; exact ⟨hS.out.1, HNX.out⟩)⟩
                  case measure =>
                    rw [HJ.out]
                    show m - ((j : Int) + 1).toNat < m - ((j : Int)).toNat
                    omega
                · subst h2
                  rw [if_pos ⟨he, rfl⟩] at hst
                  have HST := Lib.hid hst
                  clear hst he hj htl haj hcj hro
                  go_wp2_with fail
                  refine HRO.out.mono ?_
                  rintro e w4 ⟨rfl, b4⟩
                  have h4 := hS.out.2.below b4
                  have hk6 : k ≤ 100 := by have h1 := hS.out.1; have h2 := HLL.out.2.2.1 j; have h3 := HN.out.1; omega
                  obtain ⟨a5, c5, w5, hr5, h5⟩ := h4.int (k := k) (by rw [List.length_map]; exact hS.out.1) hk6 j
                  obtain ⟨te, hte⟩ : ∃ te, tells C now = te := ⟨_, rfl⟩
                  have htd : decide (now ≤ dch C) = te := by rw [← hte]; exact (dch_tells HN0.out).symm
                  rw [hte] at HST
                  have h5d : RowSt w w5.drew vb br bc bb bq a5 c5 A2 c2 (((L j).map fun s => s.port) ++ [(j : Int)]) ((L j).map fun s => s.b) base d gp go cap id m F TU1 AA1 CC1 (fwN F now) (dch C) := h5.below ⟨rfl, rfl, rfl, Nat.le_refl _, fun _ _ => rfl⟩
                  obtain ⟨a6, c6, w6, hr6, h6⟩ := h5d.bp (k := k) (by rw [List.length_map]; exact hS.out.1) hk6 ⟨br, bc, id, j, ag, 2, te⟩
                  have x0 := h5.doc.d0
                  have x2 := h5.doc.d2
                  have v0 : w5.cell? ⟨vb, 0, none⟩ = some (.int .i64 br) := h5.v.cell 0
                  have v1 : w5.cell? ⟨vb, 1, none⟩ = some (.int .i64 bc) := h5.v.cell 1
                  have ca0 : ∀ o : Obj, (w5.alloc o).cell? ⟨d, 0, none⟩ = some (.int .i64 id) := fun o => (h5.doc.alloc o).d0
                  have ca2 : ∀ o : Obj, (w5.alloc o).cell? ⟨d, 2, none⟩ = some (.int .i64 (dch C)) := fun o => (h5.doc.alloc o).d2
                  have cv0 : ∀ o : Obj, (w5.alloc o).cell? ⟨vb, 0, none⟩ = some (.int .i64 br) := fun o => (h5.v.alloc o).cell 0
                  have cv1 : ∀ o : Obj, (w5.alloc o).cell? ⟨vb, 1, none⟩ = some (.int .i64 bc) := fun o => (h5.v.alloc o).cell 1
                  have HR5 := Lib.hid hr5
                  have HR6 := Lib.hid hr6
                  have H6 := Lib.hid h6
                  clear b4 h4 hk6 h5 h5d hr5 hr6 h6 hte
                  go_wp2_with (at_builtin; refine Lib.wpList_append_run _ rfl _ _ _ _ rfl _ _ rfl rfl _ _ HR5.out ?_)
                  have kd : w5.drew.cell? ⟨d, 0, none⟩ = some (.int .i64 id) ∧ w5.drew.cell? ⟨d, 2, none⟩ = some (.int .i64 (dch C)) ∧ w5.drew.cell? ⟨vb, 0, none⟩ = some (.int .i64 br) ∧ w5.drew.cell? ⟨vb, 1, none⟩ = some (.int .i64 bc) := ⟨x0, x2, v0, v1⟩
                  have ka : ∀ o : Obj, (w5.alloc o).drew.cell? ⟨d, 0, none⟩ = some (.int .i64 id) ∧ (w5.alloc o).drew.cell? ⟨d, 2, none⟩ = some (.int .i64 (dch C)) ∧ (w5.alloc o).drew.cell? ⟨vb, 0, none⟩ = some (.int .i64 br) ∧ (w5.alloc o).drew.cell? ⟨vb, 1, none⟩ = some (.int .i64 bc) := fun o => ⟨ca0 o, ca2 o, cv0 o, cv1 o⟩
                  have k6 : w6.cell? ⟨d, 0, none⟩ = some (.int .i64 id) ∧ w6.cell? ⟨d, 2, none⟩ = some (.int .i64 (dch C)) ∧ w6.cell? ⟨vb, 0, none⟩ = some (.int .i64 br) ∧ w6.cell? ⟨vb, 1, none⟩ = some (.int .i64 bc) := ⟨H6.out.doc.d0, H6.out.doc.d2, H6.out.v.cell 0, H6.out.v.cell 1⟩
                  clear ca0 ca2 cv0 cv1 x0 x2 v0 v1
                  go_region_held3 (fun w' => w'.cell? ⟨d, 0, none⟩ = some (.int .i64 id) ∧ w'.cell? ⟨d, 2, none⟩ = some (.int .i64 (dch C)) ∧ w'.cell? ⟨vb, 0, none⟩ = some (.int .i64 br) ∧ w'.cell? ⟨vb, 1, none⟩ = some (.int .i64 bc))
                    (first
                      | (with_reducible exact kd)
                      | (with_reducible exact ka _)
                      | (with_reducible exact k6))
                    (first
                      | (refine step_append_run rfl (.tmp 120) (.tmp 139) 48 48 rfl _ _ (by simp [Act.eval]) (by simp [Act.eval]) HR6.out ?_))
                  all_goals
                    clear kd ka k6
                    go_wp2_with fail
                    go_roundw
                    case rel =>
                      rw [HJ.out]
                      exact ⟨j + 1, k + 1, a5, c5, a6, c6, hlt, by rw [Int.natCast_add]; rfl, rfl, rfl, Lib.hid (by rw [HST.out, List.length_append, List.map_append, List.map_append]; exact ⟨by rw [hS.out.1]; rfl, H6.out⟩)⟩
                    case measure =>
                      rw [HJ.out]
                      show m - ((j : Int) + 1).toNat < m - ((j : Int)).toNat
                      omega
            · obtain rfl : m = j := by omega
              have HE := hS.out
              rw [HLL.out.1] at HE
              have hk : k = ns := by rw [← HS0.out.2]; exact HE.1.symm
              subst hk
              have HE := Lib.hid HE
              clear hS hj hlt
              go_wp2_with fail
              exact bodyPost_ret (results_tmp2 rfl _ _ _) rfl ⟨A, c, A2, c2, rfl, HE.out.2.i, HE.out.2.b, ⟨TU1, AA1, CC1, HE.out.2.doc, H1.out.2.1⟩, HE.out.2.t⟩
end
end Go.Proofs.Ytonkmbnnbpbhiaa
