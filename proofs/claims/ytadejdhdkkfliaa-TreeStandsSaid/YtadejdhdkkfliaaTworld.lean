/- world: the bridges at first, their ports set up, what was heard ahead taken in. Its condition: what fits lets through. -/
import Derived.Test.YtadejdhdkkfliaaTall
import Derived.Test.YtadejdhdkkfliaaTstart
import Derived.Test.YtadejdhdkkfliaaTjunk
import Derived.Test.YtadejdhdkkfliaaTplay
import Derived.Test.YtadejdhdkkfliaaLk
namespace Go.Proofs.Ytadejdhdkkfliaa
open Go.ChangeShapes Go.WideShapes Go.ChangeAt Go.RowKit
set_option maxRecDepth 100000

theorem updF_self {α : Type} (F : Nat → α) (x : Nat) (a : α) (h : a = F x) : updF F x a = F := by
  funext y
  unfold updF
  by_cases e : y = x
  · rw [if_pos e, e, h]
  · rw [if_neg e]
theorem updB_self (B : Nat → Nat → Pt) (x : Nat) (f : Nat → Pt) (h : f = B x) : updB B x f = B := updF_self B x f h
theorem range_upd (g : Nat → Nat) (j a : Nat) : (List.range (j + 1)).map (updF g j a) = (List.range j).map g ++ [a] := by
  rw [List.range_succ, List.map_append]
  congr 1
  · exact List.map_congr_left fun i hi => updF_ne g a (by have := List.mem_range.1 hi; omega)
  · show [updF g j a j] = [a]
    rw [updF_at]
/-- The row of pointers is no bridge's block. -/
theorem OwnP.apart {w : World} {base c : Nat} {A : Option Addr} {l : List Nat} (h : OwnP w base A c l) {b : Addr} (hA : A = some b) {g gp m : Nat} {id ch : Int} {f : Nat → Pt} {fw : Nat → Bool} (ht : TreeW w g gp id m f fw ch) : b.block ≠ g ∧ b.block ≠ gp := by
  rcases h.2 with ⟨e0, _⟩ | ⟨g', cap', cur, e0, _, hg', _⟩
  · injection e0 with e1
    rw [e1] at hA
    cases hA
  · injection e0 with e1
    rw [e1] at hA
    injection hA with hA
    subst hA
    refine ⟨fun e => ?_, fun e => ?_⟩
    · subst e
      have ht := TreeAt.top ht
      unfold Blk at ht
      rw [ht] at hg'
      injection hg' with hb
      injection hb with _ hb
      exact absurd hb (by decide)
    · subst e
      obtain ⟨cs, hb, _⟩ := TreeAt.ports ht
      unfold Blk at hb
      rw [hb] at hg'
      injection hg' with hb
      injection hb with _ hb
      exact absurd hb (by decide)
theorem AllW.grown {w w' : World} {n : Nat} {ids : Nat → Int} {g gp : Nat → Nat} {B : Nat → Nat → Pt} {fw : Nat → Nat → Bool} {ch : Nat → Int} (h : AllW w n ids g gp B fw ch) {base c : Nat} {A : Option Addr} {l : List Nat} (ho : OwnP w base A c l)
    (hg : w.grownBy w' (Value.slice A l.length c).ownBlock) : AllW w' n ids g gp B fw ch := by
  have key : ∀ x, x < n → w'.heap[g x]? = w.heap[g x]? ∧ w'.heap[gp x]? = w.heap[gp x]? := fun x hx => by
    have hl := h.lt hx
    rcases A with _ | b
    · exact ⟨hg.block _ hl.1 (by intro k; cases k), hg.block _ hl.2 (by intro k; cases k)⟩
    · have ha := ho.apart rfl (h.at_ x hx)
      exact ⟨hg.block _ hl.1 (by intro k; injection k with k; exact ha.1 k.symm), hg.block _ hl.2 (by intro k; injection k with k; exact ha.2 k.symm)⟩
  exact ⟨fun x hx => TreeAt.block (h.at_ x hx) (key x hx).1 (key x hx).2, h.gg, h.pp, h.gp_⟩
/-- The row stays while a bridge turns. -/
theorem OwnP.keep {w w' : World} {base c : Nat} {A : Option Addr} {l : List Nat} (h : OwnP w base A c l) {g gp m : Nat} {id ch : Int} {f : Nat → Pt} {fw : Nat → Bool} (ht : TreeW w g gp id m f fw ch) (t : Touch (fun k => k = g ∨ k = gp) w w') : OwnP w' base A c l := by
  refine own_heap h fun k hk => ?_
  have hlt := (World.ownsRow.lt h k hk).2
  obtain ⟨b, hb, hbk⟩ : ∃ b : Addr, A = some b ∧ b.block = k := by
    rcases A with _ | b
    · cases hk
    · exact ⟨b, rfl, by injection hk⟩
  have ha := h.apart hb ht
  exact t.block k hlt fun e => by omega
theorem updB_const (p : Pt) (x : Nat) : updB (fun _ _ => p) x (fun _ => p) = fun _ _ => p := updB_self _ _ _ rfl
theorem range_getD (g : Nat → Nat) {n a : Nat} (h : a < n) : ((List.range n).map g).getD a 0 = g a := by
  rw [List.getD_eq_getElem?_getD, List.getElem?_map, List.getElem?_range h]
  rfl
theorem OwnP.cell_ {w : World} {base c n bo : Nat} {g : Nat → Nat} (h : OwnP w base (some ⟨bo, 0, none⟩) c ((List.range n).map g)) {x : Nat} (hx : x < n) : w.cell? ⟨bo, x, none⟩ = some (.pointer (some ⟨g x, 0, none⟩)) := by
  obtain ⟨bo', e, _, _, hc⟩ := h.at_ (k := x) (by rw [List.length_map, List.length_range]; exact hx)
  injection e with e
  injection e with e
  rw [range_getD g hx, ← e] at hc
  exact hc
theorem WldP.congrD {n : Nat} {ids : Nat → Int} {D D' : Dl → Prop} {B : Nat → Nat → Pt} (h : WldP n ids D B) (e : ∀ d, D d ↔ D' d) : WldP n ids D' B := by
  have : D = D' := funext fun d => propext (e d)
  rw [← this]
  exact h
/-- Both ends of the next link. -/
theorem WldP.link {n : Nat} {ids : Nat → Int} {L : List Lk} {B : Nat → Nat → Pt} (K : Big n ids L) {q : Nat} (hq : q < L.length) (h : WldP n ids (fun d => d ∈ dirs (L.take q)) B) {x : Lk} (hx : L[q] = x) :
    WldP n ids (fun d => d ∈ dirs (L.take (q + 1))) (updB (updB B x.a (setP (ids x.a) 6 0 (B x.a) x.pa.toNat true x.ca)) x.b (setP (ids x.b) 6 0 (updB B x.a (setP (ids x.a) 6 0 (B x.a) x.pa.toNat true x.ca) x.b) x.pb.toNat true x.cb)) := by
  have hm : x ∈ L := hx ▸ List.getElem_mem hq
  have k1 := K.ok (mem_dirs.2 ⟨x, hm, .inl rfl⟩)
  have k2 := K.ok (mem_dirs.2 ⟨x, hm, .inr rfl⟩)
  have hoff : ∀ y ∈ L.take q, Off y x := fun y hy => by
    obtain ⟨i, hi, rfl⟩ := List.getElem_of_mem hy
    rw [List.length_take] at hi
    rw [List.getElem_take, ← hx]
    exact List.pairwise_iff_getElem.1 K.fits.ports i q (by omega) hq (by omega)
  have s2 := h.set k2 (fun e he hv => by
    obtain ⟨y, hy, rfl | rfl⟩ := mem_dirs.1 he
    · exact (hoff y hy).2.2.1 hv
    · exact (hoff y hy).1 hv)
  have s1 := s2.set k1 (fun e he hv => by
    rcases he with he | rfl
    · obtain ⟨y, hy, rfl | rfl⟩ := mem_dirs.1 he
      · exact (hoff y hy).2.2.2 hv
      · exact (hoff y hy).2.1 hv
    · exact k1.ne hv.1)
  refine WldP.congrD s1 fun d => ?_
  show ((d ∈ dirs (L.take q) ∨ d = x.d2) ∨ d = x.d1) ↔ d ∈ dirs (L.take (q + 1))
  rw [List.take_succ_eq_append_getElem hq, hx, mem_dirs, mem_dirs]
  constructor
  · rintro ((⟨y, hy, e⟩ | e) | e)
    · exact ⟨y, List.mem_append_left _ hy, e⟩
    · exact ⟨x, List.mem_append_right _ (List.mem_singleton.2 rfl), .inr e⟩
    · exact ⟨x, List.mem_append_right _ (List.mem_singleton.2 rfl), .inl e⟩
  · rintro ⟨y, hy, e⟩
    rcases List.mem_append.1 hy with hy | hy
    · exact .inl (.inl ⟨y, hy, e⟩)
    · obtain rfl := List.mem_singleton.1 hy
      rcases e with e | e
      · exact .inr e
      · exact .inl (.inr e)
/-- Whatever is heard ahead. -/
theorem WldP.junk {n : Nat} {ids : Nat → Int} {D : Dl → Prop} {B : Nat → Nat → Pt} (h : WldP n ids D B) {y : Nat} (hy : y < n) {xp r : Int} {b : Bp} (hb : b.ok) {f' : Nat → Pt}
    (hc : if (0 ≤ xp ∧ xp < (6 : Nat)) ∧ b.takes then (if (B y xp.toNat).up = true then r = 0 ∧ f' = hearP (ids y) 6 0 (B y) xp.toNat b.vec b.age else r = 7 ∧ f' = B y) else r = 1 ∧ f' = B y) : WldP n ids D (updB B y f') := by
  by_cases h1 : (0 ≤ xp ∧ xp < (6 : Nat)) ∧ b.takes
  · rw [if_pos h1] at hc
    by_cases h2 : (B y xp.toNat).up = true
    · rw [if_pos h2] at hc
      rw [hc.2]
      exact h.hear hy (by omega) h2 ((good_iff b).1 h1.2).1 ⟨hb.root, hb.cost, hb.bridge, hb.port⟩ hb.age
    · rw [if_neg h2] at hc
      rw [updB_self B y f' hc.2]
      exact h
  · rw [if_neg h1] at hc
    rw [updB_self B y f' hc.2]
    exact h
set_option maxHeartbeats 8000000 in
theorem world_any (A : Option Addr) (n c : Nat) (f : Nat → Int) (A2 : Option Addr) (c2 : Nat) (l : List Li) (A3 : Option Addr) (c3 : Nat) (js : List Jk) (w : World) (h1 : IdAt w w.heap.size A n f) (h2 : LiAt w w.heap.size A2 l) (h3 : JkAt w w.heap.size A3 js) (hjk : ∀ x ∈ js, x.ok)
    (hbig : Big n f (l.map Li.lk)) (hnm : ∀ x, x < n → nameB (f x) = true ∧ f x ≤ 9223372036854775807) (hn8 : n ≤ 8) (hk : l.length ≤ 16) (hj : js.length ≤ 40) (hpos : ∀ x ∈ l, 0 ≤ x.a ∧ 0 ≤ x.b) :
    Calls Try.prog 28 #[.slice A n c, .slice A2 l.length c2, .slice A3 js.length c3] w fun e w' => ∃ (A' : Option Addr) (c' : Nat) (g gp : Nat → Nat) (B : Nat → Nat → Pt), e = .returned (.slice A' n c') ∧ OwnP w' w.heap.size A' c' ((List.range n).map g) ∧
      AllW w' n f g gp B (fun _ _ => false) (fun _ => -1) ∧ WldP n f (fun d => d ∈ dirs (l.map Li.lk)) B ∧ (∀ x, x < n → w.heap.size ≤ g x ∧ w.heap.size ≤ gp x) ∧ Below w.heap.size w w' := by
  obtain ⟨k, hkl⟩ : ∃ k, l.length = k := ⟨_, rfl⟩
  obtain ⟨kj, hkj⟩ : ∃ kj, js.length = kj := ⟨_, rfl⟩
  have H := Lib.hid (And.intro h1 (And.intro h2 (And.intro h3 (And.intro hjk (And.intro hbig (And.intro hnm (And.intro hn8 (And.intro (hkl ▸ hk : k ≤ 16) (And.intro (hkj ▸ hj : kj ≤ 40) (And.intro hpos (And.intro hkl hkj)))))))))))
  rw [hkl, hkj]
  clear h1 h2 h3 hjk hbig hnm hn8 hk hj hpos hkl hkj
  go_enter Try.func28, Try.ntmps28
  go_wp2_with fail
  go_loopw [7, 16] (fun ov iv wr => ∃ (j : Nat) (A1 : Option Addr) (c1 : Nat), j ≤ n ∧ iv = .int .i64 j ∧ ov = .slice A1 j c1 ∧ Hid (∃ g gp : Nat → Nat, OwnP wr w.heap.size A1 c1 ((List.range j).map g) ∧ AllW wr j f g gp (fun _ _ => ptN) (fun _ _ => false) (fun _ => -1) ∧ (∀ x, x < j → w.heap.size ≤ g x ∧ w.heap.size ≤ gp x) ∧ Below w.heap.size w wr)) (fun _ iv _ => n - (intOf iv).toNat)
  case atStart => exact ⟨0, none, 0, Nat.zero_le _, rfl, rfl, Lib.hid ⟨fun _ => 0, fun _ => 0, World.ownsRow_nil _ _ _ _, AllW.none _ _ _ _ _ _ _, fun _ h => absurd h (Nat.not_lt_zero _), Below.refl _ _⟩⟩
  case round =>
    obtain ⟨j, A1, c1, hj, rfl, rfl, hS⟩ := hrel
    by_cases hlt : j < n
    · have j1 : (j : Int) < n := by omega
      have j0 : (0 : Int) ≤ j := by omega
      have HJ := Lib.hid (show wrap64 ((j : Int) + 1) = (j : Int) + 1 from IntWalk.wrap64_in _ (by have := H.out.2.2.2.2.2.2.1; omega))
      obtain ⟨g, gp, hO, hA, hg, hb⟩ := hS.out
      obtain ⟨bl, ofl, rfl, hbl, hc⟩ := H.out.1 j hlt
      have hc := (hb.cell (p := ⟨bl, ofl + j, none⟩) hbl).trans hc
      have HN := Lib.hid (tnew_ok (f j) 6 (H.out.2.2.2.2.2.1 j hlt).2 (H.out.2.2.2.2.2.1 j hlt).1 (by decide) (by decide) wr)
      have HO := Lib.hid (And.intro hO (And.intro hA (And.intro hg hb)))
      clear hO hA hg hb hS hbl hj
      go_wp2_with fail
      refine HN.out.mono ?_
      rintro e w1 ⟨a, ap, rfl, ht, b1, ha, hap⟩
      have hap2 : ∃ a' c' w3, (Builtin.append_ #[59, 59] 59 #[.slice A1 j c1, .slice (some ⟨w1.heap.size, 0, none⟩) 1 1]).run Try.prog (w1.alloc (.cells #[.pointer (some ⟨a, 0, none⟩)] 25)) = .ok (.slice a' (j + 1) c') w3 ∧ Hid (∃ g gp : Nat → Nat, OwnP w3 w.heap.size a' c' ((List.range (j + 1)).map g) ∧ AllW w3 (j + 1) f g gp (fun _ _ => ptN) (fun _ _ => false) (fun _ => -1) ∧ (∀ x, x < j + 1 → w.heap.size ≤ g x ∧ w.heap.size ≤ gp x) ∧ Below w.heap.size w w3) := by
        have hnb := Blk.new w1 25 #[.pointer (some ⟨a, 0, none⟩)]
        have hbe := bel_alloc w1 (.cells #[.pointer (some ⟨a, 0, none⟩)] 25)
        have hall := (HO.out.2.1.more b1 ht ha hap).below hbe
        rw [updB_const, updF_self _ _ _ rfl, updF_self _ _ _ rfl] at hall
        have hbw1 := HO.out.2.2.2.trans (b1.mono HO.out.2.2.2.size)
        have hown1 : OwnP w1 w.heap.size A1 c1 ((List.range j).map g) := own_heap HO.out.1 fun q hq => b1.block q (World.ownsRow.lt HO.out.1 q hq).2
        have hown : OwnP (w1.alloc (.cells #[.pointer (some ⟨a, 0, none⟩)] 25)) w.heap.size A1 c1 ((List.range j).map g) := World.ownsRow.alloc hown1 _
        have hbw := hbw1.trans (hbe.mono hbw1.size)
        have hws := hbw.size
        have hn := H.out.2.2.2.2.2.2.1
        generalize w1.alloc (.cells #[.pointer (some ⟨a, 0, none⟩)] 25) = W at hnb hbe hown hbw hws hall ⊢
        obtain ⟨a', c', w3, hr, ho, hgr⟩ := append_ptr W w.heap.size A1 c1 j _ (by simp) hown w1.heap.size a hnb (by simp; omega) hws
        have hown' := hown
        unfold OwnP at hown'
        rw [List.length_map, List.length_range] at hown'
        refine ⟨a', c', w3, hr, Lib.hid ⟨updF g j a, updF gp j ap, ?_, hall.grown hown (by rw [List.length_map, List.length_range]; exact hgr), fun x hx => ?_, hbw.trans (bel_own hown' hgr (Nat.le_refl _) hws)⟩⟩
        · rw [range_upd]
          exact ho
        · have hs := HO.out.2.2.2.size
          by_cases e : x = j
          · rw [e, updF_at, updF_at]
            omega
          · rw [updF_ne g a e, updF_ne gp ap e]
            exact HO.out.2.2.1 x (by omega)
      obtain ⟨a', c', w3, hr, HE⟩ := hap2
      have HR := Lib.hid hr
      clear hr ht b1 ha hap
      go_wp2_with (at_builtin; refine Lib.wpList_append_run _ rfl _ _ _ _ rfl _ _ rfl rfl _ _ HR.out ?_)
      go_roundw
      case rel =>
        rw [HJ.out]
        exact ⟨j + 1, a', c', hlt, by rw [Int.natCast_add]; rfl, rfl, HE⟩
      case measure =>
        rw [HJ.out]
        show n - ((j : Int) + 1).toNat < n - ((j : Int)).toNat
        omega
    · obtain rfl : n = j := by omega
      clear hlt hj
      obtain ⟨g, gp, hO, hA, hg, hb⟩ := hS.out
      have HG := Lib.hid hg
      have h0 := Lib.hid (show ∃ B : Nat → Nat → Pt, OwnP wr w.heap.size A1 c1 ((List.range n).map g) ∧ AllW wr n f g gp B (fun _ _ => false) (fun _ => -1) ∧ WldP n f (fun d => d ∈ dirs ((l.map Li.lk).take 0)) B ∧ Below w.heap.size w wr from
        ⟨_, hO, hA, by
          have := WldP.start (n := n) (ids := f) (p := ptN) ⟨rfl, rfl, rfl⟩ (ptN_okm 6)
          rw [List.take_zero]
          refine ⟨this.ok, this.role, fun x i hx hi => ?_, fun d hd => ?_, this.info⟩
          · rw [this.up x i hx hi]
            exact ⟨fun ⟨_, h, _⟩ => h.elim, fun ⟨_, h, _⟩ => absurd h (by simp [dirs])⟩
          · exact absurd hd (by simp [dirs]), hb⟩)
      clear hO hA hg hb hS
      go_wp2_with fail
      go_loopw [28] (fun iv wr => ∃ q : Nat, q ≤ k ∧ iv = .int .i64 q ∧ Hid (∃ B : Nat → Nat → Pt, OwnP wr w.heap.size A1 c1 ((List.range n).map g) ∧ AllW wr n f g gp B (fun _ _ => false) (fun _ => -1) ∧ WldP n f (fun d => d ∈ dirs ((l.map Li.lk).take q)) B ∧ Below w.heap.size w wr)) (fun iv _ => k - (intOf iv).toNat)
      case atStart => exact ⟨0, Nat.zero_le _, rfl, h0⟩
      case round =>
        obtain ⟨q, hq, rfl, hQ⟩ := hrel
        by_cases hlq : q < k
        rotate_left
        · obtain rfl : k = q := by omega
          clear hlq hq h0
          have hz := Lib.hid (show ∃ B : Nat → Nat → Pt, OwnP wr w.heap.size A1 c1 ((List.range n).map g) ∧ AllW wr n f g gp B (fun _ _ => false) (fun _ => -1) ∧ WldP n f (fun d => d ∈ dirs (l.map Li.lk)) B ∧ Below w.heap.size w wr from by
            have h := hQ.out
            rw [List.take_of_length_le (by rw [List.length_map, H.out.2.2.2.2.2.2.2.2.2.2.1]; exact Nat.le_refl _)] at h
            exact h)
          clear hQ
          go_wp2_with fail
          go_loopw [55] (fun iv wr => ∃ q : Nat, q ≤ kj ∧ iv = .int .i64 q ∧ Hid (∃ B : Nat → Nat → Pt, OwnP wr w.heap.size A1 c1 ((List.range n).map g) ∧ AllW wr n f g gp B (fun _ _ => false) (fun _ => -1) ∧ WldP n f (fun d => d ∈ dirs (l.map Li.lk)) B ∧ Below w.heap.size w wr)) (fun iv _ => kj - (intOf iv).toNat)
          case atStart => exact ⟨0, Nat.zero_le _, rfl, hz⟩
          case round =>
            obtain ⟨q, hq, rfl, hQ⟩ := hrel
            by_cases hlq : q < kj
            rotate_left
            · obtain rfl : kj = q := by omega
              clear hlq hq hz
              go_wp2_with fail
              go_ret
              obtain ⟨B, hO, hA, hP, hb⟩ := hQ.out
              exact ⟨A1, c1, g, gp, B, rfl, hO, hA, hP, HG.out, hb⟩
            have q1 : (q : Int) < kj := by omega
            have q0 : (0 : Int) ≤ q := by omega
            have HJQ := Lib.hid (show wrap64 ((q : Int) + 1) = (q : Int) + 1 from IntWalk.wrap64_in _ (by have := H.out.2.2.2.2.2.2.2.2.1; omega))
            have hql : q < js.length := by rw [H.out.2.2.2.2.2.2.2.2.2.2.2]; exact hlq
            obtain ⟨B, hO, hA, hP, hb⟩ := hQ.out
            obtain ⟨bl, ofl, rfl, hbl, hc⟩ := H.out.2.2.1 q hql
            have hc := hc.below hb hbl
            have hmem : js.getD q jk0 ∈ js := by rw [List.getD_eq_getElem?_getD, List.getElem?_eq_getElem hql]; exact List.getElem_mem hql
            have hok := H.out.2.2.2.1 _ hmem
            obtain ⟨x, hx⟩ : ∃ x, js.getD q jk0 = x := ⟨_, rfl⟩
            rw [hx] at hc hok
            obtain ⟨xr, xp, m0, m1, m2, m3, m4, m5, m6⟩ := x
            have hbo : Bp.ok ⟨m0, m1, m2, m3, m4, m5, m6⟩ := ⟨hok.root, hok.cost, hok.from_, hok.bport, hok.age, hok.role⟩
            have hbi : Bp.int ⟨m0, m1, m2, m3, m4, m5, m6⟩ := ⟨hbo.root, hbo.cost, hbo.bridge, hbo.port, hbo.age, hbo.role⟩
            obtain ⟨p0, p1, p2, p3, p4, p5, p6, p7, p8⟩ := hc
            have hbx := Blk.new wr 101 #[.int .i64 xr, .int .i64 xp, .int .i64 m0, .int .i64 m1, .int .i64 m2, .int .i64 m3, .int .i64 m4, .int .i64 m5, .bool m6]
            have hba := bel_alloc wr (.cells #[.int .i64 xr, .int .i64 xp, .int .i64 m0, .int .i64 m1, .int .i64 m2, .int .i64 m3, .int .i64 m4, .int .i64 m5, .bool m6] 101)
            have hOW : OwnP (wr.alloc (.cells #[.int .i64 xr, .int .i64 xp, .int .i64 m0, .int .i64 m1, .int .i64 m2, .int .i64 m3, .int .i64 m4, .int .i64 m5, .bool m6] 101)) w.heap.size A1 c1 ((List.range n).map g) := World.ownsRow.alloc hO _
            have hAW := hA.below hba
            have hbW := hb.trans (hba.mono hb.size)
            have hga : ∀ x, x < n → wr.heap.size ≠ g x ∧ wr.heap.size ≠ gp x := fun x hx => by have := hA.lt hx; omega
            obtain ⟨W, hW⟩ : ∃ W, wr.alloc (.cells #[.int .i64 xr, .int .i64 xp, .int .i64 m0, .int .i64 m1, .int .i64 m2, .int .i64 m3, .int .i64 m4, .int .i64 m5, .bool m6] 101) = W := ⟨_, rfl⟩
            obtain ⟨G, hG⟩ : ∃ G, wr.heap.size = G := ⟨_, rfl⟩
            rw [hW] at hbx hba hOW hAW hbW
            rw [hG] at hbx hga
            have r0 : W.cell? ⟨G, 0, none⟩ = some (.int .i64 xr) := hbx.cell 0
            have r1 : W.cell? ⟨G, 1, none⟩ = some (.int .i64 xp) := hbx.cell 1
            have r2 : W.cell? ⟨G, 2, none⟩ = some (.int .i64 m0) := hbx.cell 2
            have r3 : W.cell? ⟨G, 3, none⟩ = some (.int .i64 m1) := hbx.cell 3
            have r4 : W.cell? ⟨G, 4, none⟩ = some (.int .i64 m2) := hbx.cell 4
            have r5 : W.cell? ⟨G, 5, none⟩ = some (.int .i64 m3) := hbx.cell 5
            have r6 : W.cell? ⟨G, 6, none⟩ = some (.int .i64 m4) := hbx.cell 6
            have r7 : W.cell? ⟨G, 7, none⟩ = some (.int .i64 m5) := hbx.cell 7
            have r8 : W.cell? ⟨G, 8, none⟩ = some (.bool m6) := hbx.cell 8
            have HW := Lib.hid (And.intro hOW (And.intro hAW (And.intro hbW hbx)))
            have HN := Lib.hid (And.intro hP hga)
            have HBO := Lib.hid (And.intro hbo hbi)
            have HSTAY := Lib.hid (show ∃ B : Nat → Nat → Pt, OwnP W w.heap.size A1 c1 ((List.range n).map g) ∧ AllW W n f g gp B (fun _ _ => false) (fun _ => -1) ∧ WldP n f (fun d => d ∈ dirs (l.map Li.lk)) B ∧ Below w.heap.size w W from ⟨B, hOW, hAW, hP, hbW⟩)
            clear hOW hAW hbW hbx hba hP hga hO hA hb hmem hok hx hql hQ hbl hbo hbi hz
            by_cases g0 : 0 ≤ xr
            rotate_left
            · have d0 : decide (0 ≤ xr) = false := decide_eq_false g0
              clear g0
              go_wp2_with fail
              go_roundw
              case rel =>
                rw [HJQ.out]
                exact ⟨q + 1, hlq, by rw [Int.natCast_add]; rfl, HSTAY⟩
              case measure =>
                rw [HJQ.out]
                show kj - ((q : Int) + 1).toNat < kj - ((q : Int)).toNat
                omega
            have d0 : decide (0 ≤ xr) = true := decide_eq_true g0
            by_cases g1 : xr < n
            rotate_left
            · have d1 : decide (xr < (n : Int)) = false := decide_eq_false g1
              clear g0 g1
              go_wp2_with fail
              go_roundw
              case rel =>
                rw [HJQ.out]
                exact ⟨q + 1, hlq, by rw [Int.natCast_add]; rfl, HSTAY⟩
              case measure =>
                rw [HJQ.out]
                show kj - ((q : Int) + 1).toNat < kj - ((q : Int)).toNat
                omega
            obtain ⟨y, rfl⟩ : ∃ y : Nat, xr = y := ⟨xr.toNat, by omega⟩
            have hy : y < n := by omega
            have d1 : decide ((y : Int) < (n : Int)) = true := decide_eq_true g1
            have HY := Lib.hid hy
            obtain ⟨bo, rfl, _, hbo, sa⟩ := HW.out.1.at_ (k := y) (by rw [List.length_map, List.length_range]; exact hy)
            rw [range_getD g hy] at sa
            have HTA := Lib.hid (fun (V : World) (h : TreeW V (g y) (gp y) (f y) 6 (B y) (fun _ => false) (-1)) => thear_f h (by decide) (HN.out.1.ok y HY.out) (by decide) xp ⟨m0, m1, m2, m3, m4, m5, m6⟩ HBO.out.2 HBO.out.1)
            simp only [Bp.v, Bp.cells] at HTA
            have HTT := Lib.hid (show TreeW W.drew (g y) (gp y) (f y) 6 (B y) (fun _ => false) (-1) from TreeAt.drew (HW.out.2.1.at_ y HY.out))
            have hOD : OwnP W.drew w.heap.size (some ⟨bo, 0, none⟩) c1 ((List.range n).map g) := own_heap HW.out.1 fun _ _ => rfl
            have HOD := Lib.hid hOD
            clear hOD hbo hy HSTAY
            go_wp2_with fail
            have cD : W.drew.cell? ⟨G, 0, none⟩ = some (.int .i64 y) ∧ W.drew.cell? ⟨bo, y, none⟩ = some (.pointer (some ⟨g y, 0, none⟩)) ∧ W.drew.cell? ⟨G, 1, none⟩ = some (.int .i64 xp) ∧ W.drew.cell? ⟨G, 2, none⟩ = some (.int .i64 m0) ∧ W.drew.cell? ⟨G, 3, none⟩ = some (.int .i64 m1) ∧ W.drew.cell? ⟨G, 4, none⟩ = some (.int .i64 m2) ∧ W.drew.cell? ⟨G, 5, none⟩ = some (.int .i64 m3) ∧ W.drew.cell? ⟨G, 6, none⟩ = some (.int .i64 m4) ∧ W.drew.cell? ⟨G, 7, none⟩ = some (.int .i64 m5) ∧ W.drew.cell? ⟨G, 8, none⟩ = some (.bool m6) := ⟨r0, sa, r1, r2, r3, r4, r5, r6, r7, r8⟩
            go_region_held3 (fun w' => w'.cell? ⟨G, 0, none⟩ = some (.int .i64 y) ∧ w'.cell? ⟨bo, y, none⟩ = some (.pointer (some ⟨g y, 0, none⟩)) ∧ w'.cell? ⟨G, 1, none⟩ = some (.int .i64 xp) ∧ w'.cell? ⟨G, 2, none⟩ = some (.int .i64 m0) ∧ w'.cell? ⟨G, 3, none⟩ = some (.int .i64 m1) ∧ w'.cell? ⟨G, 4, none⟩ = some (.int .i64 m2) ∧ w'.cell? ⟨G, 5, none⟩ = some (.int .i64 m3) ∧ w'.cell? ⟨G, 6, none⟩ = some (.int .i64 m4) ∧ w'.cell? ⟨G, 7, none⟩ = some (.int .i64 m5) ∧ w'.cell? ⟨G, 8, none⟩ = some (.bool m6))
              (first
                | (with_reducible exact cD)
                | (with_reducible exact cA))
              (first
                | (go_at_call 13; (with_reducible (refine (HTA.out _ HTT.out).mono ?_)); rintro e w5 ⟨f', r, rfl, h5, t5, hcase⟩; have hO5 := HOD.out.keep HTT.out t5; have hG5 := HW.out.2.2.2.drew.touch t5 (fun e => by have := HN.out.2 y HY.out; omega); have cA : w5.cell? ⟨G, 0, none⟩ = some (.int .i64 y) ∧ w5.cell? ⟨bo, y, none⟩ = some (.pointer (some ⟨g y, 0, none⟩)) ∧ w5.cell? ⟨G, 1, none⟩ = some (.int .i64 xp) ∧ w5.cell? ⟨G, 2, none⟩ = some (.int .i64 m0) ∧ w5.cell? ⟨G, 3, none⟩ = some (.int .i64 m1) ∧ w5.cell? ⟨G, 4, none⟩ = some (.int .i64 m2) ∧ w5.cell? ⟨G, 5, none⟩ = some (.int .i64 m3) ∧ w5.cell? ⟨G, 6, none⟩ = some (.int .i64 m4) ∧ w5.cell? ⟨G, 7, none⟩ = some (.int .i64 m5) ∧ w5.cell? ⟨G, 8, none⟩ = some (.bool m6) := ⟨hG5.cell 0, hO5.cell_ HY.out, hG5.cell 1, hG5.cell 2, hG5.cell 3, hG5.cell 4, hG5.cell 5, hG5.cell 6, hG5.cell 7, hG5.cell 8⟩))
            have hA5 := (HW.out.2.1.below ((Below.refl _ _).drew)).step HY.out t5 h5
            rw [updF_self _ _ _ rfl, updF_self _ _ _ rfl] at hA5
            have hb5 : Below w.heap.size w w5 := HW.out.2.2.1.drew.trans (t5.below HW.out.2.2.1.drew.size fun k hk => by have := HG.out y HY.out; omega)
            have HE := Lib.hid (And.intro hO5 (And.intro hA5 (And.intro (HN.out.1.junk HY.out HBO.out.1 hcase) hb5)))
            clear HOD cD cA hG5 hO5 hA5 hb5 h5 t5 HTA HTT r0 r1 r2 r3 r4 r5 r6 r7 r8 sa hcase
            go_wp2_with fail
            go_roundw
            case rel =>
              rw [HJQ.out]
              exact ⟨q + 1, hlq, by rw [Int.natCast_add]; rfl, Lib.hid ⟨_, HE.out⟩⟩
            case measure =>
              rw [HJQ.out]
              show kj - ((q : Int) + 1).toNat < kj - ((q : Int)).toNat
              omega
        have q1 : (q : Int) < k := by omega
        have q0 : (0 : Int) ≤ q := by omega
        have HJQ := Lib.hid (show wrap64 ((q : Int) + 1) = (q : Int) + 1 from IntWalk.wrap64_in _ (by have := H.out.2.2.2.2.2.2.2.1; omega))
        have hql : q < l.length := by rw [H.out.2.2.2.2.2.2.2.2.2.2.1]; exact hlq
        obtain ⟨B, hO, hA, hP, hb⟩ := hQ.out
        obtain ⟨bl, ofl, rfl, hbl, hc⟩ := H.out.2.1 q hql
        have hc := hc.below hb hbl
        have hmem : l.getD q li0 ∈ l := by rw [List.getD_eq_getElem?_getD, List.getElem?_eq_getElem hql]; exact List.getElem_mem hql
        have hpos := H.out.2.2.2.2.2.2.2.2.2.1 _ hmem
        have hd1 := H.out.2.2.2.2.1.ok (mem_dirs.2 ⟨_, List.mem_map_of_mem hmem, .inl rfl⟩ : (l.getD q li0).lk.d1 ∈ dirs (l.map Li.lk))
        have hd2 := H.out.2.2.2.2.1.ok (mem_dirs.2 ⟨_, List.mem_map_of_mem hmem, .inr rfl⟩ : (l.getD q li0).lk.d2 ∈ dirs (l.map Li.lk))
        have hoff := H.out.2.2.2.2.1.fits.ports
        have hel : (l.map Li.lk)[q]'(by rw [List.length_map]; exact hql) = (l.getD q li0).lk := by rw [List.getElem_map, List.getD_eq_getElem?_getD, List.getElem?_eq_getElem hql]; rfl
        obtain ⟨x, hx⟩ : ∃ x, l.getD q li0 = x := ⟨_, rfl⟩
        rw [hx] at hc hpos hd1 hd2 hel
        obtain ⟨xa, xpa, xb, xpb, xca, xcb⟩ := x
        have hpos : 0 ≤ xa ∧ 0 ≤ xb := hpos
        obtain ⟨a, rfl⟩ : ∃ a : Nat, xa = a := ⟨xa.toNat, by omega⟩
        obtain ⟨b, rfl⟩ : ∃ b : Nat, xb = b := ⟨xb.toNat, by omega⟩
        have hnext := WldP.link H.out.2.2.2.2.1 (by rw [List.length_map]; exact hql) hP hel
        have hnext : WldP n f (fun d => d ∈ dirs ((l.map Li.lk).take (q + 1))) (updB (updB B a (setP (f a) 6 0 (B a) xpa.toNat true xca)) b (setP (f b) 6 0 (updB B a (setP (f a) 6 0 (B a) xpa.toNat true xca) b) xpb.toNat true xcb)) := hnext
        have ha : a < n := hd2.v
        have hbn : b < n := hd1.v
        have hpa : 0 ≤ xpa ∧ xpa ≤ 5 := hd2.pv
        have hpb : 0 ≤ xpb ∧ xpb ≤ 5 := hd1.pv
        have hca : 1 ≤ xca ∧ xca ≤ 1048576 := hd2.cost
        have hcb : 1 ≤ xcb ∧ xcb ≤ 1048576 := hd1.cost
        have hnab : a ≠ b := hd1.ne
        obtain ⟨p0, p1, p2, p3, p4, p5⟩ := hc
        have hbx := Blk.new wr 99 #[.int .i64 a, .int .i64 xpa, .int .i64 b, .int .i64 xpb, .int .i64 xca, .int .i64 xcb]
        have hba := bel_alloc wr (.cells #[.int .i64 a, .int .i64 xpa, .int .i64 b, .int .i64 xpb, .int .i64 xca, .int .i64 xcb] 99)
        have hOW : OwnP (wr.alloc (.cells #[.int .i64 a, .int .i64 xpa, .int .i64 b, .int .i64 xpb, .int .i64 xca, .int .i64 xcb] 99)) w.heap.size A1 c1 ((List.range n).map g) := World.ownsRow.alloc hO _
        have hAW := hA.below hba
        have hbW := hb.trans (hba.mono hb.size)
        have hga : ∀ x, x < n → wr.heap.size ≠ g x ∧ wr.heap.size ≠ gp x := fun x hx => by have := hA.lt hx; omega
        obtain ⟨W, hW⟩ : ∃ W, wr.alloc (.cells #[.int .i64 a, .int .i64 xpa, .int .i64 b, .int .i64 xpb, .int .i64 xca, .int .i64 xcb] 99) = W := ⟨_, rfl⟩
        obtain ⟨G, hG⟩ : ∃ G, wr.heap.size = G := ⟨_, rfl⟩
        rw [hW] at hbx hba hOW hAW hbW
        rw [hG] at hbx hga
        have r0 : W.cell? ⟨G, 0, none⟩ = some (.int .i64 a) := hbx.cell 0
        have r1 : W.cell? ⟨G, 1, none⟩ = some (.int .i64 xpa) := hbx.cell 1
        have r2 : W.cell? ⟨G, 2, none⟩ = some (.int .i64 b) := hbx.cell 2
        have r3 : W.cell? ⟨G, 3, none⟩ = some (.int .i64 xpb) := hbx.cell 3
        have r4 : W.cell? ⟨G, 4, none⟩ = some (.int .i64 xca) := hbx.cell 4
        have r5 : W.cell? ⟨G, 5, none⟩ = some (.int .i64 xcb) := hbx.cell 5
        obtain ⟨bo, rfl, _, hbo, sa⟩ := hOW.at_ (k := a) (by rw [List.length_map, List.length_range]; exact ha)
        rw [range_getD g ha] at sa
        have HAB := Lib.hid (And.intro ha (And.intro hbn (And.intro hpa (And.intro hpb (And.intro hca (And.intro hcb hnab))))))
        have a1 : (a : Int) < n := by omega
        have b1 : (b : Int) < n := by omega
        have HN := Lib.hid (And.intro hnext (And.intro hP hga))
        have HW := Lib.hid (And.intro hOW (And.intro hAW (And.intro hbW hbx)))
        clear hnext hP hga hOW hAW hbW hbx hba hO hA hb hmem hd1 hd2 hoff hel hx hql hQ hbl hbo hpos ha hbn hpa hpb hca hcb hnab h0
        go_wp2_with fail
        have HTA := Lib.hid (fun (V : World) (h : TreeW V (g a) (gp a) (f a) 6 (B a) (fun _ => false) (-1)) => tset_f h (by decide) (HN.out.2.1.ok a HAB.out.1) xpa true xca)
        have HTT := Lib.hid (show TreeW W.drew (g a) (gp a) (f a) 6 (B a) (fun _ => false) (-1) from TreeAt.drew (HW.out.2.1.at_ a HAB.out.1))
        have hOD : OwnP W.drew w.heap.size (some ⟨bo, 0, none⟩) c1 ((List.range n).map g) := own_heap HW.out.1 fun _ _ => rfl
        have HOD := Lib.hid hOD
        clear hOD
        have cD : W.drew.cell? ⟨G, 0, none⟩ = some (.int .i64 a) ∧ W.drew.cell? ⟨bo, a, none⟩ = some (.pointer (some ⟨g a, 0, none⟩)) ∧ W.drew.cell? ⟨G, 1, none⟩ = some (.int .i64 xpa) ∧ W.drew.cell? ⟨G, 4, none⟩ = some (.int .i64 xca) := ⟨r0, sa, r1, r4⟩
        go_region_held3 (fun w' => w'.cell? ⟨G, 0, none⟩ = some (.int .i64 a) ∧ w'.cell? ⟨bo, a, none⟩ = some (.pointer (some ⟨g a, 0, none⟩)) ∧ w'.cell? ⟨G, 1, none⟩ = some (.int .i64 xpa) ∧ w'.cell? ⟨G, 4, none⟩ = some (.int .i64 xca))
          (first
            | (with_reducible exact cD)
            | (with_reducible exact cA))
          (first
            | (go_at_call 12; (with_reducible (refine (HTA.out _ HTT.out).mono ?_)); rintro e w5 ⟨f', r, rfl, h5, t5, hcase⟩; have hO5 := HOD.out.keep HTT.out t5; have hG5 := HW.out.2.2.2.drew.touch t5 (fun e => by have := HN.out.2.2 a HAB.out.1; omega); have cA : w5.cell? ⟨G, 0, none⟩ = some (.int .i64 a) ∧ w5.cell? ⟨bo, a, none⟩ = some (.pointer (some ⟨g a, 0, none⟩)) ∧ w5.cell? ⟨G, 1, none⟩ = some (.int .i64 xpa) ∧ w5.cell? ⟨G, 4, none⟩ = some (.int .i64 xca) := ⟨hG5.cell 0, hO5.cell_ HAB.out.1, hG5.cell 1, hG5.cell 4⟩))
        rw [if_pos ⟨⟨HAB.out.2.2.1.1, by have := HAB.out.2.2.1.2; omega⟩, HAB.out.2.2.2.2.1.1, by have := HAB.out.2.2.2.2.1.2; omega⟩] at hcase
        obtain ⟨-, rfl⟩ := hcase
        have hA5 := (HW.out.2.1.below ((Below.refl _ _).drew)).step HAB.out.1 t5 h5
        rw [updF_self _ _ _ rfl, updF_self _ _ _ rfl] at hA5
        have hb5 : Below w.heap.size w w5 := HW.out.2.2.1.drew.trans (t5.below HW.out.2.2.1.drew.size fun k hk => by have := HG.out a HAB.out.1; omega)
        have s2 : w5.cell? ⟨G, 2, none⟩ = some (.int .i64 b) := hG5.cell 2
        have s3 : w5.cell? ⟨G, 3, none⟩ = some (.int .i64 xpb) := hG5.cell 3
        have s5 : w5.cell? ⟨G, 5, none⟩ = some (.int .i64 xcb) := hG5.cell 5
        have sb : w5.cell? ⟨bo, b, none⟩ = some (.pointer (some ⟨g b, 0, none⟩)) := hO5.cell_ HAB.out.2.1
        obtain ⟨F1, hF1⟩ : ∃ F1, setP (f a) 6 0 (B a) xpa.toNat true xca = F1 := ⟨_, rfl⟩
        rw [hF1] at hA5
        have HN2 := Lib.hid (show WldP n f (fun d => d ∈ dirs ((l.map Li.lk).take (q + 1))) (updB (updB B a F1) b (setP (f b) 6 0 (updB B a F1 b) xpb.toNat true xcb)) from hF1 ▸ HN.out.1)
        have hokb : POk 0 6 (updB B a F1 b) := by
          rw [updB_ne B F1 (Ne.symm HAB.out.2.2.2.2.2.2)]
          exact HN.out.2.1.ok b HAB.out.2.1
        have HTA2 := Lib.hid (fun (V : World) (h : TreeW V (g b) (gp b) (f b) 6 (updB B a F1 b) (fun _ => false) (-1)) => tset_f h (by decide) hokb xpb true xcb)
        have HTT2 := Lib.hid (show TreeW w5.drew (g b) (gp b) (f b) 6 (updB B a F1 b) (fun _ => false) (-1) from TreeAt.drew (hA5.at_ b HAB.out.2.1))
        have HW5 := Lib.hid (And.intro hO5 (And.intro hA5 (And.intro hb5 hG5)))
        clear HOD cD cA hO5 hA5 hG5 hb5 hF1 hokb h5 t5 HTA HTT r0 r1 r2 r3 r4 r5 sa
        go_wp2_with fail
        have hOD : OwnP w5.drew w.heap.size (some ⟨bo, 0, none⟩) c1 ((List.range n).map g) := own_heap HW5.out.1 fun _ _ => rfl
        have HOD := Lib.hid hOD
        clear hOD
        have cD : w5.drew.cell? ⟨G, 2, none⟩ = some (.int .i64 b) ∧ w5.drew.cell? ⟨bo, b, none⟩ = some (.pointer (some ⟨g b, 0, none⟩)) ∧ w5.drew.cell? ⟨G, 3, none⟩ = some (.int .i64 xpb) ∧ w5.drew.cell? ⟨G, 5, none⟩ = some (.int .i64 xcb) := ⟨s2, sb, s3, s5⟩
        go_region_held3 (fun w' => w'.cell? ⟨G, 2, none⟩ = some (.int .i64 b) ∧ w'.cell? ⟨bo, b, none⟩ = some (.pointer (some ⟨g b, 0, none⟩)) ∧ w'.cell? ⟨G, 3, none⟩ = some (.int .i64 xpb) ∧ w'.cell? ⟨G, 5, none⟩ = some (.int .i64 xcb))
          (first
            | (with_reducible exact cD)
            | (with_reducible exact cA))
          (first
            | (go_at_call 12; (with_reducible (refine (HTA2.out _ HTT2.out).mono ?_)); rintro e w6 ⟨f', r, rfl, h6, t6, hcase⟩; have hO6 := HOD.out.keep HTT2.out t6; have hG6 := HW5.out.2.2.2.drew.touch t6 (fun e => by have := HN.out.2.2 b HAB.out.2.1; omega); have cA : w6.cell? ⟨G, 2, none⟩ = some (.int .i64 b) ∧ w6.cell? ⟨bo, b, none⟩ = some (.pointer (some ⟨g b, 0, none⟩)) ∧ w6.cell? ⟨G, 3, none⟩ = some (.int .i64 xpb) ∧ w6.cell? ⟨G, 5, none⟩ = some (.int .i64 xcb) := ⟨hG6.cell 2, hO6.cell_ HAB.out.2.1, hG6.cell 3, hG6.cell 5⟩))
        rw [if_pos ⟨⟨HAB.out.2.2.2.1.1, by have := HAB.out.2.2.2.1.2; omega⟩, HAB.out.2.2.2.2.2.1.1, by have := HAB.out.2.2.2.2.2.1.2; omega⟩] at hcase
        obtain ⟨-, rfl⟩ := hcase
        have hA6 := (HW5.out.2.1.below ((Below.refl _ _).drew)).step HAB.out.2.1 t6 h6
        rw [updF_self _ _ _ rfl, updF_self _ _ _ rfl] at hA6
        have hb6 : Below w.heap.size w w6 := HW5.out.2.2.1.drew.trans (t6.below HW5.out.2.2.1.drew.size fun k hk => by have := HG.out b HAB.out.2.1; omega)
        have HE := Lib.hid (And.intro hO6 (And.intro hA6 (And.intro HN2.out hb6)))
        clear HOD cD cA hG6 hO6 hA6 hb6 h6 t6 HTA2 HTT2 s2 s3 s5 sb
        go_wp2_with fail
        go_roundw
        case rel =>
          rw [HJQ.out]
          exact ⟨q + 1, hlq, by rw [Int.natCast_add]; rfl, Lib.hid ⟨_, HE.out⟩⟩
        case measure =>
          rw [HJQ.out]
          show k - ((q : Int) + 1).toNat < k - ((q : Int)).toNat
          omega
end Go.Proofs.Ytadejdhdkkfliaa
