/- The document's Stands: of each link whether it is of the tree. Its condition: the graph is one that fits. -/
import Derived.Test.YtadejdhdkkfliaaLhold
import Derived.Test.YtadejdhdkkfliaaLleads
namespace Go.Proofs.Ytadejdhdkkfliaa
open Go.RowKit
set_option maxRecDepth 100000

theorem sbool_info : (Try.prog.info? 4).map (fun i => (i.zero, i.size, i.bytes)) = some (some (.bool false), 1, 1) := by kernel_rfl
def LoB (w : World) (base : Nat) (A : Option Addr) (c : Nat) (l : List Bool) : Prop := w.ownsRow base 4 1 (.slice A l.length c) l.length (l.map Value.bool)
theorem lown_base {w : World} {base base' size n : Nat} {e : TypeId} {v : Value} {xs : List Value} (h : w.ownsRow base e size v n xs) (hb : base' ≤ base) : w.ownsRow base' e size v n xs := by
  refine ⟨h.1, ?_⟩
  rcases h.2 with hn | ⟨g, cap, cur, e0, h1, rest⟩
  · exact .inl hn
  · exact .inr ⟨g, cap, cur, e0, Nat.le_trans hb h1, rest⟩
theorem lappend_bo (w : World) (base : Nat) (A0 : Option Addr) (c0 n0 : Nat) (l : List Bool) (hl0 : l.length = n0) (hown : LoB w base A0 c0 l) (g : Nat) (x : Bool) (hg : Blk w g 4 #[.bool x]) (hn : l.length ≤ 1000000) (hbase : base ≤ w.heap.size) :
    ∃ a' c' w', (Builtin.append_ #[69, 69] 69 #[.slice A0 n0 c0, .slice (some ⟨g, 0, none⟩) 1 1]).run Try.prog w = .ok (.slice a' (n0 + 1) c') w' ∧ LoB w' base a' c' (l ++ [x]) ∧ w.grownBy w' (Value.slice A0 n0 c0).ownBlock := by
  subst hl0
  obtain ⟨i0, hi0, hz0, hz1, hz2⟩ := info_parts sbool_info
  obtain ⟨a', c', w', hr, ho, hgr, _, _⟩ := append_src w base 69 69 4 i0 _ 1 1 Try.underlying69 hi0 hz0 hz1 hz2 rfl (by decide) _ l.length (l.map Value.bool) hown (some ⟨g, 0, none⟩) 1 1 [.bool x] rfl (fun h => by cases h)
    (fun _ => ⟨g, 0, rfl, fun j u hu => by
      rw [Nat.zero_add, hg.cell, ← hu]
      simp⟩)
    (fun u hu => by obtain rfl : u = .bool x := by simpa using hu
                    rfl) (by unfold maxLen; omega) (by omega) hbase
  refine ⟨a', c', w', hr, ?_, hgr⟩
  unfold LoB
  rw [List.map_append, List.length_append]
  exact ho
def treeB (f : Nat → Int) (F : Nat → Vec) (l : List Li) (q : Nat) : Bool := decide (isT f F (l.getD q li0).lk)
theorem treeB_or (f : Nat → Int) (F : Nat → Vec) (l : List Li) (q : Nat) : treeB f F l q = (decide (leadsE f F (l.getD q li0).lk.d2.ed) || decide (leadsE f F (l.getD q li0).lk.d1.ed)) := by
  unfold treeB isT
  have e : ∀ (p q : Prop) [Decidable p] [Decidable q] [Decidable (q ∨ p)], decide (q ∨ p) = (decide p || decide q) := fun p q _ _ _ => by
    by_cases h1 : p <;> by_cases h2 : q <;> simp [h1, h2]
  exact e _ _
set_option maxHeartbeats 8000000 in
theorem stands_any (A : Option Addr) (n c : Nat) (f : Nat → Int) (A2 : Option Addr) (c2 : Nat) (l : List Li) (w : World) (h : IdAt w w.heap.size A n f) (h2 : LiAt w w.heap.size A2 l) (hK : Big n f (l.map Li.lk)) (hL : l.length ≤ 16) (hn : 1 ≤ n) (ha : ∀ x ∈ l, 0 ≤ x.a ∧ 0 ≤ x.b) :
    Calls Try.prog 32 #[.slice A n c, .slice A2 l.length c2] w fun e w' => ∃ A3 c3, e = .returned (.slice A3 l.length c3) ∧ LoB w' w.heap.size A3 c3 ((List.range l.length).map (treeB f (sweeps f (linkE (l.map Li.lk)) (n * l.length)) l)) ∧ Below w.heap.size w w' := by
  obtain ⟨k, hk⟩ : ∃ k, l.length = k := ⟨_, rfl⟩
  have HH := Lib.hid (hold_any A n c f A2 c2 l w h h2 hK hL hn ha)
  obtain ⟨F, hF⟩ : ∃ F, sweeps f (linkE (l.map Li.lk)) (n * l.length) = F := ⟨_, rfl⟩
  have hcost : ∀ x, x < n → 0 ≤ (F x).cost ∧ (F x).cost ≤ 4294967296 := fun x hx => by
    have h1 := costIn_sweeps hK (by rw [List.length_map]; exact hL) (n * l.length) x hx
    rw [hF] at h1
    have h3 : n * l.length ≤ 8 * 16 := Nat.mul_le_mul hK.few hL
    exact ⟨h1.1, by have := h1.2; omega⟩
  rw [hF, hk] at HH
  rw [hF, hk]
  have H := Lib.hid (And.intro h (And.intro h2 (And.intro hK (And.intro hL (And.intro ha (And.intro hk hcost))))))
  have k0 : (0 : Int) ≤ k := by omega
  clear h h2 hK hL hn ha hk hF hcost
  go_enter Try.func32, Try.ntmps32
  go_wp2_with fail
  refine HH.out.mono ?_
  rintro e w1 ⟨g, cap, rfl, hg, hV, b1⟩
  have HV := Lib.hid (And.intro hV (And.intro hg b1))
  clear HH hV hg b1
  go_wp2_with fail
  go_loopw [6, 14] (fun ov iv wr => ∃ (j : Nat) (A1 : Option Addr) (c1 : Nat), j ≤ k ∧ iv = .int .i64 j ∧ ov = .slice A1 j c1 ∧ Hid (LoB wr w1.heap.size A1 c1 ((List.range j).map (treeB f F l)) ∧ Below w1.heap.size w1 wr)) (fun _ iv _ => k - (intOf iv).toNat)
  case atStart => exact ⟨0, none, 0, Nat.zero_le _, rfl, rfl, Lib.hid ⟨World.ownsRow_nil _ _ _ _, Below.refl _ _⟩⟩
  case round =>
    obtain ⟨j, A1, c1, hj, rfl, rfl, hS⟩ := hrel
    by_cases hlt : j < k
    · have j1 : (j : Int) < k := by omega
      have j0 : (0 : Int) ≤ j := by omega
      have HJ := Lib.hid (show wrap64 ((j : Int) + 1) = (j : Int) + 1 from IntWalk.wrap64_in _ (by have h1 := H.out.2.2.2.1; have h2 := H.out.2.2.2.2.2.1; omega))
      have hql : j < l.length := by rw [H.out.2.2.2.2.2.1]; exact hlt
      have hbw := HV.out.2.2.trans (hS.out.2.mono HV.out.2.2.size)
      obtain ⟨bl, ofl, rfl, hbl, hc⟩ := H.out.2.1 j hql
      have hc := hc.below hbw hbl
      have hmem : l.getD j li0 ∈ l := by rw [List.getD_eq_getElem?_getD, List.getElem?_eq_getElem hql]; exact List.getElem_mem hql
      have hpos := H.out.2.2.2.2.1 _ hmem
      have hend := H.out.2.2.1.fits.ends _ (List.mem_map_of_mem (f := Li.lk) hmem)
      have hcos := H.out.2.2.1.fits.costs _ (List.mem_map_of_mem (f := Li.lk) hmem)
      have hche := H.out.2.2.1.cheap _ (List.mem_map_of_mem (f := Li.lk) hmem)
      have hd1 : (l.getD j li0).lk.d1 ∈ dirs (l.map Li.lk) := mem_dirs.2 ⟨_, List.mem_map_of_mem hmem, .inl rfl⟩
      have hd2 : (l.getD j li0).lk.d2 ∈ dirs (l.map Li.lk) := mem_dirs.2 ⟨_, List.mem_map_of_mem hmem, .inr rfl⟩
      have htb := treeB_or f F l j
      obtain ⟨x, hx⟩ : ∃ x, l.getD j li0 = x := ⟨_, rfl⟩
      rw [hx] at hc hpos hd1 hd2 htb hend hcos hche
      obtain ⟨xa, xpa, xb, xpb, xca, xcb⟩ := x
      have hpos : 0 ≤ xa ∧ 0 ≤ xb := hpos
      obtain ⟨a, rfl⟩ : ∃ a : Nat, xa = a := ⟨xa.toNat, by omega⟩
      obtain ⟨b, rfl⟩ : ∃ b : Nat, xb = b := ⟨xb.toNat, by omega⟩
      have hend : a < n ∧ b < n ∧ a ≠ b := by simpa [Li.lk] using hend
      have hcos : 1 ≤ xca ∧ 1 ≤ xcb := hcos
      have hche : xca ≤ 1048576 ∧ xcb ≤ 1048576 := hche
      have hcall : ∀ (d : Dl), d ∈ dirs (l.map Li.lk) → (0 ≤ (F d.u).cost + d.cv ∧ (F d.u).cost + d.cv ≤ 9223372036854775807) → ∀ w5 : World, Below w.heap.size w w5 → VsAt w5 g n F → Calls Try.prog 51 #[.slice A n c, .slice (some ⟨bl, ofl, none⟩) k c2, .slice (some ⟨g, 0, none⟩) n cap, .int .i64 d.v, .int .i64 d.pv, .int .i64 d.cv, .int .i64 d.u, .int .i64 d.pu] w5 fun e w' => e = .returned (.bool (decide (leadsE f F d.ed))) ∧ Below w5.heap.size w5 w' := fun d hd hw w5 b5 v5 => by
        have := leads_any A n c f (some ⟨bl, ofl, none⟩) c2 l g cap F w5 ((H.out.1.below b5).more b5.size) ((H.out.2.1.below b5).more b5.size) v5 H.out.2.2.1 H.out.2.2.2.1 H.out.2.2.2.2.1 d hd hw
        rw [H.out.2.2.2.2.2.1] at this
        exact this
      have hca := H.out.2.2.2.2.2.2 a hend.1
      have hcb := H.out.2.2.2.2.2.2 b hend.2.1
      have hc2 := hcall _ hd2 (by show 0 ≤ (F b).cost + xca ∧ (F b).cost + xca ≤ 9223372036854775807; omega)
      have hc1 := hcall _ hd1 (by show 0 ≤ (F a).cost + xcb ∧ (F a).cost + xcb ≤ 9223372036854775807; omega)
      obtain ⟨t2, ht2⟩ : ∃ t2, decide (leadsE f F (Li.lk ⟨a, xpa, b, xpb, xca, xcb⟩).d2.ed) = t2 := ⟨_, rfl⟩
      obtain ⟨t1, ht1⟩ : ∃ t1, decide (leadsE f F (Li.lk ⟨a, xpa, b, xpb, xca, xcb⟩).d1.ed) = t1 := ⟨_, rfl⟩
      rw [ht2] at hc2 htb
      rw [ht1] at hc1 htb
      have HC2 := Lib.hid (show ∀ w5 : World, Below w.heap.size w w5 → VsAt w5 g n F → Calls Try.prog 51 #[.slice A n c, .slice (some ⟨bl, ofl, none⟩) k c2, .slice (some ⟨g, 0, none⟩) n cap, .int .i64 a, .int .i64 xpa, .int .i64 xca, .int .i64 b, .int .i64 xpb] w5 fun e w' => e = .returned (.bool t2) ∧ Below w5.heap.size w5 w' from hc2)
      have HC1 := Lib.hid (show ∀ w5 : World, Below w.heap.size w w5 → VsAt w5 g n F → Calls Try.prog 51 #[.slice A n c, .slice (some ⟨bl, ofl, none⟩) k c2, .slice (some ⟨g, 0, none⟩) n cap, .int .i64 b, .int .i64 xpb, .int .i64 xcb, .int .i64 a, .int .i64 xpa] w5 fun e w' => e = .returned (.bool t1) ∧ Below w5.heap.size w5 w' from hc1)
      obtain ⟨p0, p1, p2, p3, p4, p5⟩ := hc
      have HTB := Lib.hid htb
      have hbx := Blk.new wr 99 #[.int .i64 a, .int .i64 xpa, .int .i64 b, .int .i64 xpb, .int .i64 xca, .int .i64 xcb]
      have hba := bel_alloc wr (.cells #[.int .i64 a, .int .i64 xpa, .int .i64 b, .int .i64 xpb, .int .i64 xca, .int .i64 xcb] 99)
      have hown : LoB (wr.alloc (.cells #[.int .i64 a, .int .i64 xpa, .int .i64 b, .int .i64 xpb, .int .i64 xca, .int .i64 xcb] 99)) w1.heap.size A1 c1 ((List.range j).map (treeB f F l)) := World.ownsRow.alloc hS.out.1 _
      have hb1 := hS.out.2.trans (hba.mono hS.out.2.size)
      obtain ⟨W, hW⟩ : ∃ W, wr.alloc (.cells #[.int .i64 a, .int .i64 xpa, .int .i64 b, .int .i64 xpb, .int .i64 xca, .int .i64 xcb] 99) = W := ⟨_, rfl⟩
      obtain ⟨G, hG⟩ : ∃ G, wr.heap.size = G := ⟨_, rfl⟩
      rw [hW] at hbx hba hown hb1
      rw [hG] at hbx
      have HW := Lib.hid (And.intro hown (And.intro hb1 (show ∀ (w5 : World), Below W.heap.size W w5 → Below w.heap.size w w5 ∧ VsAt w5 g n F ∧ Below w1.heap.size w1 w5 from fun w5 b5 => by
        have e1 := hb1.trans (b5.mono hb1.size)
        exact ⟨HV.out.2.2.trans (e1.mono HV.out.2.2.size), HV.out.1.below e1 HV.out.1.lt, e1⟩)))
      have r0 : W.cell? ⟨G, 0, none⟩ = some (.int .i64 a) := hbx.cell 0
      have r1 : W.cell? ⟨G, 1, none⟩ = some (.int .i64 xpa) := hbx.cell 1
      have r2 : W.cell? ⟨G, 2, none⟩ = some (.int .i64 b) := hbx.cell 2
      have r3 : W.cell? ⟨G, 3, none⟩ = some (.int .i64 xpb) := hbx.cell 3
      have r4 : W.cell? ⟨G, 4, none⟩ = some (.int .i64 xca) := hbx.cell 4
      have r5 : W.cell? ⟨G, 5, none⟩ = some (.int .i64 xcb) := hbx.cell 5
      have HBX := Lib.hid hbx
      have hfin : ∀ (t : Bool), treeB f F l j = t → ∀ w5 : World, Below W.heap.size W w5 → ∃ a' c' w7, (Builtin.append_ #[69, 69] 69 #[.slice A1 j c1, .slice (some ⟨w5.heap.size, 0, none⟩) 1 1]).run Try.prog (w5.alloc (.cells #[.bool t] 4)) = .ok (.slice a' (j + 1) c') w7 ∧ Hid (LoB w7 w1.heap.size a' c' ((List.range (j + 1)).map (treeB f F l)) ∧ Below w1.heap.size w1 w7) := fun t ht w5 b5 => by
        have e1 := (HW.out.2.2 w5 b5).2.2
        have o5 : LoB w5 w1.heap.size A1 c1 ((List.range j).map (treeB f F l)) := own_heap HW.out.1 fun k hk => b5.block k (World.ownsRow.lt HW.out.1 k hk).2
        have o6 : LoB (w5.alloc (.cells #[.bool t] 4)) w1.heap.size A1 c1 ((List.range j).map (treeB f F l)) := World.ownsRow.alloc o5 _
        have e2 := e1.alloc e1.size (.cells #[.bool t] 4)
        obtain ⟨a', c', w7, hr, o7, g7⟩ := lappend_bo _ w1.heap.size A1 c1 j _ (by simp) o6 w5.heap.size t (Blk.new w5 4 _) (by simp; have h1 := H.out.2.2.2.1; have h2 := H.out.2.2.2.2.2.1; omega) e2.size
        have o6' := o6
        unfold LoB at o6'
        rw [List.length_map, List.length_range] at o6'
        refine ⟨a', c', w7, hr, Lib.hid ⟨?_, e2.trans (bel_own o6' g7 (Nat.le_refl _) e2.size)⟩⟩
        rw [List.range_succ, List.map_append]
        show LoB w7 w1.heap.size a' c' (_ ++ [treeB f F l j])
        rw [ht]
        exact o7
      have HFIN := Lib.hid hfin
      clear hbl hmem hpos hend hcos hche hd1 hd2 htb hx hcall hca hcb hc2 hc1 ht2 ht1 hbx hba hown hb1 hfin hbw hql hS
      cases t2 with
      | true =>
        go_wp2_with fail
        obtain ⟨v1, v2, v3⟩ := HW.out.2.2 W (Below.refl _ _)
        refine (HC2.out W v1 v2).mono ?_
        rintro e w5 ⟨rfl, b5⟩
        obtain ⟨a', c', w7, hr, HE7⟩ := HFIN.out true (by rw [HTB.out]; rfl) w5 b5
        have HRUN := Lib.hid hr
        clear hr v1 v2 v3 hW b5
        go_wp2_with (at_builtin; refine Lib.wpList_append_run _ rfl _ _ _ _ rfl _ _ rfl rfl _ _ HRUN.out ?_)
        go_roundw
        case rel =>
          rw [HJ.out]
          exact ⟨j + 1, a', c', hlt, by rw [Int.natCast_add]; rfl, rfl, HE7⟩
        case measure =>
          rw [HJ.out]
          show k - ((j : Int) + 1).toNat < k - ((j : Int)).toNat
          omega
      | false =>
        go_wp2_with fail
        obtain ⟨v1, v2, v3⟩ := HW.out.2.2 W (Below.refl _ _)
        refine (HC2.out W v1 v2).mono ?_
        rintro e w5 ⟨rfl, b5⟩
        have k5 := HBX.out.below b5 HBX.out.lt
        have r0' : w5.cell? ⟨G, 0, none⟩ = some (.int .i64 a) := k5.cell 0
        have r1' : w5.cell? ⟨G, 1, none⟩ = some (.int .i64 xpa) := k5.cell 1
        have r2' : w5.cell? ⟨G, 2, none⟩ = some (.int .i64 b) := k5.cell 2
        have r3' : w5.cell? ⟨G, 3, none⟩ = some (.int .i64 xpb) := k5.cell 3
        have r5' : w5.cell? ⟨G, 5, none⟩ = some (.int .i64 xcb) := k5.cell 5
        have HB5 := Lib.hid b5
        clear v1 v2 v3 hW b5 k5 r0 r1 r2 r3 r4 r5
        go_wp2_with fail
        obtain ⟨v1, v2, v3⟩ := HW.out.2.2 w5 HB5.out
        refine (HC1.out w5 v1 v2).mono ?_
        rintro e w6 ⟨rfl, b6⟩
        obtain ⟨a', c', w7, hr, HE7⟩ := HFIN.out t1 (by rw [HTB.out]; rfl) w6 (HB5.out.trans (b6.mono HB5.out.size))
        have HRUN := Lib.hid hr
        clear hr v1 v2 v3 b6
        go_wp2_with (at_builtin; refine Lib.wpList_append_run _ rfl _ _ _ _ rfl _ _ rfl rfl _ _ HRUN.out ?_)
        go_roundw
        case rel =>
          rw [HJ.out]
          exact ⟨j + 1, a', c', hlt, by rw [Int.natCast_add]; rfl, rfl, HE7⟩
        case measure =>
          rw [HJ.out]
          show k - ((j : Int) + 1).toNat < k - ((j : Int)).toNat
          omega
    · obtain rfl : k = j := by omega
      go_wp2_with fail
      go_ret
      exact ⟨A1, c1, rfl, lown_base hS.out.1 HV.out.2.2.size, HV.out.2.2.trans (hS.out.2.mono HV.out.2.2.size)⟩
end Go.Proofs.Ytadejdhdkkfliaa
