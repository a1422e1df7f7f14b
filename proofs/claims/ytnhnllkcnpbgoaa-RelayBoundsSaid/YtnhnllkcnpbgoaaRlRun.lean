/- The program's relay.Relay (layer 19): what leaves, by rising ports. Its conditions: few ports, and what the table answers of a frame to many is below 0. -/
import Derived.Test.YtnhnllkcnpbgoaaRlEnt
import Derived.Deep.LoopGhost
import Derived.WalkMore
namespace Go.Proofs.Ytnhnllkcnpbgoaa
open Go.Joins Go.ChangeShapes Go.WideShapes Go.ChangeAt Go.RowKit Go.Deep
set_option maxRecDepth 100000

theorem map_p (l : List Px) (k : Nat) : (l.map Px.p).getD k po0 = (l.getD k px0).p := by
  rw [List.getD_eq_getElem?_getD, List.getElem?_map, List.getD_eq_getElem?_getD]
  cases l[k]? <;> rfl
theorem to_skip {l : List Px} {a : Nat} {f : Fr} {known V : Int} {k : Nat} (hV : classP (l.getD a px0).pv f = V) (hm : manyB f.dst = true → known < 0)
    (h : k = a ∨ (l.getD k px0).st ≠ 2 ∨ V ∉ (l.getD k px0).ms ∨ (0 ≤ known ∧ known ≠ k)) : relayTo (l.map Px.p) a f known (k + 1) = relayTo (l.map Px.p) a f known k := by
  have : leavesB (l.map Px.p) a f known k = false := by
    unfold leavesB
    rw [map_p, map_p, show (Int.toNat (a : Int)) = a from rfl, show (l.getD a px0).p.pv = (l.getD a px0).pv from rfl, hV]
    rcases h with h | h | h | h
    · rw [show decide ((k : Int) ≠ a) = false from decide_eq_false (by omega)]; simp
    · rw [show decide ((l.getD k px0).p.st = 2) = false from decide_eq_false h]; simp
    · rw [show decide (V ∈ (l.getD k px0).p.ms) = false from decide_eq_false h]; simp
    · have h1 : manyB f.dst = false := by
        cases q : manyB f.dst with
        | false => rfl
        | true => have := hm q; omega
      rw [h1, show decide (known < 0) = false from decide_eq_false (by omega), show decide (known = (k : Int)) = false from decide_eq_false h.2]
      simp
  conv => lhs; unfold relayTo
  rw [this]
  simp
theorem to_more {l : List Px} {a : Nat} {f : Fr} {known V : Int} {k : Nat} (hV : classP (l.getD a px0).pv f = V)
    (h1 : k ≠ a) (h2 : (l.getD k px0).st = 2) (h3 : V ∈ (l.getD k px0).ms) (h4 : known < 0 ∨ known = k) : relayTo (l.map Px.p) a f known (k + 1) = relayTo (l.map Px.p) a f known k ++ [⟨k, dressP (l.getD k px0).sp (l.getD k px0).pv f V⟩] := by
  have : leavesB (l.map Px.p) a f known k = true := by
    unfold leavesB
    rw [map_p, map_p, show (Int.toNat (a : Int)) = a from rfl, show (l.getD a px0).p.pv = (l.getD a px0).pv from rfl, hV]
    rw [show decide ((k : Int) ≠ a) = true from decide_eq_true (by omega), show decide ((l.getD k px0).p.st = 2) = true from decide_eq_true h2, show decide (V ∈ (l.getD k px0).p.ms) = true from decide_eq_true h3]
    rcases h4 with h | h
    · rw [show decide (known < 0) = true from decide_eq_true h]; simp
    · rw [show decide (known = (k : Int)) = true from decide_eq_true h]; simp
  conv => lhs; unfold relayTo
  rw [this, if_pos rfl]
  rw [asP_dress, map_p, map_p, show (Int.toNat (a : Int)) = a from rfl, show (l.getD a px0).p.pv = (l.getD a px0).pv from rfl, hV]
  rfl
theorem goes_no {l : List Px} {i : Int} {f : Fr} {known : Int} (h : entP l i f = 0 ∨ (l.getD i.toNat px0).st ≠ 2 ∨ f.good = false) : relayP (l.map Px.p) i f known = [] := by
  have : goesB (l.map Px.p) i f = false := by
    unfold goesB
    rw [map_p, List.length_map]
    rcases h with h | h | h
    · unfold entP at h
      by_cases c : (0 ≤ i ∧ i < l.length) ∧ keptB f.dst = false
      · rw [if_pos c] at h
        rw [show decide (classP (l.getD i.toNat px0).p.pv f ≠ 0) = false from decide_eq_false (fun q => q h)]
        simp
      · by_cases c1 : 0 ≤ i ∧ i < l.length
        · have : keptB f.dst = true := by
            cases q : keptB f.dst with
            | true => rfl
            | false => exact absurd ⟨c1, q⟩ c
          rw [this]; simp
        · rw [show decide (0 ≤ i ∧ i < (l.length : Int)) = false from decide_eq_false c1]; simp
    · rw [show decide ((l.getD i.toNat px0).p.st = 2) = false from decide_eq_false h]; simp
    · rw [h]; simp
  unfold relayP
  rw [this]
  rfl
theorem ent_in {l : List Px} {i : Int} {f : Fr} (h : entP l i f ≠ 0) : ∃ a : Nat, i = a ∧ a < l.length ∧ keptB f.dst = false ∧ classP (l.getD a px0).pv f = entP l i f := by
  unfold entP at h ⊢
  by_cases c : (0 ≤ i ∧ i < l.length) ∧ keptB f.dst = false
  · obtain ⟨a, rfl⟩ := Int.eq_ofNat_of_zero_le c.1.1
    refine ⟨a, rfl, by omega, c.2, ?_⟩
    rw [if_pos c]
    rfl
  · rw [if_neg c] at h
    exact absurd rfl h
theorem goes_yes {l : List Px} {a : Nat} {f : Fr} {known : Int} (ha : a < l.length) (hk : keptB f.dst = false) (hc : classP (l.getD a px0).pv f ≠ 0) (hs : (l.getD a px0).st = 2) (hg : f.good = true) : relayP (l.map Px.p) a f known = relayTo (l.map Px.p) a f known l.length := by
  unfold relayP goesB
  rw [map_p, List.length_map, show (Int.toNat (a : Int)) = a from rfl]
  rw [show decide (0 ≤ (a : Int) ∧ (a : Int) < (l.length : Int)) = true from decide_eq_true ⟨by omega, by omega⟩, show decide ((l.getD a px0).p.st = 2) = true from decide_eq_true hs, hk, hg, show decide (classP (l.getD a px0).p.pv f ≠ 0) = true from decide_eq_true hc]
  simp
theorem OwnSe.below {T : TypeId} {w w' : World} {base c : Nat} {A : Option Addr} {l : List Se} (h : OwnSe T w base A c l) (hb : Below w.heap.size w w') : OwnSe T w' base A c l := own_heap h fun k hk => hb.block k (World.ownsRow.lt h k hk).2
theorem not_mem_take {ms : List Int} {V : Int} {q : Nat} (h : ∀ k, k < q → ms.getD k 0 ≠ V) (hq : ms.length ≤ q) : V ∉ ms := fun hm => by
  obtain ⟨k, hk, e⟩ := List.mem_iff_getElem.1 hm
  exact h k (by omega) (by rw [List.getD_eq_getElem?_getD, List.getElem?_eq_getElem hk]; exact e)
theorem mem_at {ms : List Int} {V : Int} {q : Nat} (hq : q < ms.length) (h : ms.getD q 0 = V) : V ∈ ms := by
  rw [List.getD_eq_getElem?_getD, List.getElem?_eq_getElem hq] at h
  rw [← h]
  exact List.getElem_mem hq

/-- What was laid behind each other by the first k ports. -/
def RInv (T : TypeId) (W0 wx : World) (l : List Px) (a : Nat) (f : Fr) (known : Int) (k : Nat) (A1 : Option Addr) (c1 r : Nat) : Prop :=
  ∃ R1, R1.length = r ∧ relayTo (l.map Px.p) a f known k = R1 ∧ OwnSe T wx W0.heap.size A1 c1 R1 ∧ Below W0.heap.size W0 wx
theorem RInv.skip {T : TypeId} {W0 wx v : World} {l : List Px} {a : Nat} {f : Fr} {known V : Int} {k : Nat} {A1 : Option Addr} {c1 r : Nat} (h : RInv T W0 wx l a f known k A1 c1 r) (hb : Below wx.heap.size wx v) (hV : classP (l.getD a px0).pv f = V) (hm : manyB f.dst = true → known < 0)
    (hs : k = a ∨ (l.getD k px0).st ≠ 2 ∨ V ∉ (l.getD k px0).ms ∨ (0 ≤ known ∧ known ≠ k)) : RInv T W0 v l a f known (k + 1) A1 c1 r := by
  obtain ⟨R1, h1, h2, h3, h4⟩ := h
  exact ⟨R1, h1, (to_skip hV hm hs).trans h2, h3.below hb, h4.trans (hb.mono h4.size)⟩
theorem RInv.fin {T : TypeId} {w W0 wx : World} {l : List Px} {a : Nat} {f : Fr} {known : Int} {A1 : Option Addr} {c1 r : Nat} (h : RInv T W0 wx l a f known l.length A1 c1 r) (hw : Below w.heap.size w W0) {R : List Se} (hR : relayTo (l.map Px.p) a f known l.length = R) :
    ∃ A' c', Ending.returned (.slice A1 r c1) = .returned (.slice A' R.length c') ∧ SeAt wx wx.heap.size A' R ∧ Below w.heap.size w wx := by
  obtain ⟨R1, h1, h2, h3, h4⟩ := h
  obtain rfl : R1 = R := h2.symm.trans hR
  exact ⟨A1, c1, by rw [h1], h3.at_, hw.trans (h4.mono hw.size)⟩

set_option maxHeartbeats 16000000 in
theorem relay_core (A : Option Addr) (c : Nat) (l : List Px) (i : Int) (f : Fr) (tp : Option Addr) (known : Int) (w : World) (hA : PxAt w w.heap.size A l) (hfew : PxFew l) (hm : manyB f.dst = true → known < 0)
    (hF : ∀ W, Below w.heap.size w W → ∀ V : Int, V = classP (l.getD i.toNat px0).pv f → Calls Try.prog 14 #[.pointer tp, .int .i64 V, .int .i64 f.dst] W fun e w' => e = .returned (.int .i64 known) ∧ Below W.heap.size W w') :
    Calls Try.prog 7 #[.slice A l.length c, .int .i64 i, .agg #[.int .i64 f.dst, .int .i64 f.src, .bool f.tagged, .int .i64 f.vid, .int .i64 f.prio, .int .i64 f.typ, .string f.data], .pointer tp] w fun e w' => ∃ A' c', e = .returned (.slice A' (relayP (l.map Px.p) i f known).length c') ∧ SeAt w' w'.heap.size A' (relayP (l.map Px.p) i f known) ∧ Below w.heap.size w w' := by
  obtain ⟨W0, hW0⟩ : ∃ W0, w.alloc (.cells #[.int .i64 f.dst, .int .i64 f.src, .bool f.tagged, .int .i64 f.vid, .int .i64 f.prio, .int .i64 f.typ, .string f.data] 24) = W0 := ⟨_, rfl⟩
  have hbox : Blk W0 w.heap.size 24 #[.int .i64 f.dst, .int .i64 f.src, .bool f.tagged, .int .i64 f.vid, .int .i64 f.prio, .int .i64 f.typ, .string f.data] := by rw [← hW0]; exact Blk.new w _ _
  have hbw : Below w.heap.size w W0 := by rw [← hW0]; exact bel_alloc w _
  obtain ⟨V, hV⟩ : ∃ V, entP l i f = V := ⟨_, rfl⟩
  obtain ⟨R, hR⟩ : ∃ R, relayP (l.map Px.p) i f known = R := ⟨_, rfl⟩
  obtain ⟨G, hG⟩ : ∃ G, f.good = G := ⟨_, rfl⟩
  have HEN := Lib.hid (show Calls Try.prog 11 #[.slice A l.length c, .int .i64 i, .agg #[.int .i64 f.dst, .int .i64 f.src, .bool f.tagged, .int .i64 f.vid, .int .i64 f.prio, .int .i64 f.typ, .string f.data]] W0 fun e w' => e = .returned (.int .i64 V) ∧ Below W0.heap.size W0 w' from hV ▸ enters_any A c l i f W0 ((hA.below hbw).more hbw.size))
  have HGD := Lib.hid (fun W => show Calls Try.prog 13 #[.agg #[.int .i64 f.dst, .int .i64 f.src, .bool f.tagged, .int .i64 f.vid, .int .i64 f.prio, .int .i64 f.typ, .string f.data]] W fun e w' => e = .returned (.bool G) ∧ Below W.heap.size W w' from hG ▸ fgood_any f W)
  have HBX := Lib.hid (fun (W : World) (hb : Below W0.heap.size W0 W) => show Below w.heap.size w W ∧ (W.cell? ⟨w.heap.size, 0, none⟩ = some (.int .i64 f.dst) ∧ W.cell? ⟨w.heap.size, 1, none⟩ = some (.int .i64 f.src) ∧ W.cell? ⟨w.heap.size, 2, none⟩ = some (.bool f.tagged) ∧ W.cell? ⟨w.heap.size, 3, none⟩ = some (.int .i64 f.vid) ∧ W.cell? ⟨w.heap.size, 4, none⟩ = some (.int .i64 f.prio) ∧ W.cell? ⟨w.heap.size, 5, none⟩ = some (.int .i64 f.typ) ∧ W.cell? ⟨w.heap.size, 6, none⟩ = some (.string f.data)) from ⟨hbw.trans (hb.mono hbw.size), by
    have k := hbox.below hb hbox.lt
    exact ⟨k.cell 0, k.cell 1, k.cell 2, k.cell 3, k.cell 4, k.cell 5, k.cell 6⟩⟩)
  have hend : ∀ W, Below W0.heap.size W0 W → R = [] → ∃ A' c', Ending.returned (.slice none 0 0) = .returned (.slice A' R.length c') ∧ SeAt W W.heap.size A' R ∧ Below w.heap.size w W := fun W hb h => by
    subst h
    exact ⟨none, 0, rfl, fun k hk => absurd hk (Nat.not_lt_zero k), hbw.trans (hb.mono hbw.size)⟩
  have HEND := Lib.hid hend
  rw [hR]
  have hy := (HBX.out W0 (Below.refl _ _)).2
  by_cases hV0 : V = 0
  · have HR0 := Lib.hid (show R = [] from hR ▸ goes_no (.inl (hV.trans hV0)))
    subst hV0
    obtain ⟨n, hn⟩ : ∃ n, l.length = n := ⟨_, rfl⟩
    rw [hn] at HEN ⊢
    obtain ⟨f0, f1, f2, f3, f4, f5, f6⟩ := f
    obtain ⟨y0, y1, y2, y3, y4, y5, y6⟩ := hy
    clear hA hfew hm hF hV hR hG hend hn hbox hbw HBX HGD
    go_enter Try.func7, Try.ntmps7
    go_wp2_with fail
    go_step3
    go_wp2_with fail
    refine HEN.out.mono ?_
    rintro e w1 ⟨rfl, b1⟩
    have HB1 := Lib.hid b1
    clear b1
    go_wp2_with fail
    try rw [Exit.noGoto_ret]
    go_ret
    exact HEND.out w1 HB1.out HR0.out
  obtain ⟨a, rfl, han, hkd, hcl⟩ := ent_in (by rw [hV]; exact hV0)
  rw [hV] at hcl
  have hV0' : (V == 0) = false := by rw [beq_eq_false_iff_ne]; exact hV0
  have hia : (Int.toNat (a : Int)) = a := rfl
  rw [hia] at hF
  obtain ⟨x, hx⟩ : ∃ x, l.getD a px0 = x := ⟨_, rfl⟩
  have hxa := hA a han
  rw [hx] at hxa
  obtain ⟨⟨bb, off, rfl, hbl, hc⟩, _⟩ := hxa
  have HPX := Lib.hid (fun (W : World) (hb : Below w.heap.size w W) => hc.below hb hbl)
  have HFW := Lib.hid (fun W => forwards_any x W)
  obtain ⟨sB, hsB⟩ : ∃ sB, decide (x.st = 2) = sB := ⟨_, rfl⟩
  rw [hsB] at HFW
  cases sB with
  | false =>
    have HR0 := Lib.hid (show R = [] from hR ▸ goes_no (.inr (.inl (by rw [hia, hx]; exact of_decide_eq_false hsB))))
    obtain ⟨n, hn⟩ : ∃ n, l.length = n := ⟨_, rfl⟩
    have han' : (a : Int) < n := by omega
    rw [hn] at HEN ⊢
    obtain ⟨f0, f1, f2, f3, f4, f5, f6⟩ := f
    obtain ⟨y0, y1, y2, y3, y4, y5, y6⟩ := hy
    obtain ⟨x0, x1, x2, xA, xc, xs⟩ := x
    obtain ⟨xn, hxn⟩ : ∃ xn, xs.length = xn := ⟨_, rfl⟩
    simp only [hxn] at HFW
    clear hA hfew hm hF hV hR hG hend hn hbox HGD hsB hx hcl hc hkd hV0 hia han
    go_enter Try.func7, Try.ntmps7
    go_wp2_with fail
    go_step3
    go_wp2_with fail
    refine HEN.out.mono ?_
    rintro e w1 ⟨rfl, b1⟩
    obtain ⟨q0, q1, q2, q3⟩ := HPX.out w1 (hbw.trans (b1.mono hbw.size))
    simp only [hxn] at q3
    have HB1 := Lib.hid b1
    clear b1
    go_wp2_with (go_at_call 12; refine (HFW.out _).mono ?_; rintro e w2 ⟨rfl, b2⟩; have HB2 := Lib.hid b2; clear b2)
    try rw [Exit.noGoto_ret]
    go_ret
    exact HEND.out w2 (HB1.out.trans (HB2.out.mono HB1.out.size)) HR0.out
  | true =>
   have hs2 : x.st = 2 := of_decide_eq_true hsB
   cases G with
   | false =>
    have HR0 := Lib.hid (show R = [] from hR ▸ goes_no (.inr (.inr hG)))
    obtain ⟨n, hn⟩ : ∃ n, l.length = n := ⟨_, rfl⟩
    have han' : (a : Int) < n := by omega
    rw [hn] at HEN ⊢
    obtain ⟨f0, f1, f2, f3, f4, f5, f6⟩ := f
    obtain ⟨x0, x1, x2, xA, xc, xs⟩ := x
    obtain ⟨xn, hxn⟩ : ∃ xn, xs.length = xn := ⟨_, rfl⟩
    simp only [hxn] at HFW
    obtain ⟨y0, y1, y2, y3, y4, y5, y6⟩ := hy
    clear hA hfew hm hF hV hR hG hend hn hbox hsB hx hcl hc hkd hV0 hia han hs2
    go_enter Try.func7, Try.ntmps7
    go_wp2_with fail
    go_step3
    go_wp2_with fail
    refine HEN.out.mono ?_
    rintro e w1 ⟨rfl, b1⟩
    obtain ⟨q0, q1, q2, q3⟩ := HPX.out w1 (hbw.trans (b1.mono hbw.size))
    simp only [hxn] at q3
    have HB1 := Lib.hid b1
    clear b1
    go_wp2_with fail
    refine (HFW.out _).mono ?_
    rintro e w2 ⟨rfl, b2⟩
    have HB2 := Lib.hid (HB1.out.trans (b2.mono HB1.out.size))
    obtain ⟨u0, u1, u2, u3, u4, u5, u6⟩ := (HBX.out w2 HB2.out).2
    clear b2
    go_wp2_with fail
    refine (HGD.out _).mono ?_
    rintro e w3 ⟨rfl, b3⟩
    have HB3 := Lib.hid (HB2.out.trans (b3.mono HB2.out.size))
    clear b3
    go_wp2_with fail
    try rw [Exit.noGoto_ret]
    go_ret
    exact HEND.out w3 HB3.out HR0.out
   | true =>
    have hto : relayTo (l.map Px.p) a f known l.length = R := (goes_yes han hkd (hcl ▸ hV0) (hx ▸ hs2) hG).symm.trans hR
    have HFIN := Lib.hid (fun (W : World) (A1 : Option Addr) (c1 r : Nat) (h : RInv 35 W0 W l a f known l.length A1 c1 r) => h.fin hbw hto)
    have HFD := Lib.hid (fun (W : World) (hb : Below w.heap.size w W) => hF W hb V (by rw [hx] at hcl; rw [hx]; exact hcl.symm))
    have HSK := Lib.hid (fun (wx v : World) (k : Nat) (A1 : Option Addr) (c1 r : Nat) (h : RInv 35 W0 wx l a f known k A1 c1 r) (hb : Below wx.heap.size wx v) (hs : k = a ∨ (l.getD k px0).st ≠ 2 ∨ V ∉ (l.getD k px0).ms ∨ (0 ≤ known ∧ known ≠ k)) => h.skip hb hcl hm hs)
    have HMO := Lib.hid (fun (k : Nat) (h1 : k ≠ a) (h2 : (l.getD k px0).st = 2) (h3 : V ∈ (l.getD k px0).ms) (h4 : known < 0 ∨ known = k) => to_more hcl h1 h2 h3 h4)
    have HAA := Lib.hid hA
    have HFEW := Lib.hid hfew
    have HDR := Lib.hid (fun (y : Px) (W : World) => dress_any y f V W)
    obtain ⟨n, hn⟩ : ∃ n, l.length = n := ⟨_, rfl⟩
    have han' : (a : Int) < n := by omega
    have HN := Lib.hid hn
    rw [hn] at HEN HFIN ⊢
    obtain ⟨f0, f1, f2, f3, f4, f5, f6⟩ := f
    obtain ⟨x0, x1, x2, xA, xc, xs⟩ := x
    obtain ⟨xn, hxn⟩ : ∃ xn, xs.length = xn := ⟨_, rfl⟩
    simp only [hxn] at HFW
    obtain ⟨y0, y1, y2, y3, y4, y5, y6⟩ := hy
    have HBW := Lib.hid hbw
    have hrow0 : OwnSe 35 W0 W0.heap.size none 0 [] := World.ownsRow_nil _ _ _ _
    have HROW := Lib.hid hrow0
    clear hA hfew hm hF hV hR hG hend hn hbox hsB hx hcl hc hkd hV0 hia han hs2 hto hrow0
    go_enter Try.func7, Try.ntmps7
    go_wp2_with fail
    go_step3
    go_wp2_with fail
    refine HEN.out.mono ?_
    rintro e w1 ⟨rfl, b1⟩
    obtain ⟨q0, q1, q2, q3⟩ := HPX.out w1 (hbw.trans (b1.mono hbw.size))
    simp only [hxn] at q3
    have HB1 := Lib.hid b1
    clear b1
    go_wp2_with fail
    refine (HFW.out _).mono ?_
    rintro e w2 ⟨rfl, b2⟩
    have HB2 := Lib.hid (HB1.out.trans (b2.mono HB1.out.size))
    obtain ⟨u0, u1, u2, u3, u4, u5, u6⟩ := (HBX.out w2 HB2.out).2
    clear b2
    go_wp2_with fail
    refine (HGD.out _).mono ?_
    rintro e w3 ⟨rfl, b3⟩
    have HB3 := Lib.hid (HB2.out.trans (b3.mono HB2.out.size))
    obtain ⟨v0, v1, v2, v3, v4, v5, v6⟩ := (HBX.out w3 HB3.out).2
    clear b3
    go_wp2_with fail
    refine (HFD.out _ (HBX.out w3 HB3.out).1).mono ?_
    rintro e w4 ⟨rfl, b4⟩
    have HB4 := Lib.hid (HB3.out.trans (b4.mono HB3.out.size))
    clear b4 y0 y1 y2 y3 y4 y5 y6 q0 q1 q2 q3 u0 u1 u2 u3 u4 u5 u6 v0 v1 v2 v3 v4 v5 v6 hbw
    go_wp2_with fail
    go_step3
    go_wp2_with fail
    go_loopg [11, 42] n (fun g s11 s42 wx => ∃ (k r : Nat) (A1 : Option Addr) (c1 : Nat), k + g = n ∧ s42 = .int .i64 k ∧ s11 = .slice A1 r c1 ∧ Hid (RInv 35 W0 wx l a ⟨f0, f1, f2, f3, f4, f5, f6⟩ known k A1 c1 r))
    case atStart => exact ⟨0, 0, none, 0, by omega, rfl, rfl, Lib.hid ⟨[], rfl, rfl, HROW.out.below HB4.out, HB4.out⟩⟩
    case round =>
      obtain ⟨k, r, A1, c1, hkg, rfl, rfl, HI⟩ := hrel
      cases gk with
      | zero =>
        obtain rfl : k = n := by omega
        have hkz : ¬ ((k : Int) < (k : Int)) := by omega
        go_wp2_with fail
        try rw [Exit.noGoto_ret]
        go_ret
        exact HFIN.out _ A1 c1 r HI.out
      | succ g =>
        have hkl : k < l.length := by have := HN.out; omega
        have hkz : (k : Int) < (n : Int) := by have := HN.out; omega
        have HJ := Lib.hid (show wrap64 ((k : Int) + 1) = ((k + 1 : Nat) : Int) from by rw [IntWalk.wrap64_in _ (by have := HFEW.out.len; omega)]; rfl)
        obtain ⟨R0, hr1, hr2, hr3, hr4⟩ := HI.out
        have hxk := HAA.out k hkl
        have HMS := Lib.hid (HFEW.out.ms k hkl)
        have hlen10 : R0.length ≤ 10 := by rw [← hr2]; exact Nat.le_trans (relayTo_len _ _ _ _ _) (by have := HFEW.out.len; omega)
        obtain ⟨xk, hxk2⟩ : ∃ xk, l.getD k px0 = xk := ⟨_, rfl⟩
        rw [hxk2] at hxk HMS
        obtain ⟨⟨bb', off', eA, hbl', hc⟩, hms⟩ := hxk
        injection eA with eA
        injection eA with eA1 eA2
        subst eA1 eA2
        have HWR := Lib.hid (show Below w.heap.size w wr from HBW.out.trans (hr4.mono HBW.out.size))
        have hc := hc.below HWR.out hbl'
        have HFK := Lib.hid (fun W => forwards_any xk W)
        have HDK := Lib.hid (fun W => HDR.out xk W)
        obtain ⟨k0, k1, k2, kA, kc, ks⟩ := xk
        obtain ⟨kn, hkn⟩ : ∃ kn, ks.length = kn := ⟨_, rfl⟩
        obtain ⟨z0, z1, z2, z3⟩ := hc
        simp only [hkn] at z0 z1 z2 z3 HFK HDK HMS
        have HKN := Lib.hid hkn
        have HXK := Lib.hid hxk2
        have hpb : Blk (wr.alloc (.cells #[.int .i64 k0, .int .i64 k1, .bool k2, .slice kA kn kc] 42)) wr.heap.size 42 #[.int .i64 k0, .int .i64 k1, .bool k2, .slice kA kn kc] := Blk.new wr _ _
        have HPB := Lib.hid hpb
        have HWP := Lib.hid (bel_alloc wr (.cells #[.int .i64 k0, .int .i64 k1, .bool k2, .slice kA kn kc] 42))
        have HOWN := Lib.hid (And.intro hr1 (And.intro hr2 (And.intro hr3 (And.intro hr4 hlen10))))
        have HMSA := Lib.hid hms
        clear hr1 hr2 hr3 hr4 hlen10 hkl hkn hxk2 hpb hbl' hms
        by_cases hka : k = a
        · have HI2 := Lib.hid (HSK.out wr (wr.alloc (.cells #[.int .i64 k0, .int .i64 k1, .bool k2, .slice kA kn kc] 42)) k A1 c1 r HI.out HWP.out (.inl hka))
          have e1 : ((k : Int) == (a : Int)) = true := by rw [hka]; simp
          clear hka
          go_wp2_with fail
          go_roundg g
          case measure => omega
          case rel => exact ⟨k + 1, r, A1, c1, by omega, by rw [HJ.out], rfl, HI2⟩
        · have e1 : ((k : Int) == (a : Int)) = false := by rw [beq_eq_false_iff_ne]; omega
          have HKA := Lib.hid hka
          clear hka
          by_cases hst : k0 = 2
          rotate_left
          · have HST := Lib.hid (show (l.getD k px0).st ≠ 2 by rw [HXK.out]; exact hst)
            rw [decide_eq_false hst] at HFK
            clear hst
            go_wp2_with fail
            refine (HFK.out _).mono ?_
            rintro e v ⟨rfl, bv⟩
            have HI2 := Lib.hid (HSK.out wr v k A1 c1 r HI.out (HWP.out.trans (bv.mono HWP.out.size)) (.inr (.inl HST.out)))
            clear bv
            go_wp2_with fail
            go_roundg g
            case measure => omega
            case rel => exact ⟨k + 1, r, A1, c1, by omega, by rw [HJ.out], rfl, HI2⟩
          have HST := Lib.hid (show (l.getD k px0).st = 2 by rw [HXK.out]; exact hst)
          rw [decide_eq_true hst] at HFK
          clear hst
          by_cases hgo : known < 0 ∨ known = k
          rotate_left
          · have HGO := Lib.hid (show 0 ≤ known ∧ known ≠ (k : Int) by omega)
            have d1 : decide (0 ≤ known) = true := decide_eq_true (by omega)
            have d2 : ((k : Int) != known) = true := by rw [bne_iff_ne]; omega
            clear hgo
            go_wp2_with fail
            refine (HFK.out _).mono ?_
            rintro e v ⟨rfl, bv⟩
            have HI2 := Lib.hid (HSK.out wr v k A1 c1 r HI.out (HWP.out.trans (bv.mono HWP.out.size)) (.inr (.inr (.inr HGO.out))))
            clear bv
            go_wp2_with fail
            go_roundg g
            case measure => omega
            case rel => exact ⟨k + 1, r, A1, c1, by omega, by rw [HJ.out], rfl, HI2⟩
          have HGO := Lib.hid hgo
          have hd : (decide (0 ≤ known) = false) ∨ (decide (0 ≤ known) = true ∧ ((k : Int) != known) = false) := by
            rcases hgo with h | h
            · exact .inl (decide_eq_false (by omega))
            · exact .inr ⟨decide_eq_true (by omega), by rw [← h]; simp⟩
          clear hgo
          rcases hd with d1 | ⟨d1, d2⟩
          all_goals
            go_wp2_with fail
            refine (HFK.out _).mono ?_
            rintro e v ⟨rfl, bv⟩
            have HV := Lib.hid (show Below wr.heap.size wr v from HWP.out.trans (bv.mono HWP.out.size))
            have HPV := Lib.hid (HPB.out.below bv HPB.out.lt)
            have p0 : v.cell? ⟨wr.heap.size, 0, none⟩ = some (.int .i64 k0) := HPV.out.cell 0
            have p1 : v.cell? ⟨wr.heap.size, 1, none⟩ = some (.int .i64 k1) := HPV.out.cell 1
            have p2 : v.cell? ⟨wr.heap.size, 2, none⟩ = some (.bool k2) := HPV.out.cell 2
            have p3 : v.cell? ⟨wr.heap.size, 3, none⟩ = some (.slice kA kn kc) := HPV.out.cell 3
            have HVV := Lib.hid (HOWN.out.2.2.2.1.trans (HV.out.mono HOWN.out.2.2.2.1.size))
            obtain ⟨u0, u1, u2, u3, u4, u5, u6⟩ := (HBX.out v HVV.out).2
            clear bv z0 z1 z2 z3
            go_wp2_with fail
            go_loopg [11, 67] kn (fun g2 s11 s67 wy => ∃ q : Nat, q + g2 = kn ∧ s11 = .slice A1 r c1 ∧ s67 = .int .i64 q ∧ Hid (∀ j, j < q → ks.getD j 0 ≠ V) ∧ v = wy)
            case atStart => exact ⟨0, by omega, rfl, rfl, Lib.hid (fun j hj => absurd hj (Nat.not_lt_zero j)), rfl⟩
            case round =>
              obtain ⟨q, hqg, rfl, rfl, HQ, rfl⟩ := hrel
              cases gk with
              | zero =>
                obtain rfl : q = kn := by omega
                have hqz : ¬ ((q : Int) < (q : Int)) := by omega
                have HI2 := Lib.hid (HSK.out wr v k A1 c1 r HI.out HV.out (.inr (.inr (.inl (by rw [HXK.out]; exact not_mem_take HQ.out (Nat.le_of_eq HKN.out))))))
                go_wp2_with fail
                go_roundg g
                case measure => omega
                case rel => exact ⟨k + 1, r, A1, c1, by omega, by rw [HJ.out], rfl, HI2⟩
              | succ g2 =>
                have hqz : (q : Int) < (kn : Int) := by omega
                have hql : q < ks.length := by have := HKN.out; omega
                obtain ⟨mb, mo, rfl, hmb, hmc⟩ := HMSA.out q hql
                have hmc := (HV.out.cell (p := ⟨mb, mo + q, none⟩) (Nat.lt_of_lt_of_le hmb HWR.out.size)).trans ((HWR.out.cell (p := ⟨mb, mo + q, none⟩) hmb).trans hmc)
                obtain ⟨mv, hmv⟩ : ∃ mv, ks.getD q 0 = mv := ⟨_, rfl⟩
                rw [hmv] at hmc
                have HQL := Lib.hid (And.intro hql hmv)
                clear hql hmb
                by_cases hmV : mv = V
                rotate_left
                · have e2 : (mv == V) = false := by rw [beq_eq_false_iff_ne]; exact hmV
                  have HQ2 := Lib.hid (show ∀ j, j < q + 1 → ks.getD j 0 ≠ V from fun j hj => by
                    by_cases e : j = q
                    · rw [e, HQL.out.2]; exact hmV
                    · exact HQ.out j (by omega))
                  have HJ2 := Lib.hid (show wrap64 ((q : Int) + 1) = ((q + 1 : Nat) : Int) from by rw [IntWalk.wrap64_in _ (by have : kn ≤ 40 := HMS.out; omega)]; rfl)
                  clear hmV hmv
                  go_wp2_with fail
                  go_roundg g2
                  case measure => omega
                  case rel => exact ⟨q + 1, by omega, rfl, by rw [HJ2.out], HQ2, rfl⟩
                · have HMO2 := Lib.hid (HMO.out k HKA.out HST.out (by rw [HXK.out]; exact mem_at HQL.out.1 (HQL.out.2.trans hmV)) HGO.out)
                  subst hmV
                  have e2 : (mv == mv) = true := by simp
                  clear hmv
                  obtain ⟨D, hD⟩ : ∃ D, dressP k2 k1 ⟨f0, f1, f2, f3, f4, f5, f6⟩ mv = D := ⟨_, rfl⟩
                  have HD2 := Lib.hid (show relayTo (l.map Px.p) a ⟨f0, f1, f2, f3, f4, f5, f6⟩ known (k + 1) = relayTo (l.map Px.p) a ⟨f0, f1, f2, f3, f4, f5, f6⟩ known k ++ [⟨k, D⟩] from by
                    have := HMO2.out
                    rw [HXK.out] at this
                    rw [← hD]
                    exact this)
                  obtain ⟨t0, t1, t2, t3, t4, t5, t6⟩ := D
                  have HDD := Lib.hid (fun W => show Calls Try.prog 15 #[.agg #[.int .i64 k0, .int .i64 k1, .bool k2, .slice (some ⟨mb, mo, none⟩) kn kc], .agg #[.int .i64 f0, .int .i64 f1, .bool f2, .int .i64 f3, .int .i64 f4, .int .i64 f5, .string f6], .int .i64 mv] W fun e w' => e = .returned (.agg #[.int .i64 t0, .int .i64 t1, .bool t2, .int .i64 t3, .int .i64 t4, .int .i64 t5, .string t6]) ∧ Below W.heap.size W w' from by
                    have := HDK.out W
                    rw [hD] at this
                    exact this)
                  clear hD HDK HFK HMO2
                  go_wp2_with fail
                  refine (HDD.out _).mono ?_
                  rintro e v2 ⟨rfl, bv2⟩
                  obtain ⟨hr1, hr2, hr3, hr4, hlen10⟩ := HOWN.out
                  have hv2 : Below wr.heap.size wr v2 := HV.out.trans (bv2.mono HV.out.size)
                  have o2 : OwnSe 35 (v2.alloc (.cells #[.int .i64 k, .int .i64 t0, .int .i64 t1, .bool t2, .int .i64 t3, .int .i64 t4, .int .i64 t5, .string t6] 35)) W0.heap.size A1 c1 R0 := World.ownsRow.alloc (hr3.below hv2) _
                  have hbz : Below W0.heap.size W0 (v2.alloc (.cells #[.int .i64 k, .int .i64 t0, .int .i64 t1, .bool t2, .int .i64 t3, .int .i64 t4, .int .i64 t5, .string t6] 35)) := (hr4.trans (hv2.mono hr4.size)).trans ((bel_alloc v2 _).mono (hr4.trans (hv2.mono hr4.size)).size)
                  obtain ⟨a', c', w5, hrun, ho5, hg5, _⟩ := append_se 35 30 Try.underlying30 sent_info _ W0.heap.size A1 c1 r R0 hr1 o2 v2.heap.size ⟨k, ⟨t0, t1, t2, t3, t4, t5, t6⟩⟩ (Blk.new v2 _ _) (by omega) hbz.size
                  have hb5 : Below W0.heap.size W0 w5 := hbz.trans (by have ho := o2; unfold OwnSe at ho; rw [hr1] at ho; exact bel_own ho hg5 (Nat.le_refl _) hbz.size)
                  have HI2 := Lib.hid (show RInv 35 W0 w5 l a ⟨f0, f1, f2, f3, f4, f5, f6⟩ known (k + 1) a' c' (r + 1) from ⟨_, by rw [List.length_append, hr1]; rfl, by rw [HD2.out, hr2], ho5, hb5⟩)
                  have HRUN := Lib.hid hrun
                  clear hr1 hr2 hr3 hr4 hlen10 hv2 o2 hbz hrun ho5 hg5 hb5 bv2 p0 p1 p2 p3 u0 u1 u2 u3 u4 u5 u6
                  go_wp2_with (at_builtin; refine Lib.wpList_append_run _ rfl _ _ _ _ rfl _ _ rfl rfl _ _ HRUN.out ?_)
                  go_roundg g
                  case measure => omega
                  case rel => exact ⟨k + 1, r + 1, a', c', by omega, by rw [HJ.out], rfl, HI2⟩
end Go.Proofs.Ytnhnllkcnpbgoaa
