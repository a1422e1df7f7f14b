/- What stage 17's statements ask first: alive. Its condition: Wants' contract. -/
import Derived.Test.YtaieopejabpegaaSnPlain
import Derived.Test.YtaieopejabpegaaSame
namespace Go.Proofs.Ytaieopejabpegaa
open Go.RowKit
set_option maxRecDepth 100000

/-- What Wants answers. -/
def WantsIs : Prop := ∀ (A : Option Addr) (c : Nat) (l : List Vx) (a : At) (own : Int) (w : World), VxAt w w.heap.size A l → l.length ≤ 20 → (∀ k, k < l.length → (l.getD k vx0).xs.length ≤ 40 ∧ (l.getD k vx0).bs.length ≤ 100) →
  Calls Try.prog 10 #[.slice A l.length c, .agg #[.int .i64 a.t, .int .i64 a.v], .int .i64 own] w fun e w' => ∃ A' c', e = .returned (.slice A' l.length c') ∧ IntAt w' w'.heap.size A' (wantsL (vws l) a own) ∧ l.length ≤ c' ∧ Below w.heap.size w w'
theorem alloc_size (w : World) (o : Obj) : (w.alloc o).heap.size = w.heap.size + 1 := by
  show (w.heap.push _).size = _
  exact Array.size_push ..
theorem IntAt.nums {w : World} {B : Nat} {A : Option Addr} {l : List Int} (h : IntAt w B A l) : Nums w B A l.length (fun k => l.getD k 0) := h
theorem sames_any {A A' : Option Addr} {c c' n m : Nat} {l l' : List Int} {w : World} (hl : l.length = n) (hl' : l'.length = m) (hn : n ≤ 1048576) (h : IntAt w w.heap.size A l) (h' : IntAt w w.heap.size A' l') :
    Calls Try.prog 15 #[.slice A n c, .slice A' m c'] w fun e w' => e = .returned (.bool (decide (l = l'))) ∧ Below w.heap.size w w' := by
  subst hl hl'
  refine (same_any A A' l.length l'.length c c' _ _ w.heap.size w hn h.nums h'.nums).mono ?_
  rintro e w' ⟨rfl, q, rfl⟩
  refine ⟨?_, bel_drewN (Below.refl _ _) q⟩
  unfold sameB
  congr 2
  refine decide_eq_decide.2 ⟨fun ⟨hl, he⟩ => List.ext_getElem hl fun k h1 h2 => ?_, fun e => by subst e; exact ⟨rfl, fun _ _ => rfl⟩⟩
  have := he k h1
  simp only [List.getD_eq_getElem?_getD, List.getElem?_eq_getElem h1, List.getElem?_eq_getElem h2, Option.getD_some] at this
  exact this
/-- Alive's ports. -/
def aliveL (b : Nat) : List Vx := [⟨true, some ⟨b + 1, 0, none⟩, 1, [⟨1, 1⟩], some ⟨b + 1 + 1, 0, none⟩, 1, [7]⟩, ⟨true, none, 0, [], none, 0, []⟩, ⟨true, none, 0, [], none, 0, []⟩]
theorem alive_wants (b : Nat) : wantsL (vws (aliveL b)) ⟨1, 1⟩ (-1) = [-1, 7, 7] := by
  show wantsL [⟨true, [⟨1, 1⟩], [7]⟩, ⟨true, [], []⟩, ⟨true, [], []⟩] ⟨1, 1⟩ (-1) = [-1, 7, 7]
  decide
theorem alive_lay (w : World) : VxAt ((((w.alloc (.cells #[.int .i64 1, .int .i64 1] 24)).alloc (.cells #[.int .i64 1, .int .i64 1] 24)).alloc (.cells #[.int .i64 7] 3)).alloc (.cells #[.bool true, .slice (some ⟨w.heap.size + 1, 0, none⟩) 1 1, .slice (some ⟨w.heap.size + 1 + 1, 0, none⟩) 1 1, .bool true, .slice none 0 0, .slice none 0 0, .bool true, .slice none 0 0, .slice none 0 0] 43)) ((((w.alloc (.cells #[.int .i64 1, .int .i64 1] 24)).alloc (.cells #[.int .i64 1, .int .i64 1] 24)).alloc (.cells #[.int .i64 7] 3)).alloc (.cells #[.bool true, .slice (some ⟨w.heap.size + 1, 0, none⟩) 1 1, .slice (some ⟨w.heap.size + 1 + 1, 0, none⟩) 1 1, .bool true, .slice none 0 0, .slice none 0 0, .bool true, .slice none 0 0, .slice none 0 0] 43)).heap.size (some ⟨w.heap.size + 1 + 1 + 1, 0, none⟩) (aliveL w.heap.size) ∧ Below w.heap.size w ((((w.alloc (.cells #[.int .i64 1, .int .i64 1] 24)).alloc (.cells #[.int .i64 1, .int .i64 1] 24)).alloc (.cells #[.int .i64 7] 3)).alloc (.cells #[.bool true, .slice (some ⟨w.heap.size + 1, 0, none⟩) 1 1, .slice (some ⟨w.heap.size + 1 + 1, 0, none⟩) 1 1, .bool true, .slice none 0 0, .slice none 0 0, .bool true, .slice none 0 0, .slice none 0 0] 43)) := by
  have h1 := Blk.new (w.alloc (.cells #[.int .i64 1, .int .i64 1] 24)) 24 #[.int .i64 1, .int .i64 1]
  have h2 := Blk.new ((w.alloc (.cells #[.int .i64 1, .int .i64 1] 24)).alloc (.cells #[.int .i64 1, .int .i64 1] 24)) 3 #[.int .i64 7]
  have h3 := Blk.new (((w.alloc (.cells #[.int .i64 1, .int .i64 1] 24)).alloc (.cells #[.int .i64 1, .int .i64 1] 24)).alloc (.cells #[.int .i64 7] 3)) 43 #[.bool true, .slice (some ⟨w.heap.size + 1, 0, none⟩) 1 1, .slice (some ⟨w.heap.size + 1 + 1, 0, none⟩) 1 1, .bool true, .slice none 0 0, .slice none 0 0, .bool true, .slice none 0 0, .slice none 0 0]
  rw [alloc_size] at h1
  rw [alloc_size, alloc_size] at h2
  rw [alloc_size, alloc_size, alloc_size] at h3
  have b4 : Below w.heap.size w ((((w.alloc (.cells #[.int .i64 1, .int .i64 1] 24)).alloc (.cells #[.int .i64 1, .int .i64 1] 24)).alloc (.cells #[.int .i64 7] 3)).alloc (.cells #[.bool true, .slice (some ⟨w.heap.size + 1, 0, none⟩) 1 1, .slice (some ⟨w.heap.size + 1 + 1, 0, none⟩) 1 1, .bool true, .slice none 0 0, .slice none 0 0, .bool true, .slice none 0 0, .slice none 0 0] 43)) := ((bel_alloc2 w (.cells #[.int .i64 1, .int .i64 1] 24) (.cells #[.int .i64 1, .int .i64 1] 24)).trans ((bel_alloc2 _ (.cells #[.int .i64 7] 3) (.cells #[.bool true, .slice (some ⟨w.heap.size + 1, 0, none⟩) 1 1, .slice (some ⟨w.heap.size + 1 + 1, 0, none⟩) 1 1, .bool true, .slice none 0 0, .slice none 0 0, .bool true, .slice none 0 0, .slice none 0 0] 43)).mono (bel_alloc2 w (.cells #[.int .i64 1, .int .i64 1] 24) (.cells #[.int .i64 1, .int .i64 1] 24)).size))
  have k1 := (h1.alloc (.cells #[.int .i64 7] 3)).alloc (.cells #[.bool true, .slice (some ⟨w.heap.size + 1, 0, none⟩) 1 1, .slice (some ⟨w.heap.size + 1 + 1, 0, none⟩) 1 1, .bool true, .slice none 0 0, .slice none 0 0, .bool true, .slice none 0 0, .slice none 0 0] 43)
  have k2 := h2.alloc (.cells #[.bool true, .slice (some ⟨w.heap.size + 1, 0, none⟩) 1 1, .slice (some ⟨w.heap.size + 1 + 1, 0, none⟩) 1 1, .bool true, .slice none 0 0, .slice none 0 0, .bool true, .slice none 0 0, .slice none 0 0] 43)
  refine ⟨fun k hk => ?_, b4⟩
  match k, hk with
  | 0, _ =>
    refine ⟨⟨_, 0, rfl, h3.lt, h3.cell 0, h3.cell 1, h3.cell 2⟩, fun i hi => ?_, fun i hi => ?_⟩
    · obtain rfl : i = 0 := by have : i < 1 := hi; omega
      exact ⟨_, 0, rfl, k1.lt, k1.cell 0, k1.cell 1⟩
    · obtain rfl : i = 0 := by have : i < 1 := hi; omega
      exact ⟨_, 0, rfl, k2.lt, k2.cell 0⟩
  | 1, _ => exact ⟨⟨_, 0, rfl, h3.lt, h3.cell 3, h3.cell 4, h3.cell 5⟩, AtsAt.nil _ _ _, IntAt.nil _ _ _⟩
  | 2, _ => exact ⟨⟨_, 0, rfl, h3.lt, h3.cell 6, h3.cell 7, h3.cell 8⟩, AtsAt.nil _ _ _, IntAt.nil _ _ _⟩
set_option maxHeartbeats 8000000 in
theorem salive_any (HW : WantsIs) (w : World) : Calls Try.prog 8 #[] w fun e w' => e = .returned (.bool true) ∧ Below w.heap.size w w' := by
  have hL := alive_lay w
  have HC := Lib.hid (HW (some ⟨w.heap.size + 1 + 1 + 1, 0, none⟩) 3 (aliveL w.heap.size) ⟨1, 1⟩ (-1) _ hL.1 (by show 3 ≤ 20; omega) (fun k hk => by
    match k, hk with
    | 0, _ => exact ⟨by show 1 ≤ 40; omega, by show 1 ≤ 100; omega⟩
    | 1, _ => exact ⟨by show 0 ≤ 40; omega, by show 0 ≤ 100; omega⟩
    | 2, _ => exact ⟨by show 0 ≤ 40; omega, by show 0 ≤ 100; omega⟩))
  rw [alive_wants, show (aliveL w.heap.size).length = 3 from rfl] at HC
  have HB := Lib.hid hL.2
  clear hL
  go_enter Try.func8, Try.ntmps8
  go_wp2_with fail
  refine HC.out.mono ?_
  rintro e w1 ⟨A', c', rfl, hi, _, b1⟩
  have hb2 := bel_alloc w1 (.cells #[.int .i64 (-1), .int .i64 7, .int .i64 7] 3)
  have hx := Blk.new w1 3 #[.int .i64 (-1), .int .i64 7, .int .i64 7]
  have HS := Lib.hid (sames_any (c := c') (c' := 3) (n := 3) (m := 3) (l := [-1, 7, 7]) (l' := [-1, 7, 7]) rfl rfl (by omega) ((hi.below hb2).more hb2.size) (show IntAt (w1.alloc (.cells #[.int .i64 (-1), .int .i64 7, .int .i64 7] 3)) _ (some ⟨w1.heap.size, 0, none⟩) [-1, 7, 7] from fun k hk => by
    match k, hk with
    | 0, _ => exact ⟨_, 0, rfl, hx.lt, hx.cell 0⟩
    | 1, _ => exact ⟨_, 0, rfl, hx.lt, hx.cell 1⟩
    | 2, _ => exact ⟨_, 0, rfl, hx.lt, hx.cell 2⟩))
  have HB3 := Lib.hid ((HB.out.trans (b1.mono HB.out.size)).trans (hb2.mono (HB.out.trans (b1.mono HB.out.size)).size))
  clear hi b1 hb2 hx
  go_wp2_with fail
  refine HS.out.mono ?_
  rintro e w4 ⟨rfl, b4⟩
  have HE := Lib.hid (HB3.out.trans (b4.mono HB3.out.size))
  clear b4
  go_wp2_with fail
  go_ret
  exact ⟨rfl, HE.out⟩
end Go.Proofs.Ytaieopejabpegaa
