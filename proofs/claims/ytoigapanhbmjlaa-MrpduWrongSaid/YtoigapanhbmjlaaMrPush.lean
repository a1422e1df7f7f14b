/- A number, a word more in a message that the law makes; what is read where a type's size isn't its own. No condition but bounds on lengths. -/
import Derived.Test.YtoigapanhbmjlaaMrCut
namespace Go.Proofs.Ytoigapanhbmjlaa
open Go.RowKit

theorem blk_grown {w w' : World} {base g size n : Nat} {e t : TypeId} {v : Value} {xs : List Value} {cs : Array Value} (hb : Blk w g t cs) (h : w.ownsRow base e size v n xs) (ht : t ≠ e) (hg : w.grownBy w' v.ownBlock) : Blk w' g t cs :=
  (hg.block g hb.lt (fun e2 => own_ne h hb ht e2.symm)).trans hb
theorem push_int {wr : World} {base Z P c1 : Nat} {A1 : Option Addr} {l : List Int} {v2 : Value} {cp : Array Value} (hz : Blk wr Z 25 #[.slice A1 l.length c1, v2]) (hp : Blk wr P 25 cp) (hzp : P ≠ Z) (ho : OwnI wr base A1 c1 l) (hl : l.length ≤ 100000) (hbZ : base ≤ Z) (x : Int) :
    ∃ a' c' w2, (Builtin.append_ #[22, 22] 22 #[.slice A1 l.length c1, .slice (some ⟨wr.heap.size, 0, none⟩) 1 1]).run Try.prog (wr.alloc (.cells #[.int .i64 x] 3)) = .ok (.slice a' (l.length + 1) c') w2 ∧
      w2.cell? ⟨Z, 0, none⟩ = some (.slice A1 l.length c1) ∧ w2.frozen? ⟨Z, 0, none⟩ = false ∧
      Blk (w2.setCell ⟨Z, 0, none⟩ (.slice a' (l.length + 1) c')) Z 25 #[.slice a' (l ++ [x]).length c', v2] ∧ Blk (w2.setCell ⟨Z, 0, none⟩ (.slice a' (l.length + 1) c')) P 25 cp ∧ OwnI (w2.setCell ⟨Z, 0, none⟩ (.slice a' (l.length + 1) c')) base a' c' (l ++ [x]) ∧ Below base wr (w2.setCell ⟨Z, 0, none⟩ (.slice a' (l.length + 1) c')) := by
  have hb0 : base ≤ wr.heap.size := Nat.le_trans hbZ (Nat.le_of_lt hz.lt)
  have hnb := Blk.new wr 3 #[.int .i64 x]
  have bW : Below base wr (wr.alloc (.cells #[.int .i64 x] 3)) := (Below.refl _ _).alloc hb0 _
  have hz1 := hz.alloc (.cells #[.int .i64 x] 3)
  have hp1 := hp.alloc (.cells #[.int .i64 x] 3)
  have ho1 : OwnI (wr.alloc (.cells #[.int .i64 x] 3)) base A1 c1 l := World.ownsRow.alloc ho _
  obtain ⟨W, hW⟩ : ∃ W, wr.alloc (.cells #[.int .i64 x] 3) = W := ⟨_, rfl⟩
  rw [hW] at hnb bW hz1 hp1 ho1 ⊢
  have hone : IntsAt W W.heap.size (some ⟨wr.heap.size, 0, none⟩) [x] := fun q hq => by
    obtain rfl : q = 0 := by simpa using hq
    exact ⟨wr.heap.size, 0, rfl, hnb.lt, hnb.cell 0⟩
  obtain ⟨a', c', w2, hr, ho2, hg, _, _⟩ := append_ints W base A1 c1 l ho1 (some ⟨wr.heap.size, 0, none⟩) 1 W.heap.size [x] (fun h => by cases h) hone (by simp; omega) (Nat.le_trans hb0 bW.size)
  have hl2 : (l ++ [x]).length = l.length + 1 := by simp
  rw [hl2] at hr
  have hz2 := blk_grown hz1 ho1 (by decide) hg
  have hp2 := blk_grown hp1 ho1 (by decide) hg
  refine ⟨a', c', w2, hr, hz2.cell 0, hz2.frozen 0, ?_, hp2.far hzp _, ownsRow_setCell_other (a := ⟨Z, 0, none⟩) ho2 (own_ne ho2 hz2 (by decide)) _, (bW.trans (bel_own ho1 hg (Nat.le_refl _) (Nat.le_trans hb0 bW.size))).setCell hbZ _⟩
  have := Blk.set_ hz2 0 (.slice a' (l.length + 1) c')
  rw [hl2]
  exact this
theorem push_word {wr : World} {base Z P c1 c2 : Nat} {A1 A2 : Option Addr} {l : List Int} {ws : List Wd} {cp : Array Value} (hz : Blk wr Z 25 #[.slice A1 l.length c1, .slice A2 ws.length c2]) (hp : Blk wr P 25 cp) (hzp : P ≠ Z) (hi : OwnI wr base A1 c1 l) (ho : OwnW wr base A2 c2 ws) (hl : ws.length ≤ 100000) (hbZ : base ≤ Z) (x : Wd) :
    ∃ a' c' w2, (Builtin.append_ #[23, 23] 23 #[.slice A2 ws.length c2, .slice (some ⟨wr.heap.size, 0, none⟩) 1 1]).run Try.prog (wr.alloc (.cells #[.int .i64 x.t, .int .i64 x.v, .int .i64 x.e, .int .i64 x.b] 43)) = .ok (.slice a' (ws.length + 1) c') w2 ∧
      w2.cell? ⟨Z, 1, none⟩ = some (.slice A2 ws.length c2) ∧ w2.frozen? ⟨Z, 1, none⟩ = false ∧
      Blk (w2.setCell ⟨Z, 1, none⟩ (.slice a' (ws.length + 1) c')) Z 25 #[.slice A1 l.length c1, .slice a' (ws ++ [x]).length c'] ∧ Blk (w2.setCell ⟨Z, 1, none⟩ (.slice a' (ws.length + 1) c')) P 25 cp ∧ OwnI (w2.setCell ⟨Z, 1, none⟩ (.slice a' (ws.length + 1) c')) base A1 c1 l ∧ OwnW (w2.setCell ⟨Z, 1, none⟩ (.slice a' (ws.length + 1) c')) base a' c' (ws ++ [x]) ∧ Below base wr (w2.setCell ⟨Z, 1, none⟩ (.slice a' (ws.length + 1) c')) := by
  have hb0 : base ≤ wr.heap.size := Nat.le_trans hbZ (Nat.le_of_lt hz.lt)
  have hnb := Blk.new wr 43 #[.int .i64 x.t, .int .i64 x.v, .int .i64 x.e, .int .i64 x.b]
  have bW : Below base wr (wr.alloc (.cells #[.int .i64 x.t, .int .i64 x.v, .int .i64 x.e, .int .i64 x.b] 43)) := (Below.refl _ _).alloc hb0 _
  have hz1 := hz.alloc (.cells #[.int .i64 x.t, .int .i64 x.v, .int .i64 x.e, .int .i64 x.b] 43)
  have hp1 := hp.alloc (.cells #[.int .i64 x.t, .int .i64 x.v, .int .i64 x.e, .int .i64 x.b] 43)
  have ho1 : OwnW (wr.alloc (.cells #[.int .i64 x.t, .int .i64 x.v, .int .i64 x.e, .int .i64 x.b] 43)) base A2 c2 ws := World.ownsRow.alloc ho _
  have hi1 : OwnI (wr.alloc (.cells #[.int .i64 x.t, .int .i64 x.v, .int .i64 x.e, .int .i64 x.b] 43)) base A1 c1 l := World.ownsRow.alloc hi _
  obtain ⟨W, hW⟩ : ∃ W, wr.alloc (.cells #[.int .i64 x.t, .int .i64 x.v, .int .i64 x.e, .int .i64 x.b] 43) = W := ⟨_, rfl⟩
  rw [hW] at hnb bW hz1 hp1 ho1 hi1 ⊢
  have hone : WordsAt W W.heap.size (some ⟨wr.heap.size, 0, none⟩) [x] := fun q hq => by
    obtain rfl : q = 0 := by simpa using hq
    exact ⟨wr.heap.size, 0, rfl, hnb.lt, hnb.cell 0, hnb.cell 1, hnb.cell 2, hnb.cell 3⟩
  obtain ⟨a', c', w2, hr, ho2, hg, _, _⟩ := append_words W base A2 c2 ws ho1 (some ⟨wr.heap.size, 0, none⟩) 1 W.heap.size [x] (fun h => by cases h) hone (by simp; omega) (Nat.le_trans hb0 bW.size)
  have hl2 : (ws ++ [x]).length = ws.length + 1 := by simp
  rw [hl2] at hr
  have hz2 := blk_grown hz1 ho1 (by decide) hg
  have hp2 := blk_grown hp1 ho1 (by decide) hg
  have hi2 : OwnI w2 base A1 c1 l := own_heap hi1 fun k hk => hg.block k (World.ownsRow.lt hi1 k hk).2 (fun e2 => own_own ho1 hi1 (by decide) hk e2.symm)
  refine ⟨a', c', w2, hr, hz2.cell 1, hz2.frozen 1, ?_, hp2.far hzp _, ownsRow_setCell_other (a := ⟨Z, 1, none⟩) hi2 (own_ne hi2 hz2 (by decide)) _, ownsRow_setCell_other (a := ⟨Z, 1, none⟩) ho2 (own_ne ho2 hz2 (by decide)) _, (bW.trans (bel_own ho1 hg (Nat.le_refl _) (Nat.le_trans hb0 bW.size))).setCell hbZ _⟩
  have := Blk.set_ hz2 1 (.slice a' (ws.length + 1) c')
  rw [hl2]
  exact this
/-- What a message says ahead of a type. -/
def aheadM (m : Msg) (k : Int) : Msg := ⟨m.all.filter (fun a => decide (a < k)), m.ws.filter (fun a => decide (a.t < k))⟩
theorem ahead_good {m : Msg} (h : m.Good) (k : Int) : (aheadM m k).Good := h.sub List.filter_sublist List.filter_sublist
theorem take_filter {α : Type} (l : List α) (p : α → Bool) (j : Nat) (hj : j < l.length) (x : α) (hx : l[j]? = some x) : (l.take (j + 1)).filter p = (l.take j).filter p ++ (if p x then [x] else []) := by
  have e : l[j] = x := by rw [List.getElem?_eq_getElem hj] at hx; injection hx
  rw [List.take_succ_eq_append_getElem hj, e, List.filter_append]
  congr 1
  by_cases h : p x <;> simp [h]
/-- A part with a size that isn't its own. -/
theorem wrong_read {m : Msg} (h : m.Good) (k : Nat) (hk : 1 ≤ k ∧ k ≤ 3) :
    ∃ X t, m.bytes = X ++ [0, 0] ∧ X ++ [UInt8.ofNat k, 9] ++ [0, 0, 0, 0] = 0 :: t ∧ msgLoop Msg.none t = (m, true) := by
  refine ⟨[0] ++ (partBytes 1 (decide ((1 : Int) ∈ m.all)) (ofK 1 m.ws) ++ (partBytes 2 (decide ((2 : Int) ∈ m.all)) (ofK 2 m.ws) ++ partBytes 3 (decide ((3 : Int) ∈ m.all)) (ofK 3 m.ws))), _, by unfold Msg.bytes; simp only [List.append_assoc], by simp only [List.append_assoc, List.cons_append, List.nil_append]; rfl, ?_⟩
  rw [bytes_back h]
  have h3 : k = 1 ∨ k = 2 ∨ k = 3 := by omega
  rcases h3 with rfl | rfl | rfl
  · exact msg_odd (by simp) (by decide) (.inr (by decide)) m
  · exact msg_odd (by simp) (by decide) (.inr (by decide)) m
  · exact msg_odd (by simp) (by decide) (.inr (by decide)) m
end Go.Proofs.Ytoigapanhbmjlaa
