/- strings.Builder at this program: what WriteByte and String answer, and what they leave. No condition but that the builder is one that the call made itself. -/
import Derived.Test.YtdjgenigjfjcfaaMem
import Derived.Shelf.Strings.BuilderK
namespace Go.Proofs.Ytdjgenigjfjcfaa
open Go.Shelf Go.RowKit

def sbRen : Ren := ⟨fun | 169 => 22 | n => n, fun | 70 => 31 | 9 => 9 | 0 => 0 | 72 => 33 | 37 => 29 | 127 => 40 | 3 => 3 | 5 => 5 | n => n, fun | n => n⟩
theorem sbLays : Lays.n169 Try.prog sbRen := {
  mixed := by kernel_rfl
  f169 := Try.func22.trans (congrArg some (by kernel_rfl))
  t0 := Try.underlying0
  a0 := Try.isAgg0
  z0 := Try.sizeOf0
  v0 := Try.zeroValue0
  t3 := Try.underlying3
  a3 := Try.isAgg3
  z3 := Try.sizeOf3
  v3 := Try.zeroValue3
  t9 := Try.underlying9
  a9 := Try.isAgg9
  z9 := Try.sizeOf9
  v9 := Try.zeroValue9
  t37 := Try.underlying29
  a37 := Try.isAgg29
  z37 := Try.sizeOf29
  v37 := Try.zeroValue29
  t70 := Try.underlying31
  a70 := Try.isAgg31
  z70 := Try.sizeOf31
  v70 := Try.zeroValue31
  t72 := Try.underlying33
  a72 := Try.isAgg33
  z72 := Try.sizeOf33
  v72 := Try.zeroValue33
  t127 := Try.underlying40
  a127 := Try.isAgg40
  z127 := Try.sizeOf40
  v127 := Try.zeroValue40 }
theorem sbExtra : Builder.Extra Try.prog sbRen := {
  sizeBuilder := by kernel_rfl
  liesBuilder := by kernel_rfl
  t5 := Try.underlying5
  a5 := Try.isAgg5
  z5 := Try.sizeOf5
  v5 := Try.zeroValue5
  infoByte := by kernel_rfl
  cellsByte := by kernel_rfl
  sizeByte := by kernel_rfl
  neB5 := by decide }

/-- A builder in block b, of the call's own blocks (from B on), that holds the bytes l. -/
def IsB (B b : Nat) (l : List UInt8) (w : World) : Prop := Lib.IsBuilderF 33 5 B b (Lib.byteCells l) w
theorem IsB.new (w : World) : IsB w.heap.size w.heap.size [] (w.alloc (.cells #[.pointer none, .slice none 0 0] 33)) := Lib.IsBuilderF.of (Lib.fresh_isBuilder _ _ w)

theorem sb_text (B b : Nat) (l : List UInt8) (w : World) (h : IsB B b l w) (hB : B ≤ w.heap.size) :
    Calls Try.prog 22 #[.pointer (some ⟨b, 0, none⟩)] w fun e w' => e = .returned (.string ⟨l.toArray⟩) ∧ Below B w w' :=
  (Any.Builder_String_any_k sbLays sbExtra B b l w h hB).mono fun _ _ ⟨he, _, hb, _⟩ => ⟨he, hb⟩

theorem sb_check_used (b : Nat) (w : World) (h0 : w.cell? ⟨b, 0, none⟩ = some (.pointer (some ⟨b, 0, none⟩))) :
    Calls Try.prog 25 #[.pointer (some ⟨b, 0, none⟩)] w fun e w' => e = .returned (.tuple #[]) ∧ w = w' := by
  obtain ⟨j, hj, _⟩ := Option.map_eq_some_iff.1 sbExtra.sizeBuilder
  have HN := Lib.hid (Lib.run_neq_ptr_same w (⟨b, 0, none⟩ : Addr) Try.underlying31 hj)
  clear hj
  go_enter Try.func25, Try.ntmps25
  go_wp2
  rw [HN.out]
  go_wp2
  go_end0
  exact ⟨rfl, rfl⟩
theorem sb_check_new (b : Nat) (w : World) (h0 : w.cell? ⟨b, 0, none⟩ = some (.pointer none)) (hsh : w.shape? b = some (33, 2)) (hfz : w.frozen? ⟨b, 0, none⟩ = false) :
    Calls Try.prog 25 #[.pointer (some ⟨b, 0, none⟩)] w fun e w' => e = .returned (.tuple #[]) ∧ w' = w.setCell ⟨b, 0, none⟩ (.pointer (some ⟨b, 0, none⟩)) := by
  obtain ⟨j, hj, hjs⟩ := Option.map_eq_some_iff.1 sbExtra.sizeBuilder
  have H1 := Lib.hid (Lib.run_to_unsafe w (⟨b, 0, none⟩ : Addr) Try.underlying31 Try.underlying41 hj (by rw [hjs]; decide) hsh (Nat.zero_lt_succ 1))
  have H2 := Lib.hid (Lib.run_from_unsafe w (⟨b, 0, none⟩ : Addr) Try.underlying41 Try.underlying31 hj hsh sbExtra.liesBuilder)
  clear hj hjs
  go_enter Try.func25, Try.ntmps25
  go_wp2
  rw [H1.out]
  go_wp2
  rw [run_callFunc_extern Try.func26 (by kernel_rfl) (by kernel_rfl) (by kernel_rfl) (e := Extern.AbiNoEscape.same) (by kernel_rfl), Lib.run_noEscape]
  simp only [Result.andThen]
  rw [Oper.upon_value]
  go_wp2
  rw [H2.out]
  go_wp2
  go_end0
  exact ⟨rfl, rfl⟩
/-- What is written behind what stands there. -/
theorem sb_byte (B b : Nat) (l : List UInt8) (c : UInt8) (w : World) (h : IsB B b l w) (hl : l.length ≤ 1000000) (hBw : B ≤ w.heap.size) :
    Calls Try.prog 21 #[.pointer (some ⟨b, 0, none⟩), .int .u8 (c.toNat : Int)] w fun e w' => e = .returned .nilIface ∧ IsB B b (l ++ [c]) w' ∧ Below B w w' := by
  obtain ⟨i0, hi, hz0, hz1, hz2⟩ := info_parts sbExtra.infoByte
  have key : ∀ w1 : World, Lib.BuilderAtF 33 5 B b (.pointer (some ⟨b, 0, none⟩)) (Lib.byteCells l) w1 → Below B w w1 →
      Calls Try.prog 25 #[.pointer (some ⟨b, 0, none⟩)] w (fun e w' => e = .returned (.tuple #[]) ∧ w1 = w') →
      Calls Try.prog 21 #[.pointer (some ⟨b, 0, none⟩), .int .u8 (c.toNat : Int)] w fun e w' => e = .returned .nilIface ∧ IsB B b (l ++ [c]) w' ∧ Below B w w' := by
    intro w1 h1 hb1 hcall
    obtain ⟨hB, v, hbk, hown, hne⟩ := h1
    have c0 : w1.cell? ⟨b, 0, none⟩ = some (.pointer (some ⟨b, 0, none⟩)) := by rw [Lib.cell_of_heap hbk]; rfl
    have c1 : w1.cell? ⟨b, 1, none⟩ = some v := by rw [Lib.cell_of_heap hbk]; rfl
    have hsz := hb1.size
    have hlt : b < w1.heap.size := (Array.getElem?_eq_some_iff.1 hbk).1
    rw [Lib.byteCells_length] at hown
    clear h
    go_enter Try.func21, Try.ntmps21
    go_wp2_with (go_at_call 25; refine hcall.mono ?_)
    rintro e w2 ⟨rfl, rfl⟩
    go_wp2_with (at_builtin; refine wpList_append_ownF _ rfl _ _ 29 rfl B 5 i0 (.int .u8 0) 1 1 Try.underlying29 hi hz0 hz1 hz2 rfl (by decide) _ _ _ rfl (hown.alloc _) ⟨w1.heap.size, 0, none⟩ 1 1 [.int .u8 (c.toNat : Int)] rfl rfl ?c1 ?c2 ?c3 ?c4 ?c5 ?_)
    case c1 => exact cell_one_new _ _ _
    case c2 => intro u hu; rw [List.mem_singleton] at hu; subst hu; rfl
    case c3 => unfold maxLen; omega
    case c4 => omega
    case c5 => simp; omega
    intro v' w2 hown' hgrow _
    have hb2 : w2.heap[b]? = some (.cells #[.pointer (some ⟨b, 0, none⟩), v] 33 (0, 0)) := by
      rw [hgrow.block b (by simp; omega) (fun e => hne e.symm), Lib.alloc_old w1 _ b hlt]
      exact hbk
    have d0 : w2.cell? ⟨b, 0, none⟩ = some (.pointer (some ⟨b, 0, none⟩)) := by rw [Lib.cell_of_heap hb2]; rfl
    have d1 : w2.cell? ⟨b, 1, none⟩ = some v := by rw [Lib.cell_of_heap hb2]; rfl
    have f1 : w2.frozen? ⟨b, 1, none⟩ = false := Lib.frozen_of_heap hb2 1
    obtain ⟨g, cap, rfl⟩ : ∃ g cap, v' = .slice (some ⟨g, 0, none⟩) (l.length + 1) cap := by
      rcases hown'.2 with ⟨_, h0⟩ | ⟨g, cap, cur, fz, hv, _⟩
      · omega
      · exact ⟨g, cap, hv⟩
    have hfin : IsB B b (l ++ [c]) (w2.setCell ⟨b, 1, none⟩ (.slice (some ⟨g, 0, none⟩) (l.length + 1) cap)) := by
      refine .inr ?_
      rw [Lib.byteCells_append]
      exact Lib.BuilderAtF.put hB hb2 (by simpa [Lib.byteCells] using hown') (by decide)
    have hbel : Below B w (w2.setCell ⟨b, 1, none⟩ (.slice (some ⟨g, 0, none⟩) (l.length + 1) cap)) :=
      ((hb1.alloc (by omega) _).grown hgrow (by simp; omega) (fun k hk => (hown.lt k hk).1)).setCell (p := ⟨b, 1, none⟩) hB _
    clear hown hown' hgrow hb2 hbk hcall
    go_wp2
    go_ret
    exact ⟨rfl, hfin, hbel⟩
  rcases h with h | h
  · exact key _ (h.used _) ((Below.refl B w).setCell (p := ⟨b, 0, none⟩) h.1 _) ((sb_check_new b w h.cell0 h.shape h.frozen0).mono fun _ _ ⟨a, b⟩ => ⟨a, b.symm⟩)
  · exact key _ h (Below.refl B w) (sb_check_used b w h.cell0)
end Go.Proofs.Ytdjgenigjfjcfaa
