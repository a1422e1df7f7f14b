/- octet's Writer.Raw: the bytes of a text behind what stands there. No condition but that the writer stands in its place, and that there is room. (A text of its own: a seat may name the method without its body.) -/
import Derived.Test.YtoigapanhbmjlaaWrite
namespace Go.Proofs.Ytoigapanhbmjlaa
open Go.RowKit

set_option maxHeartbeats 400000 in
theorem wraw_any (g : Nat) (v : Value) (l : List UInt8) (s : ByteArray) (w : World) (h : IsW w g v l) (hl : l.length + s.size ≤ 140737488355328) :
    Calls Try.prog 57 #[.pointer (some ⟨g, 0, none⟩), .string s] w fun e w' => e = .returned (.tuple #[]) ∧ ∃ v', IsW w' g v' (l ++ s.data.toList) ∧ Touch (FootW g v) w w' ∧ Moved w v v' := by
  have c0 : w.cell? ⟨g, 0, none⟩ = some v := h.blk.cell 0
  have f0 := h.blk.frozen 0
  obtain ⟨i0, hi0, hz0, hz1, hz2⟩ := info_parts u8_info
  go_enter Try.func57, Try.ntmps57
  go_wp2_with (at_builtin; refine wpList_append_string_at _ rfl _ _ 44 9 rfl 0 5 i0 Try.underlying44 Try.underlying9 hi0 hz0 hz1 hz2 v l.length (bytesV l) rfl h.own s rfl ?h1 hl (Nat.zero_le _) ?h2)
  case h1 => simp only [maxLen]; omega
  case h2 =>
    intro v' w1 hown hgrow hmoved
    obtain ⟨a1, c1, rfl⟩ := own_slice hown
    have ht := Touch.of_grown hgrow
    have hb1 := h.blk.touch ht h.ne
    have k0 : w1.cell? ⟨g, 0, none⟩ = some v := hb1.cell 0
    have k1 := hb1.frozen 0
    have hfin : IsW (w1.setCell ⟨g, 0, none⟩ (.slice a1 (l.length + s.size) c1)) g (.slice a1 (l.length + s.size) c1) (l ++ s.data.toList) := IsW.store hb1 (by simpa [bytesV_append, bytesV_str] using hown)
    have htt : Touch (FootW g v) w (w1.setCell ⟨g, 0, none⟩ (.slice a1 (l.length + s.size) c1)) := Touch.set_ (ht.mono fun k _ hk => .inr hk) (fun _ => .inl rfl) _
    clear hown hgrow ht hb1 h c0 f0
    go_wp2
    go_end0
    exact ⟨rfl, _, hfin, htt, hmoved⟩

end Go.Proofs.Ytoigapanhbmjlaa
