/- Small words for the laws on messages: a text's first byte, a message is the same as itself, a reading of what was written. No condition. -/
import Derived.Test.YtoigapanhbmjlaaMrPutM
import Derived.Test.YtoigapanhbmjlaaMrAlive
import Derived.Test.YtoigapanhbmjlaaMrSame
import Derived.Test.YtoigapanhbmjlaaMrFind
import Derived.Test.YtoigapanhbmjlaaMrGoodR
import Derived.Test.YtoigapanhbmjlaaMrRefB
namespace Go.Proofs.Ytoigapanhbmjlaa
open Go.RowKit

theorem same_refl (m : Msg) : sameM m.all m.all m.ws m.ws = true := sameM_yes rfl (by simp [sameB]) (fun k hk => ⟨rfl, rfl, rfl, rfl⟩)
theorem read_zero {l t : List UInt8} (h : l = 0 :: t) {e : Ending} {w' : World} (hr : ReadEnd l e w') :
    ∃ A A' c c', e = .returned (.tuple #[.agg #[.slice A (msgLoop Msg.none t).1.all.length c, .slice A' (msgLoop Msg.none t).1.ws.length c'], .bool (msgLoop Msg.none t).2, .int .i64 0]) ∧ IntsAt w' w'.heap.size A (msgLoop Msg.none t).1.all ∧ WordsAt w' w'.heap.size A' (msgLoop Msg.none t).1.ws := by
  subst h
  rcases hr with ⟨hodd, _⟩ | ⟨t3, Q, Q', q, q', hl3, he, hQ, hQ', _⟩
  · exfalso
    rcases hodd with h0 | ⟨x, y, hxy, hx⟩
    · cases h0
    · injection hxy with h1 _; exact hx h1.symm
  · injection hl3 with _ hl3
    subst hl3
    exact ⟨Q, Q', q, q', he, hQ, hQ'⟩
/-- What is read of bytes whose message is known. -/
theorem read_known (s : ByteArray) (t : List UInt8) (m : Msg) (bad : Bool) (hs : s.size ≤ 100000) (ht : s.data.toList = 0 :: t) (hm : msgLoop Msg.none t = (m, bad)) (w : World) :
    Calls Try.prog 15 #[.string s] w fun e w' => (∃ A A' c c', e = .returned (.tuple #[.agg #[.slice A m.all.length c, .slice A' m.ws.length c'], .bool bad, .int .i64 0]) ∧ IntsAt w' w'.heap.size A m.all ∧ WordsAt w' w'.heap.size A' m.ws) ∧ Below w.heap.size w w' := by
  refine (readm_all s w hs).mono fun e w' h => ⟨?_, h.2⟩
  have := read_zero ht h.1
  rw [hm] at this
  exact this
end Go.Proofs.Ytoigapanhbmjlaa
