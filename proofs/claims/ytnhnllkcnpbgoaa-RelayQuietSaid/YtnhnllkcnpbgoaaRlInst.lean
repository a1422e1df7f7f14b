/- The program's relay.Relay answers what RelayIs asks: over a table that lies as its own, and over none. No condition. -/
import Derived.Test.YtnhnllkcnpbgoaaRlRun
import Derived.Test.YtnhnllkcnpbgoaaRlIs
namespace Go.Proofs.Ytnhnllkcnpbgoaa
open Go.Joins Go.ChangeShapes Go.WideShapes Go.ChangeAt Go.RowKit Go.Deep
set_option maxRecDepth 100000

theorem relayIs : RelayIs where
  relay := fun {w A c l B g F s} i f hA hfew _ hp hs hi hn => by
    have hcl : classP (l.getD i.toNat px0).pv f = classP (l.getD i.toNat px0).pv f := rfl
    refine relay_core A c l i f (some ⟨g, 0, none⟩) (findS s.l (classP (l.getD i.toNat px0).pv f) f.dst) w hA hfew (fun hm => ?_) (fun W hb V hV => ?_)
    · rw [find_many hi hm]
      decide
    · rw [hV]
      obtain ⟨A', c', hp⟩ := hp
      exact ffind_any _ _ ⟨A', c', hp.below hb⟩ hs (by omega)
  relay0 := fun {w A c l} i f hA hfew _ => relay_core A c l i f none (-1) w hA hfew (fun _ => by decide) (fun W _ V _ => ffind_nil W V f.dst)
end Go.Proofs.Ytnhnllkcnpbgoaa
