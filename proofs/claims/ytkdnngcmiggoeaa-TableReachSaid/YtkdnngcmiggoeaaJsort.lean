/- The library's sort, at numbers of the program's own. Its condition: fewer than 2^20 of them, and not none. -/
import Derived.Test.YtkdnngcmiggoeaaJlay
import Derived.Test.YtkdnngcmiggoeaaJnums
import Derived.Sort.OwnSortedInts
namespace Go.Proofs.Ytkdnngcmiggoeaa
open Go.RowKit Go.Shelf Go.Sort
set_option maxRecDepth 100000

def sortI (l : List Int) : List Int := l.mergeSort fun x y => decide (x ≤ y)
theorem sort_ints (A : Option Addr) (c : Nat) (l : List Int) (n : Nat) (hl : l.length = n) (base : Nat) (w : World) (h : OwnN w base A c l) (h0 : 0 < l.length) (hn : l.length ≤ 1048576) :
    Calls Try.prog 48 #[.slice A n c] w fun e w' => e = .returned (.tuple #[]) ∧ OwnN w' base A c (sortI l) ∧ w.grownBy w' (Value.slice A n c).ownBlock := by
  subst hl
  rcases h.2 with ⟨e0, _⟩ | ⟨g, cap, cur, e0, hb, hg, hle, hm, hs, ht⟩
  · injection e0 with _ e2
    omega
  · injection e0 with e1 _ e3
    subst e1 e3
    have hlt : g < w.heap.size := (Array.getElem?_eq_some_iff.1 hg).1
    have hH := holds_of_blockI (ss := l) hg (by rw [Nat.mul_one] at ht; exact ht)
    have hcon := Any.slices_Sort_int (P := Try.prog) layInts g 0 c l w hH hlt (by omega)
    refine (show Calls Try.prog 48 #[.slice (some ⟨g, 0, none⟩) l.length c] w _ from hcon).mono fun e w' hh => ?_
    obtain ⟨he, k, os, rfl⟩ := hh
    have hlen : (sortI l).length = l.length := (List.mergeSort_perm l _).length_eq
    refine ⟨he, ?_, grownBy_sortedI _⟩
    have := ownsRow_sortedI (w := w) (n := k) (os := os) (ss := l) (ts := sortI l) hlen hb hg hle hm hs
    unfold OwnN
    rw [hlen]
    exact this
end Go.Proofs.Ytkdnngcmiggoeaa
