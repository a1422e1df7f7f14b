/- mrpdu.joins: may a message still be, with what a vector says behind it: the last pieces, put together, asked. Its condition: at most 2^20 types and words. -/
import Derived.Test.YthghedlgeceepaaMrGood
import Derived.Test.YthghedlgeceepaaMrOwn
namespace Go.Proofs.Ythghedlgeceepaa
open Go.RowKit
set_option maxRecDepth 100000

theorem map_add {A : Option Addr} {b off : Nat} (h : A = some ⟨b, off, none⟩) (k : Nat) : A.map (fun x => x.add k) = some ⟨b, off + k, none⟩ := by
  subst h
  simp only [Option.map_some, Addr.add_lit]
theorem IntsAt.drop {w : World} {B : Nat} {A : Option Addr} {l : List Int} (h : IntsAt w B A l) (n : Nat) : IntsAt w B (A.map (fun x => x.add n)) (l.drop n) := fun k hk => by
  rw [List.length_drop] at hk
  obtain ⟨b, off, rfl, hl, hc⟩ := h (n + k) (by omega)
  refine ⟨b, off + n, map_add rfl n, hl, ?_⟩
  have e : (l.drop n).getD k 0 = l.getD (n + k) 0 := by simp [List.getD_eq_getElem?_getD, List.getElem?_drop]
  rw [e, Nat.add_assoc]
  exact hc
theorem WordsAt.drop {w : World} {B : Nat} {A : Option Addr} {l : List Wd} (h : WordsAt w B A l) (n : Nat) : WordsAt w B (A.map (fun x => x.add (n * 4))) (l.drop n) := fun k hk => by
  rw [List.length_drop] at hk
  obtain ⟨b, off, rfl, hl, h0, h1, h2, h3⟩ := h (n + k) (by omega)
  have e : (l.drop n).getD k wd0 = l.getD (n + k) wd0 := by simp [List.getD_eq_getElem?_getD, List.getElem?_drop]
  have e4 : off + n * 4 + k * 4 = off + (n + k) * 4 := by omega
  refine ⟨b, off + n * 4, map_add rfl (n * 4), hl, ?_⟩
  rw [e, e4]
  exact ⟨h0, h1, h2, h3⟩
theorem IntsAt.take {w : World} {B : Nat} {A : Option Addr} {l : List Int} (h : IntsAt w B A l) (n : Nat) : IntsAt w B A (l.take n) := fun k hk => by
  rw [List.length_take] at hk
  have e : (l.take n).getD k 0 = l.getD k 0 := by simp [List.getD_eq_getElem?_getD, show k < n by omega]
  rw [e]
  exact h k (by omega)
theorem WordsAt.take {w : World} {B : Nat} {A : Option Addr} {l : List Wd} (h : WordsAt w B A l) (n : Nat) : WordsAt w B A (l.take n) := fun k hk => by
  rw [List.length_take] at hk
  have e : (l.take n).getD k wd0 = l.getD k wd0 := by simp [List.getD_eq_getElem?_getD, show k < n by omega]
  rw [e]
  exact h k (by omega)


end Go.Proofs.Ythghedlgeceepaa
