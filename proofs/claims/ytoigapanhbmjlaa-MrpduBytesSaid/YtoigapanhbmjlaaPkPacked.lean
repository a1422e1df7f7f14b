/- pack.packed: the bytes of a list, or that one of it is none. Its condition: at most 2^20 numbers. -/
import Derived.Test.YtoigapanhbmjlaaPkNums
import Derived.Deep.OwnRows
import Derived.Laws.IdiomStrings
namespace Go.Proofs.Ytoigapanhbmjlaa
open Go.RowKit

/-- Bytes as cells. -/
def bcells (l : List UInt8) : Array Value := (l.map fun b => Value.int .u8 (b.toNat : Int)).toArray
theorem bcells_size (l : List UInt8) : (bcells l).size = l.length := by simp [bcells]
theorem bcells_at (l : List UInt8) (j : Nat) (b : UInt8) (h : l[j]? = some b) : (bcells l)[j]? = some (.int .u8 (b.toNat : Int)) := by
  simp [bcells, h]
theorem bcells_made (L K : Nat) (x : Nat → Nat) (n : Nat) : madeCells #[Value.int .u8 0] n = bcells (rows L K x 0 n) := by
  apply Array.ext
  · simp [size_madeCells, bcells_size, rows_length]
  · intro j h1 h2
    simp only [size_madeCells] at h1
    simp [madeCells, bcells, rows, rb_zero, Nat.mod_one]
theorem bcells_set (L K : Nat) (x : Nat → Nat) (i n : Nat) (hLK : LK L K) (hx : Kinds K x (i + 1)) (_hi : i / L < n) :
    (bcells (rows L K x i n)).setIfInBounds (i / L) (.int .u8 (rb L K x (i + 1) (i / L) : Nat)) = bcells (rows L K x (i + 1) n) := by
  apply Array.ext
  · simp [bcells_size, rows_length]
  · intro j h1 h2
    simp only [Array.size_setIfInBounds, bcells_size, rows_length] at h1
    rw [Array.getElem_setIfInBounds]
    split
    · rename_i e
      subst e
      have := (rb_lt' L K x (i + 1) (i / L) hLK hx).1
      simp [bcells, rows, UInt8.toNat_ofNat']
      omega
    · rename_i e
      simp [bcells, rows, rb_other L K x i j hLK (by omega)]
    · simpa [bcells_size, rows_length] using h1
theorem bcells_text (w : World) (g cap : Nat) (l : List UInt8) (h : Blk w g 5 (bcells l)) :
    (convert 44 9 (.slice (some ⟨g, 0, none⟩) l.length cap)).run Try.prog w = .ok (.string (str l)) w := by
  refine run_convert_bytes_back w 44 9 5 ⟨g, 0, none⟩ cap l Try.underlying44 Try.underlying5 Try.underlying9 fun j hj => ?_
  have := (h.cell j).trans (bcells_at l j _ (List.getElem?_eq_getElem hj))
  by_cases h0 : j = 0
  · subst h0
    exact this
  · simpa [Addr.add, h0] using this

/-- How packing ends: at the first number that is none, or with all bytes. -/
def PackEnd (L K : Nat) (x : Nat → Nat) (n p : Nat) (e : Ending) : Prop :=
  (p = n ∧ e = .returned (.tuple #[.string (str (rows L K x n (sz n L))), .int .i64 0])) ∨ (p < n ∧ e = .returned (.tuple #[.string ⟨#[]⟩, .int .i64 1]))

set_option maxRecDepth 100000 in
set_option maxHeartbeats 2000000 in
theorem packed_any (L K : Nat) (A : Option Addr) (n cap : Nat) (f : Nat → Int) (x : Nat → Nat) (p : Nat) (w : World) (hLK : LK L K) (hn : n ≤ 1048576) (hA : Nums w w.heap.size A n f)
    (hp : p ≤ n) (hx : ∀ k, k < p → f k = (x k : Int)) (hK : Kinds K x p) (hbad : p < n → f p < 0 ∨ (K : Int) ≤ f p) :
    Calls Try.prog 66 #[.slice A n cap, .int .i64 L, .int .i64 K] w fun e w' => PackEnd L K x n p e ∧ Below w.heap.size w w' := by
  have hsz := sz_le n L K hLK
  go_enter Try.func66, Try.ntmps66
  go_wp2_with fail
  with_reducible refine (size_any n L K _ hLK (by omega)).mono ?_
  rintro e w' ⟨rfl, rfl⟩
  have hmk := run_make_row' (P := Try.prog) 44 5 (.int .u8 0) 1 Try.underlying44 u8_info rfl .i64 .i64 (sz n L) (by omega) (by omega) w
  go_wp2_with fail
  have hb0 : Blk (w.alloc (.cells (madeCells #[.int .u8 0] (sz n L)) 5)) w.heap.size 5 (bcells (rows L K x 0 (sz n L))) := by
    rw [← bcells_made L K x]
    exact Blk.new _ _ _
  go_loopw [9, 19] (fun u i wr => ∃ (k : Nat) (v : Int), k ≤ p ∧ i = .int .i64 k ∧ u = .int .i64 v ∧ (k % L ≠ 0 → v = ((K ^ (L - k % L) : Nat) : Int)) ∧ Blk wr w.heap.size 5 (bcells (rows L K x k (sz n L))) ∧ Below w.heap.size w wr) (fun _ i _ => n - (intOf i).toNat)
  case atStart => exact ⟨0, 0, Nat.zero_le _, rfl, rfl, fun h => absurd (Nat.zero_mod L) h, hb0, (Below.refl _ _).alloc (Nat.le_refl _) _⟩
  case round =>
    obtain ⟨k, v, hk, rfl, rfl, hv, hb, hw⟩ := hrel
    clear hb0
    by_cases hlt : k < p
    · obtain ⟨b, off, rfl, hbl, hc⟩ := hA k (by omega)
      have c0 : wr.cell? ⟨b, off + k, none⟩ = some (.int .i64 (x k : Int)) := (hw.cell (p := ⟨b, off + k, none⟩) hbl).trans (by rw [← hx k hlt]; exact hc)
      have hxk := hK k hlt
      have hrow := row_lt n L K k hLK (by omega)
      have hsame := rb_same L K x k hLK
      have hq := (rb_lt' L K x (k + 1) (k / L) hLK fun r hr => hK r (by omega)).1
      have hq0 := (rb_lt' L K x k (k / L) hLK fun r hr => hK r (by omega)).1
      have hbs := bcells_set L K x k (sz n L) hLK (fun r hr => hK r (by omega)) hrow
      have c1 : wr.cell? ⟨w.heap.size, k / L, none⟩ = some (.int .u8 (rb L K x k (k / L) : Nat)) := by
        refine (hb.cell _).trans ((bcells_at _ _ _ (rows_at L K x k (sz n L) (k / L) hrow)).trans ?_)
        rw [UInt8.toNat_ofNat', Nat.mod_eq_of_lt hq0]
      have f1 := hb.frozen (k / L)
      generalize x k = xk at *
      generalize rb L K x k (k / L) = q0 at *
      generalize rb L K x (k + 1) (k / L) = q1 at *
      clear hc
      rcases hLK with ⟨rfl, rfl⟩ | ⟨rfl, rfl⟩
      · simp only [Int.cast_ofNat_Int] at *
        have hm : k % 3 = 0 ∨ k % 3 = 1 ∨ k % 3 = 2 := by omega
        rcases hm with hm | hm | hm
        · rw [hm] at hsame
          have hq1 : q1 = q0 + xk * 36 := hsame
          have HQ := Lib.hid hq1
          have hfin : ∀ t : Int, t = (q1 : Int) → Blk (wr.setCell ⟨w.heap.size, k / 3, none⟩ (.int .u8 t)) w.heap.size 5 (bcells (rows 3 6 x (k + 1) (sz n 3))) := by
            rintro t rfl
            rw [← hbs]
            exact hb.set_ _ _
          have HF := Lib.hid hfin
          have hnx : (k + 1) % 3 ≠ 0 → ((36 : Int) = ((6 ^ (3 - (k + 1) % 3) : Nat) : Int)) := by
            intro _
            have e : (k + 1) % 3 = 1 := by omega
            rw [e]
            rfl
          have HN := Lib.hid hnx
          have d : ((k : Int) % 3 == 0) = true := by simp; omega
          clear hsame hq1 hv hbs hfin hnx hb hm
          go_wp2_with fail
          with_reducible refine (unlike3 _).mono ?_
          rintro e w' ⟨rfl, rfl⟩
          go_wp2_with fail
          go_roundw
          case rel => exact ⟨k + 1, 36, by omega, by go_num, rfl, HN.out, HF.out _ (by have := HQ.out; omega), hw.setCell (Nat.le_refl _) _⟩
          case measure => simp [intOf]; omega
        · rw [hm] at hsame
          have hq1 : q1 = q0 + xk * 6 := hsame
          have HQ := Lib.hid hq1
          have hfin : ∀ t : Int, t = (q1 : Int) → Blk (wr.setCell ⟨w.heap.size, k / 3, none⟩ (.int .u8 t)) w.heap.size 5 (bcells (rows 3 6 x (k + 1) (sz n 3))) := by
            rintro t rfl
            rw [← hbs]
            exact hb.set_ _ _
          have HF := Lib.hid hfin
          have hnx : (k + 1) % 3 ≠ 0 → ((6 : Int) = ((6 ^ (3 - (k + 1) % 3) : Nat) : Int)) := by
            intro _
            have e : (k + 1) % 3 = 2 := by omega
            rw [e]
            rfl
          have HN := Lib.hid hnx
          have d : ((k : Int) % 3 == 0) = false := by simp; omega
          obtain rfl : (36 : Int) = v := by rw [hv (by omega), hm]; rfl
          clear hsame hq1 hv hbs hfin hnx hb hm
          go_wp2_with fail
          go_roundw
          case rel => exact ⟨k + 1, 6, by omega, by go_num, rfl, HN.out, HF.out _ (by have := HQ.out; omega), hw.setCell (Nat.le_refl _) _⟩
          case measure => simp [intOf]; omega
        · rw [hm] at hsame
          have hq1 : q1 = q0 + xk * 1 := hsame
          have HQ := Lib.hid hq1
          have hfin : ∀ t : Int, t = (q1 : Int) → Blk (wr.setCell ⟨w.heap.size, k / 3, none⟩ (.int .u8 t)) w.heap.size 5 (bcells (rows 3 6 x (k + 1) (sz n 3))) := by
            rintro t rfl
            rw [← hbs]
            exact hb.set_ _ _
          have HF := Lib.hid hfin
          have hnx : (k + 1) % 3 ≠ 0 → ((1 : Int) = ((6 ^ (3 - (k + 1) % 3) : Nat) : Int)) := by
            intro h
            omega
          have HN := Lib.hid hnx
          have d : ((k : Int) % 3 == 0) = false := by simp; omega
          obtain rfl : (6 : Int) = v := by rw [hv (by omega), hm]; rfl
          clear hsame hq1 hv hbs hfin hnx hb hm
          go_wp2_with fail
          go_roundw
          case rel => exact ⟨k + 1, 1, by omega, by go_num, rfl, HN.out, HF.out _ (by have := HQ.out; omega), hw.setCell (Nat.le_refl _) _⟩
          case measure => simp [intOf]; omega
      · simp only [Int.cast_ofNat_Int] at *
        have hm : k % 4 = 0 ∨ k % 4 = 1 ∨ k % 4 = 2 ∨ k % 4 = 3 := by omega
        rcases hm with hm | hm | hm | hm
        · rw [hm] at hsame
          have hq1 : q1 = q0 + xk * 64 := hsame
          have HQ := Lib.hid hq1
          have hfin : ∀ t : Int, t = (q1 : Int) → Blk (wr.setCell ⟨w.heap.size, k / 4, none⟩ (.int .u8 t)) w.heap.size 5 (bcells (rows 4 4 x (k + 1) (sz n 4))) := by
            rintro t rfl
            rw [← hbs]
            exact hb.set_ _ _
          have HF := Lib.hid hfin
          have hnx : (k + 1) % 4 ≠ 0 → ((64 : Int) = ((4 ^ (4 - (k + 1) % 4) : Nat) : Int)) := by
            intro _
            have e : (k + 1) % 4 = 1 := by omega
            rw [e]
            rfl
          have HN := Lib.hid hnx
          have d : ((k : Int) % 4 == 0) = true := by simp; omega
          clear hsame hq1 hv hbs hfin hnx hb hm
          go_wp2_with fail
          with_reducible refine (unlike4 _).mono ?_
          rintro e w' ⟨rfl, rfl⟩
          go_wp2_with fail
          go_roundw
          case rel => exact ⟨k + 1, 64, by omega, by go_num, rfl, HN.out, HF.out _ (by have := HQ.out; omega), hw.setCell (Nat.le_refl _) _⟩
          case measure => simp [intOf]; omega
        · rw [hm] at hsame
          have hq1 : q1 = q0 + xk * 16 := hsame
          have HQ := Lib.hid hq1
          have hfin : ∀ t : Int, t = (q1 : Int) → Blk (wr.setCell ⟨w.heap.size, k / 4, none⟩ (.int .u8 t)) w.heap.size 5 (bcells (rows 4 4 x (k + 1) (sz n 4))) := by
            rintro t rfl
            rw [← hbs]
            exact hb.set_ _ _
          have HF := Lib.hid hfin
          have hnx : (k + 1) % 4 ≠ 0 → ((16 : Int) = ((4 ^ (4 - (k + 1) % 4) : Nat) : Int)) := by
            intro _
            have e : (k + 1) % 4 = 2 := by omega
            rw [e]
            rfl
          have HN := Lib.hid hnx
          have d : ((k : Int) % 4 == 0) = false := by simp; omega
          obtain rfl : (64 : Int) = v := by rw [hv (by omega), hm]; rfl
          clear hsame hq1 hv hbs hfin hnx hb hm
          go_wp2_with fail
          go_roundw
          case rel => exact ⟨k + 1, 16, by omega, by go_num, rfl, HN.out, HF.out _ (by have := HQ.out; omega), hw.setCell (Nat.le_refl _) _⟩
          case measure => simp [intOf]; omega
        · rw [hm] at hsame
          have hq1 : q1 = q0 + xk * 4 := hsame
          have HQ := Lib.hid hq1
          have hfin : ∀ t : Int, t = (q1 : Int) → Blk (wr.setCell ⟨w.heap.size, k / 4, none⟩ (.int .u8 t)) w.heap.size 5 (bcells (rows 4 4 x (k + 1) (sz n 4))) := by
            rintro t rfl
            rw [← hbs]
            exact hb.set_ _ _
          have HF := Lib.hid hfin
          have hnx : (k + 1) % 4 ≠ 0 → ((4 : Int) = ((4 ^ (4 - (k + 1) % 4) : Nat) : Int)) := by
            intro _
            have e : (k + 1) % 4 = 3 := by omega
            rw [e]
            rfl
          have HN := Lib.hid hnx
          have d : ((k : Int) % 4 == 0) = false := by simp; omega
          obtain rfl : (16 : Int) = v := by rw [hv (by omega), hm]; rfl
          clear hsame hq1 hv hbs hfin hnx hb hm
          go_wp2_with fail
          go_roundw
          case rel => exact ⟨k + 1, 4, by omega, by go_num, rfl, HN.out, HF.out _ (by have := HQ.out; omega), hw.setCell (Nat.le_refl _) _⟩
          case measure => simp [intOf]; omega
        · rw [hm] at hsame
          have hq1 : q1 = q0 + xk * 1 := hsame
          have HQ := Lib.hid hq1
          have hfin : ∀ t : Int, t = (q1 : Int) → Blk (wr.setCell ⟨w.heap.size, k / 4, none⟩ (.int .u8 t)) w.heap.size 5 (bcells (rows 4 4 x (k + 1) (sz n 4))) := by
            rintro t rfl
            rw [← hbs]
            exact hb.set_ _ _
          have HF := Lib.hid hfin
          have hnx : (k + 1) % 4 ≠ 0 → ((1 : Int) = ((4 ^ (4 - (k + 1) % 4) : Nat) : Int)) := by
            intro h
            omega
          have HN := Lib.hid hnx
          have d : ((k : Int) % 4 == 0) = false := by simp; omega
          obtain rfl : (4 : Int) = v := by rw [hv (by omega), hm]; rfl
          clear hsame hq1 hv hbs hfin hnx hb hm
          go_wp2_with fail
          go_roundw
          case rel => exact ⟨k + 1, 1, by omega, by go_num, rfl, HN.out, HF.out _ (by have := HQ.out; omega), hw.setCell (Nat.le_refl _) _⟩
          case measure => simp [intOf]; omega
    · obtain rfl : k = p := by omega
      by_cases hpn : k < n
      · obtain ⟨b, off, rfl, hbl, hc⟩ := hA k hpn
        have c0 : wr.cell? ⟨b, off + k, none⟩ = some (.int .i64 (f k)) := (hw.cell (p := ⟨b, off + k, none⟩) hbl).trans hc
        have hbd := hbad hpn
        generalize f k = z at *
        rcases hbd with hz | hz
        · have d1 : decide (z < 0) = true := by simpa using hz
          clear hc hv hb hx hA hK hbad
          go_wp2_with fail
          go_ret2
          exact ⟨.inr ⟨hpn, rfl⟩, hw⟩
        · have d1 : decide (z < 0) = false := by simp; omega
          have d2 : decide ((K : Int) ≤ z) = true := by simpa using hz
          clear hc hv hb hx hA hK hbad
          go_wp2_with fail
          go_ret2
          exact ⟨.inr ⟨hpn, rfl⟩, hw⟩
      · obtain rfl : k = n := by omega
        have hcv := bcells_text wr w.heap.size (sz k L) _ hb
        rw [rows_length] at hcv
        clear hv hb hx hA hK hbad
        go_wp2_with fail
        go_ret2
        exact ⟨.inl ⟨rfl, rfl⟩, hw⟩
end Go.Proofs.Ytoigapanhbmjlaa
