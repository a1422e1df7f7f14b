/- Words and numbers as they lie in memory; a reader's place as a list; small contracts: Attr, Compare, the sizes, the document's Attr, Less, Size. No condition. -/
import Derived.Test.YthghedlgeceepaaMrPlain
import Derived.Test.YthghedlgeceepaaOct
namespace Go.Proofs.Ythghedlgeceepaa
open Go.RowKit

/-- The numbers l lie at A, in a block below B. -/
def IntsAt (w : World) (B : Nat) (A : Option Addr) (l : List Int) : Prop :=
  ∀ k, k < l.length → ∃ b off, A = some ⟨b, off, none⟩ ∧ b < B ∧ w.cell? ⟨b, off + k, none⟩ = some (.int .i64 (l.getD k 0))
def wd0 : Wd := ⟨0, 0, 0, 0⟩
/-- The words l lie at A, in a block below B. -/
def WordsAt (w : World) (B : Nat) (A : Option Addr) (l : List Wd) : Prop :=
  ∀ k, k < l.length → ∃ b off, A = some ⟨b, off, none⟩ ∧ b < B ∧ w.cell? ⟨b, off + k * 4, none⟩ = some (.int .i64 (l.getD k wd0).t) ∧ w.cell? ⟨b, off + k * 4 + 1, none⟩ = some (.int .i64 (l.getD k wd0).v) ∧
    w.cell? ⟨b, off + k * 4 + 2, none⟩ = some (.int .i64 (l.getD k wd0).e) ∧ w.cell? ⟨b, off + k * 4 + 3, none⟩ = some (.int .i64 (l.getD k wd0).b)
def Wd.val (a : Wd) : Value := .agg #[.int .i64 a.t, .int .i64 a.v, .int .i64 a.e, .int .i64 a.b]
section
variable {w w' : World} {A : Option Addr} {B : Nat} {l : List Int} {ws : List Wd}
theorem IntsAt.nums (h : IntsAt w B A l) : Nums w B A l.length (fun k => l.getD k 0) := h
theorem IntsAt.below (h : IntsAt w B A l) (hb : Below B w w') : IntsAt w' B A l := fun k hk => by
  obtain ⟨b, off, e, hl, hc⟩ := h k hk
  exact ⟨b, off, e, hl, (hb.cell (p := ⟨b, off + k, none⟩) hl).trans hc⟩
theorem IntsAt.more {B' : Nat} (h : IntsAt w B A l) (hB : B ≤ B') : IntsAt w B' A l := fun k hk => by
  obtain ⟨b, off, e, hl, hc⟩ := h k hk
  exact ⟨b, off, e, by omega, hc⟩
theorem IntsAt.nil (w : World) (B : Nat) (A : Option Addr) : IntsAt w B A [] := fun _ hk => absurd hk (Nat.not_lt_zero _)
theorem WordsAt.below (h : WordsAt w B A ws) (hb : Below B w w') : WordsAt w' B A ws := fun k hk => by
  obtain ⟨b, off, e, hl, h0, h1, h2, h3⟩ := h k hk
  exact ⟨b, off, e, hl, (hb.cell (p := ⟨b, off + k * 4, none⟩) hl).trans h0, (hb.cell (p := ⟨b, off + k * 4 + 1, none⟩) hl).trans h1, (hb.cell (p := ⟨b, off + k * 4 + 2, none⟩) hl).trans h2, (hb.cell (p := ⟨b, off + k * 4 + 3, none⟩) hl).trans h3⟩
theorem WordsAt.more {B' : Nat} (h : WordsAt w B A ws) (hB : B ≤ B') : WordsAt w B' A ws := fun k hk => by
  obtain ⟨b, off, e, hl, h0⟩ := h k hk
  exact ⟨b, off, e, by omega, h0⟩
theorem WordsAt.nil (w : World) (B : Nat) (A : Option Addr) : WordsAt w B A [] := fun _ hk => absurd hk (Nat.not_lt_zero _)
theorem IntsAt.drewN (h : IntsAt w B A l) (n : Nat) : IntsAt (w.drewN n) B A l := h
theorem WordsAt.drewN (h : WordsAt w B A ws) (n : Nat) : WordsAt (w.drewN n) B A ws := h
end

def takeO (n : Nat) : Option (List UInt8) → List UInt8
  | some l => if n ≤ l.length then l.take n else []
  | none => []
def dropO (n : Nat) : Option (List UInt8) → Option (List UInt8)
  | some l => if n ≤ l.length then some (l.drop n) else none
  | none => none
theorem rd_take {r : RdS} (hr : r.ok) {o : Option (List UInt8)} (ho : match o with | some l => r.bad = false ∧ r.s.data.toList.drop r.at_ = l | none => r.bad = true) (n : Nat) :
    (r.text n).data.toList = takeO n o ∧ (r.take n).ok ∧ (match dropO n o with | some l => (r.take n).bad = false ∧ (r.take n).s.data.toList.drop (r.take n).at_ = l | none => (r.take n).bad = true) := by
  obtain ⟨s, a, b⟩ := r
  obtain ⟨h1, h2⟩ := hr
  simp only at h1 h2 ho
  cases o with
  | none =>
    simp only at ho
    subst ho
    have hc : (RdS.mk s a true).can n = false := by simp [RdS.can]
    simp [RdS.text, RdS.take, hc, takeO, dropO, RdS.fail, RdS.ok, h1, h2]
  | some l =>
    simp only at ho
    obtain ⟨rfl, hl⟩ := ho
    have hll : l.length = s.size - a := by rw [← hl]; simp
    by_cases hn : n ≤ l.length
    · have hc : (RdS.mk s a false).can n = true := by simp [RdS.can]; omega
      simp only [RdS.text, RdS.take, hc, takeO, dropO, hn, ite_true, RdS.ok, Int.toNat_natCast]
      refine ⟨?_, ⟨by omega, h2⟩, trivial, ?_⟩
      · rw [← hl]
        simp [ByteArray.data_extract, Array.toList_extract, List.extract]
      · show s.data.toList.drop (a + n) = _
        rw [← hl, List.drop_drop]
    · have hc : (RdS.mk s a false).can n = false := by simp [RdS.can]; omega
      simp [RdS.text, RdS.take, hc, takeO, dropO, hn, RdS.fail, RdS.ok, h1, h2]

def endO : Option (List UInt8) → Int
  | some [] => 0
  | _ => 4
end Go.Proofs.Ythghedlgeceepaa
