/- Words and numbers as they lie in memory; a reader's place as a list; small contracts: Attr, Compare, the sizes, the document's Attr, Less, Size. No condition. -/
import Derived.Test.YtoigapanhbmjlaaMrPlain
import Derived.Test.YtoigapanhbmjlaaGet
namespace Go.Proofs.Ytoigapanhbmjlaa
open Go.RowKit

/-- The numbers l lie at A, in a block below B. -/
def IntsAt (w : World) (B : Nat) (A : Option Addr) (l : List Int) : Prop :=
  ∀ k, k < l.length → ∃ b off, A = some ⟨b, off, none⟩ ∧ b < B ∧ w.cell? ⟨b, off + k, none⟩ = some (.int .i64 (l.getD k 0))
def wd0 : Wd := ⟨0, 0, 0, 0⟩
/-- The words l lie at A, in a block below B. -/
def WordsAt (w : World) (B : Nat) (A : Option Addr) (l : List Wd) : Prop :=
  ∀ k, k < l.length → ∃ b off, A = some ⟨b, off, none⟩ ∧ b < B ∧ w.cell? ⟨b, off + k * 4, none⟩ = some (.int .i64 (l.getD k wd0).t) ∧ w.cell? ⟨b, off + k * 4 + 1, none⟩ = some (.int .i64 (l.getD k wd0).v) ∧
    w.cell? ⟨b, off + k * 4 + 2, none⟩ = some (.int .i64 (l.getD k wd0).e) ∧ w.cell? ⟨b, off + k * 4 + 3, none⟩ = some (.int .i64 (l.getD k wd0).b)
def Wd.val (a : Wd) : Value := .agg #[.int .i64 a.t, .int .i64 a.v, .int .i64 a.e, .int .i64 a.b]
section
variable {w w' : World} {A : Option Addr} {B : Nat} {l : List Int} {ws : List Wd}
theorem IntsAt.nums (h : IntsAt w B A l) : Nums w B A l.length (fun k => l.getD k 0) := h
theorem IntsAt.below (h : IntsAt w B A l) (hb : Below B w w') : IntsAt w' B A l := fun k hk => by
  obtain ⟨b, off, e, hl, hc⟩ := h k hk
  exact ⟨b, off, e, hl, (hb.cell (p := ⟨b, off + k, none⟩) hl).trans hc⟩
theorem IntsAt.more {B' : Nat} (h : IntsAt w B A l) (hB : B ≤ B') : IntsAt w B' A l := fun k hk => by
  obtain ⟨b, off, e, hl, hc⟩ := h k hk
  exact ⟨b, off, e, by omega, hc⟩
theorem IntsAt.nil (w : World) (B : Nat) (A : Option Addr) : IntsAt w B A [] := fun _ hk => absurd hk (Nat.not_lt_zero _)
theorem WordsAt.below (h : WordsAt w B A ws) (hb : Below B w w') : WordsAt w' B A ws := fun k hk => by
  obtain ⟨b, off, e, hl, h0, h1, h2, h3⟩ := h k hk
  exact ⟨b, off, e, hl, (hb.cell (p := ⟨b, off + k * 4, none⟩) hl).trans h0, (hb.cell (p := ⟨b, off + k * 4 + 1, none⟩) hl).trans h1, (hb.cell (p := ⟨b, off + k * 4 + 2, none⟩) hl).trans h2, (hb.cell (p := ⟨b, off + k * 4 + 3, none⟩) hl).trans h3⟩
theorem WordsAt.more {B' : Nat} (h : WordsAt w B A ws) (hB : B ≤ B') : WordsAt w B' A ws := fun k hk => by
  obtain ⟨b, off, e, hl, h0⟩ := h k hk
  exact ⟨b, off, e, by omega, h0⟩
theorem WordsAt.nil (w : World) (B : Nat) (A : Option Addr) : WordsAt w B A [] := fun _ hk => absurd hk (Nat.not_lt_zero _)
theorem IntsAt.drewN (h : IntsAt w B A l) (n : Nat) : IntsAt (w.drewN n) B A l := h
theorem WordsAt.drewN (h : WordsAt w B A ws) (n : Nat) : WordsAt (w.drewN n) B A ws := h
end

/-- Where a reader stands: before what bytes; none: it has failed. -/
def RdO (w : World) (g : Nat) (o : Option (List UInt8)) : Prop :=
  ∃ r : RdS, IsR w g r ∧ r.ok ∧ (match o with | some l => r.bad = false ∧ r.s.data.toList.drop r.at_ = l | none => r.bad = true)
def takeO (n : Nat) : Option (List UInt8) → List UInt8
  | some l => if n ≤ l.length then l.take n else []
  | none => []
def dropO (n : Nat) : Option (List UInt8) → Option (List UInt8)
  | some l => if n ≤ l.length then some (l.drop n) else none
  | none => none
theorem rd_take {r : RdS} (hr : r.ok) {o : Option (List UInt8)} (ho : match o with | some l => r.bad = false ∧ r.s.data.toList.drop r.at_ = l | none => r.bad = true) (n : Nat) :
    (r.text n).data.toList = takeO n o ∧ (r.take n).ok ∧ (match dropO n o with | some l => (r.take n).bad = false ∧ (r.take n).s.data.toList.drop (r.take n).at_ = l | none => (r.take n).bad = true) := by
  obtain ⟨s, a, b⟩ := r
  obtain ⟨h1, h2⟩ := hr
  simp only at h1 h2 ho
  cases o with
  | none =>
    simp only at ho
    subst ho
    have hc : (RdS.mk s a true).can n = false := by simp [RdS.can]
    simp [RdS.text, RdS.take, hc, takeO, dropO, RdS.fail, RdS.ok, h1, h2]
  | some l =>
    simp only at ho
    obtain ⟨rfl, hl⟩ := ho
    have hll : l.length = s.size - a := by rw [← hl]; simp
    by_cases hn : n ≤ l.length
    · have hc : (RdS.mk s a false).can n = true := by simp [RdS.can]; omega
      simp only [RdS.text, RdS.take, hc, takeO, dropO, hn, ite_true, RdS.ok, Int.toNat_natCast]
      refine ⟨?_, ⟨by omega, h2⟩, trivial, ?_⟩
      · rw [← hl]
        simp [ByteArray.data_extract, Array.toList_extract, List.extract]
      · show s.data.toList.drop (a + n) = _
        rw [← hl, List.drop_drop]
    · have hc : (RdS.mk s a false).can n = false := by simp [RdS.can]; omega
      simp [RdS.text, RdS.take, hc, takeO, dropO, hn, RdS.fail, RdS.ok, h1, h2]

theorem rget (g : Nat) (o : Option (List UInt8)) (n : Nat) (w : World) (h : RdO w g o) (h1 : 1 ≤ n) (h7 : n ≤ 7) :
    Calls Try.prog 33 #[.pointer (some ⟨g, 0, none⟩), .int .i64 n] w fun e w' => e = .returned (.int .i64 (num (takeO n o))) ∧ RdO w' g (dropO n o) ∧ Touch (· = g) w w' := by
  obtain ⟨r, hr, hok, ho⟩ := h
  have hn : near n 7 = n := by rw [near_is]; omega
  refine (get_any g r n w hr hok).mono ?_
  rintro e w' ⟨rfl, hi, ht⟩
  rw [hn] at hi ⊢
  obtain ⟨e1, e2, e3⟩ := rd_take hok ho n
  rw [e1]
  exact ⟨rfl, ⟨_, hi, e2, e3⟩, ht⟩
theorem rraw (g : Nat) (o : Option (List UInt8)) (n : Nat) (w : World) (h : RdO w g o) (hn : n ≤ 1048576) :
    Calls Try.prog 60 #[.pointer (some ⟨g, 0, none⟩), .int .i64 n] w fun e w' => e = .returned (.string (str (takeO n o))) ∧ RdO w' g (dropO n o) ∧ Touch (· = g) w w' := by
  obtain ⟨r, hr, hok, ho⟩ := h
  refine (raw_any g r n w hr hok (by omega)).mono ?_
  rintro e w' ⟨rfl, hi, ht⟩
  obtain ⟨e1, e2, e3⟩ := rd_take hok ho n
  rw [← e1, str_of]
  exact ⟨rfl, ⟨_, hi, e2, e3⟩, ht⟩
theorem rfault_some (g : Nat) (l : List UInt8) (w : World) (h : RdO w g (some l)) :
    Calls Try.prog 34 #[.pointer (some ⟨g, 0, none⟩)] w fun e w' => e = .returned (.int .i64 (-1)) ∧ w = w' := by
  obtain ⟨r, hr, hok, ho⟩ := h
  refine (fault_any g r w hr).mono ?_
  rintro e w' ⟨rfl, rfl⟩
  simp [ho.1]
theorem rfault_none (g : Nat) (w : World) (h : RdO w g none) :
    Calls Try.prog 34 #[.pointer (some ⟨g, 0, none⟩)] w fun e w' => ∃ n : Nat, e = .returned (.int .i64 (n : Int)) ∧ w = w' := by
  obtain ⟨r, hr, hok, ho⟩ := h
  refine (fault_any g r w hr).mono ?_
  rintro e w' ⟨rfl, rfl⟩
  simp only at ho
  exact ⟨r.at_, by simp [ho], rfl⟩
def endO : Option (List UInt8) → Int
  | some [] => 0
  | _ => 4
theorem rend (g : Nat) (o : Option (List UInt8)) (w : World) (h : RdO w g o) :
    Calls Try.prog 35 #[.pointer (some ⟨g, 0, none⟩)] w fun e w' => e = .returned (.int .i64 (endO o)) ∧ ∃ n, w' = w.drewN n := by
  obtain ⟨r, hr, hok, ho⟩ := h
  refine (end_any g r w hr hok).mono ?_
  rintro e w' ⟨rfl, hn⟩
  refine ⟨?_, hn⟩
  have : r.end_ = endO o := by
    cases o with
    | none => simp only at ho; simp [RdS.end_, ho, endO]
    | some l =>
      simp only at ho
      have hll : l.length = r.s.size - r.at_ := by rw [← ho.2]; simp
      cases l with
      | nil =>
        have : ¬ r.at_ < r.s.size := by simp only [List.length_nil] at hll; omega
        simp [RdS.end_, ho.1, endO, this]
      | cons c l =>
        have : r.at_ < r.s.size := by simp only [List.length_cons] at hll; omega
        simp [RdS.end_, endO, this]
  rw [this]
theorem RdO.touch {w w' : World} {p : Nat → Prop} {g : Nat} {o : Option (List UInt8)} (h : RdO w g o) (ht : Touch p w w') (hp : ¬ p g) : RdO w' g o := by
  obtain ⟨r, hr, h2⟩ := h
  exact ⟨r, hr.touch ht hp, h2⟩
theorem RdO.below {w w' : World} {B g : Nat} {o : Option (List UInt8)} (h : RdO w g o) (ht : Below B w w') (hp : g < B) : RdO w' g o := by
  obtain ⟨r, hr, h2⟩ := h
  exact ⟨r, Blk.below hr ht hp, h2⟩
theorem RdO.alloc {w : World} {g : Nat} {o : Option (List UInt8)} (h : RdO w g o) (b : Obj) : RdO (w.alloc b) g o := by
  obtain ⟨r, hr, h2⟩ := h
  exact ⟨r, Blk.alloc hr b, h2⟩
theorem RdO.drewN {w : World} {g : Nat} {o : Option (List UInt8)} (h : RdO w g o) (n : Nat) : RdO (w.drewN n) g o := h
theorem RdO.far {w : World} {g : Nat} {o : Option (List UInt8)} (h : RdO w g o) {a : Addr} (ha : g ≠ a.block) (u : Value) : RdO (w.setCell a u) g o := by
  obtain ⟨r, hr, h2⟩ := h
  exact ⟨r, Blk.far hr ha u, h2⟩
theorem RdO.lt {w : World} {g : Nat} {o : Option (List UInt8)} (h : RdO w g o) : g < w.heap.size := by
  obtain ⟨r, hr, _⟩ := h
  exact Blk.lt hr
end Go.Proofs.Ytoigapanhbmjlaa
