/- Steps that are played, and what stays true of a bridge's part: plain lemmas and contracts for whatever step comes. Their conditions: up to six ports, ticks up to 2^40. -/
import Derived.Test.YtadejdhdkkfliaaTsteps
namespace Go.Proofs.Ytadejdhdkkfliaa
open Go.RowKit
set_option maxRecDepth 100000

theorem name_in {a : Int} (h : nameB a = true) : 0 < a ∧ a < 4503599627370496 := by
  unfold nameB at h
  have := of_decide_eq_true h
  omega
/-- What is said comes from a designated port. -/
theorem said_mem (id : Int) (m : Nat) (f : Nat → Pt) (ch now : Int) (j : Nat) : ∀ s ∈ saidTo id m f ch now j, ∃ i, i < j ∧ (f i).role = 2 ∧ s = saidOf id m f ch now i := by
  induction j with
  | zero => intro s hs; cases hs
  | succ j ih =>
    intro s hs
    unfold saidTo at hs
    by_cases h : (f j).role = 2
    · rw [if_pos h] at hs
      rcases List.mem_append.1 hs with hs | hs
      · obtain ⟨i, hi, h1, h2⟩ := ih s hs
        exact ⟨i, by omega, h1, h2⟩
      · obtain rfl : s = _ := by simpa using hs
        exact ⟨j, Nat.lt_succ_self j, h, rfl⟩
    · rw [if_neg h] at hs
      obtain ⟨i, hi, h1, h2⟩ := ih s hs
      exact ⟨i, by omega, h1, h2⟩
theorem says_mem {id : Int} {m : Nat} {f : Nat → Pt} {ch now : Int} {k : Nat} (hk : k < (saysN id m f ch now).length) : ∃ i, i < m ∧ (f i).role = 2 ∧ (saysN id m f ch now).getD k sd0 = saidOf id m f ch now i := by
  have hm : (saysN id m f ch now).getD k sd0 ∈ saysN id m f ch now := by
    rw [List.getD_eq_getElem?_getD, List.getElem?_eq_getElem hk]
    exact List.getElem_mem hk
  unfold saysN at hm hk ⊢
  by_cases h : now % 2 = 0
  · rw [if_pos h] at hm ⊢
    exact said_mem _ _ _ _ _ _ _ hm
  · rw [if_neg h] at hk
    exact absurd hk (Nat.not_lt_zero _)
theorem says_len (id : Int) (m : Nat) (f : Nat → Pt) (ch now : Int) : (saysN id m f ch now).length ≤ m := by
  unfold saysN
  split
  · exact said_len _ _ _ _ _ _
  · exact Nat.zero_le _
/-- A message that can be, in two spellings. -/
theorem good_iff (b : Bp) : b.takes ↔ GoodM b.vec b.age ∧ b.role = 2 := by
  unfold Bp.takes Bp.good vecB costB portB ageB roleB GoodM Bp.vec
  simp only [Bool.and_eq_true, decide_eq_true_eq]
  constructor
  · rintro ⟨⟨⟨⟨⟨⟨h1, h2⟩, h3, h4⟩, h5, h6⟩, h7, h8⟩, _⟩, h9⟩
    exact ⟨⟨h1, h2, h3, by omega, h5, h6, h7, h8⟩, h9⟩
  · rintro ⟨⟨h1, h2, h3, h4, h5, h6, h7, h8⟩, h9⟩
    exact ⟨⟨⟨⟨⟨⟨h1, h2⟩, h3, by omega⟩, h5, h6⟩, h7, h8⟩, by omega⟩, h9⟩
section
variable {w : World} {g gp m : Nat} {f : Nat → Pt} {fw : Nat → Bool} {id ch : Int}
/-- Whatever is set. -/
theorem tset_f (h : TreeW w g gp id m f fw ch) (hm : m ≤ 6) {T : Int} (hok : POk T m f) (i : Int) (up : Bool) (cost : Int) :
    Calls Try.prog 12 #[.pointer (some ⟨g, 0, none⟩), .int .i64 i, .bool up, .int .i64 cost, .int .i64 T] w fun e w' => ∃ f' r, e = .returned (.int .i64 r) ∧ TreeW w' g gp id m f' fw ch ∧ Touch (fun k => k = g ∨ k = gp) w w' ∧
      (if (0 ≤ i ∧ i < m) ∧ 1 ≤ cost ∧ cost ≤ 16777216 then r = 0 ∧ f' = setP id m T f i.toNat up cost else r = 1 ∧ f' = f) := by
  by_cases hc : (0 ≤ i ∧ i < m) ∧ 1 ≤ cost ∧ cost ≤ 16777216
  · obtain ⟨⟨i0, i1⟩, c0, c1⟩ := hc
    obtain ⟨k, rfl⟩ : ∃ k : Nat, i = k := ⟨i.toNat, by omega⟩
    refine (tset_ok h hm hok k (by omega) up cost c0 c1).mono ?_
    rintro e w' ⟨rfl, h1, h2⟩
    refine ⟨_, 0, rfl, h1, h2, ?_⟩
    rw [if_pos ⟨⟨i0, i1⟩, c0, c1⟩, Int.toNat_natCast]
    exact ⟨rfl, rfl⟩
  · refine (tset_bad h i up cost T hc).mono ?_
    rintro e w' ⟨rfl, rfl⟩
    refine ⟨f, 1, rfl, h, Touch.refl _ _, ?_⟩
    rw [if_neg hc]
    exact ⟨rfl, rfl⟩
structure Bp.ok (b : Bp) : Prop where
  root : In64 b.root
  cost : In64 b.cost
  bridge : In64 b.bridge
  port : In64 b.port
  age : In64 b.age
  role : In64 b.role
/-- Whatever is heard. -/
theorem thear_f (h : TreeW w g gp id m f fw ch) (hm : m ≤ 6) {T : Int} (hok : POk T m f) (h0 : 0 ≤ T) (i : Int) (b : Bp) (hb : b.int) (hbo : b.ok) :
    Calls Try.prog 13 #[.pointer (some ⟨g, 0, none⟩), .int .i64 i, b.v, .int .i64 T] w fun e w' => ∃ f' r, e = .returned (.int .i64 r) ∧ TreeW w' g gp id m f' fw ch ∧ Touch (fun k => k = g ∨ k = gp) w w' ∧
      (if (0 ≤ i ∧ i < m) ∧ b.takes then (if (f i.toNat).up = true then r = 0 ∧ f' = hearP id m T f i.toNat b.vec b.age else r = 7 ∧ f' = f) else r = 1 ∧ f' = f) := by
  by_cases hc : (0 ≤ i ∧ i < m) ∧ b.takes
  · obtain ⟨⟨i0, i1⟩, ht⟩ := hc
    obtain ⟨k, rfl⟩ : ∃ k : Nat, i = k := ⟨i.toNat, by omega⟩
    by_cases hu : (f k).up = true
    · refine (thear_ok h hm hok h0 k (by omega) b hb ⟨hbo.root, hbo.cost, hbo.bridge, hbo.port⟩ hbo.age ht hu).mono ?_
      rintro e w' ⟨rfl, h1, h2⟩
      refine ⟨_, 0, rfl, h1, h2, ?_⟩
      rw [if_pos ⟨⟨i0, i1⟩, ht⟩, Int.toNat_natCast, if_pos hu]
      exact ⟨rfl, rfl⟩
    · refine (thear_down h k (by omega) b hb T ht (by cases hx : (f k).up <;> simp_all)).mono ?_
      rintro e w' ⟨rfl, hb'⟩
      refine ⟨f, 7, rfl, h.below hb', (Below.touch hb').mono fun q hq hq' => by omega, ?_⟩
      rw [if_pos ⟨⟨i0, i1⟩, ht⟩, Int.toNat_natCast, if_neg hu]
      exact ⟨rfl, rfl⟩
  · refine (thear_bad h i b hb T hc).mono ?_
    rintro e w' ⟨rfl, hb'⟩
    refine ⟨f, 1, rfl, h.below hb', (Below.touch hb').mono fun q hq hq' => by omega, ?_⟩
    rw [if_neg hc]
    exact ⟨rfl, rfl⟩
end
theorem below_touch {w0 w w' : World} {g gp : Nat} (hb : Below w0.heap.size w0 w) (ht : Touch (fun k => k = g ∨ k = gp) w w') (hg : w0.heap.size ≤ g ∧ w0.heap.size ≤ gp) : Below w0.heap.size w0 w' :=
  ⟨ht.os.trans hb.os, ht.tape.trans hb.tape, ht.output.trans hb.output, Nat.le_trans hb.size ht.size, fun k hk => (ht.block k (Nat.lt_of_lt_of_le hk hb.size) (by omega)).trans (hb.block k hk)⟩
theorem vec_field0 (a b c d : Int) (w : World) : (Instr.field 32 (.agg #[.int .i64 a, .int .i64 b, .int .i64 c, .int .i64 d]) 0).run Try.prog w = .ok (.int .i64 a) w := by kernel_rfl
theorem vec_field1 (a b c d : Int) (w : World) : (Instr.field 32 (.agg #[.int .i64 a, .int .i64 b, .int .i64 c, .int .i64 d]) 1).run Try.prog w = .ok (.int .i64 b) w := by kernel_rfl
/-- What was heard can be, and is cheap. -/
def SaysOk (m : Nat) (f : Nat → Pt) : Prop := ∀ i, i < m → (f i).none = false → GoodM (f i).vec (f i).age ∧ (f i).vec.cost ≤ 1048576
theorem SaysOk.anew {m : Nat} {f : Nat → Pt} (h : SaysOk m f) (id T : Int) : SaysOk m (anewP id m T f) := fun i hi hn => by
  obtain ⟨_, _, e3, e4, e5, _⟩ := anew_up id m T f i
  rw [e4, e5]
  exact h i hi (e3 ▸ hn)
theorem SaysOk.setP {m : Nat} {f : Nat → Pt} (h : SaysOk m f) (id T : Int) (j : Nat) (up : Bool) (way : Int) : SaysOk m (setP id m T f j up way) := by
  refine SaysOk.anew (fun i hi hn => ?_) id T
  unfold updP at hn ⊢
  by_cases e : i = j
  · subst e
    rw [if_pos rfl] at hn ⊢
    unfold setPt at hn ⊢
    by_cases hu : (f i).up = up
    · rw [if_pos hu] at hn ⊢
      exact h i hi hn
    · rw [if_neg hu] at hn
      cases hn
  · rw [if_neg e] at hn ⊢
    exact h i hi hn
theorem SaysOk.hearP {m : Nat} {f : Nat → Pt} (h : SaysOk m f) (id T : Int) (j : Nat) {v : Vec} {a : Int} (hg : GoodM v a) (hc : v.cost ≤ 1048576) : SaysOk m (hearP id m T f j v a) := by
  refine SaysOk.anew (fun i hi hn => ?_) id T
  unfold updP at hn ⊢
  by_cases e : i = j
  · rw [if_pos e]
    exact ⟨hg, hc⟩
  · rw [if_neg e] at hn ⊢
    exact h i hi hn
theorem SaysOk.tickP {m : Nat} {f : Nat → Pt} (h : SaysOk m f) (id T : Int) : SaysOk m (tickP id m T f) := by
  refine SaysOk.anew (fun i hi hn => ?_) id T
  unfold oldP at hn ⊢
  by_cases e : 14 < T - (f i).at_
  · rw [if_pos e] at hn
    cases hn
  · rw [if_neg e] at hn ⊢
    exact h i hi hn
theorem SaysOk.new (m : Nat) : SaysOk m (fun _ => ptN) := fun _ _ h => by cases h
theorem ptN_okm (m : Nat) : POk 0 m (fun _ => ptN) := fun _ _ => ptN_ok 0 (by decide)
/-- A message said can be. -/
theorem said_takes {id : Int} {m : Nat} {f : Nat → Pt} (hid : nameB id = true) (hs : SaysOk m f) {T : Int} (hok : POk T m f) (hm : m ≤ 6) (ch now : Int) {i : Nat} (hi : i < m) : (saidOf id m f ch now i).b.good = true := by
  have h := said_good hid hs (fun i hi => (hok i hi).way) (i := i) (by omega) (by omega)
  exact ((good_iff (saidOf id m f ch now i).b).2 ⟨h, rfl⟩).1
theorem set_keep {m : Nat} {f f' : Nat → Pt} {id T i cost r : Int} {up : Bool} (h : if (0 ≤ i ∧ i < m) ∧ 1 ≤ cost ∧ cost ≤ 16777216 then r = 0 ∧ f' = setP id m T f i.toNat up cost else r = 1 ∧ f' = f) (h0 : 0 ≤ T) (h1 : POk T m f) (h2 : SaysOk m f) : POk T m f' ∧ SaysOk m f' := by
  split at h
  · rename_i hc
    obtain ⟨_, rfl⟩ := h
    exact ⟨h1.setP id h0 (by omega) up (by omega) hc.2.2, h2.setP id T _ up cost⟩
  · obtain ⟨_, rfl⟩ := h
    exact ⟨h1, h2⟩
theorem hear_keep {m : Nat} {f f' : Nat → Pt} {id T i r : Int} {b : Bp} (h : if (0 ≤ i ∧ i < m) ∧ b.takes then (if (f i.toNat).up = true then r = 0 ∧ f' = hearP id m T f i.toNat b.vec b.age else r = 7 ∧ f' = f) else r = 1 ∧ f' = f) (hb : b.ok) (hc : b.cost ≤ 1048576) (h0 : 0 ≤ T) (h1 : POk T m f) (h2 : SaysOk m f) : POk T m f' ∧ SaysOk m f' := by
  split at h
  · rename_i ht
    split at h
    · rename_i hu
      obtain ⟨_, rfl⟩ := h
      exact ⟨h1.hearP id h0 (by omega) ⟨hb.root, hb.cost, hb.bridge, hb.port⟩ hb.age hu, h2.hearP id T _ ((good_iff b).1 ht.2).1 hc⟩
    · obtain ⟨_, rfl⟩ := h
      exact ⟨h1, h2⟩
  · obtain ⟨_, rfl⟩ := h
    exact ⟨h1, h2⟩
end Go.Proofs.Ytadejdhdkkfliaa
