/- What bridges hold before the first tick: plain theory for the world in which all begins. No program's call, no condition but those that are said. -/
import Derived.Test.YtadejdhdkkfliaaTset
import Derived.Test.YtadejdhdkkfliaaTsys
namespace Go.Proofs.Ytadejdhdkkfliaa
set_option maxRecDepth 100000

/-- Links, each way round, that are set so far: D. -/
structure WldP (n : Nat) (ids : Nat → Int) (D : Dl → Prop) (B : Nat → Nat → Pt) : Prop where
  ok : ∀ x, x < n → POk 0 6 (B x)
  role : ∀ x i, x < n → i < 6 → (B x i).role = roleP (ids x) 6 (B x) i
  up : ∀ x i, x < n → i < 6 → ((B x i).up = true ↔ ∃ d, D d ∧ d.v = x ∧ d.pv = (i : Int))
  way : ∀ d, D d → d.v < n ∧ 0 ≤ d.pv ∧ d.pv ≤ 5 ∧ (B d.v d.pv.toNat).way = d.cv
  info : ∀ x i, x < n → i < 6 → (B x i).none = false → GoodM (B x i).vec (B x i).age ∧ (B x i).at_ = 0
section
variable {n : Nat} {ids : Nat → Int} {D : Dl → Prop} {B : Nat → Nat → Pt}
theorem WldP.start {p : Pt} (hp : p.up = false ∧ p.none = true ∧ p.role = 0) (hok : POk 0 6 (fun _ => p)) : WldP n ids (fun _ => False) (fun _ _ => p) where
  ok _ _ := hok
  role x i _ _ := by
    show p.role = roleP (ids x) 6 (fun _ => p) i
    unfold roleP
    rw [if_neg (show ¬ p.up = true by rw [hp.1]; decide), hp.2.2]
  up x i _ _ := ⟨fun h => (by rw [hp.1] at h; cases h), fun ⟨_, h, _⟩ => h.elim⟩
  way _ h := h.elim
  info x i _ _ h := by rw [hp.2.1] at h; cases h
/-- A link's end is set. -/
theorem WldP.set (h : WldP n ids D B) {d : Dl} (hd : DlOk n d) (hfree : ∀ e, D e → ¬ (e.v = d.v ∧ e.pv = d.pv)) : WldP n ids (fun e => D e ∨ e = d) (updB B d.v (setP (ids d.v) 6 0 (B d.v) d.pv.toNat true d.cv)) := by
  have hpv : (d.pv.toNat : Int) = d.pv ∧ d.pv.toNat < 6 := by have := hd.pv; omega
  have hu : ∀ i, (setP (ids d.v) 6 0 (B d.v) d.pv.toNat true d.cv i).up = (if i = d.pv.toNat then true else (B d.v i).up) ∧ (setP (ids d.v) 6 0 (B d.v) d.pv.toNat true d.cv i).way = (if i = d.pv.toNat then d.cv else (B d.v i).way) := fun i => by
    have ha := anew_up (ids d.v) 6 0 (updP (B d.v) d.pv.toNat (setPt (B d.v d.pv.toNat) true d.cv)) i
    unfold setP
    rw [ha.1, ha.2.1]
    unfold updP
    by_cases e : i = d.pv.toNat
    · rw [if_pos e, if_pos e, if_pos e]; exact ⟨rfl, rfl⟩
    · rw [if_neg e, if_neg e, if_neg e]; exact ⟨rfl, rfl⟩
  refine ⟨fun x hx => ?_, fun x i hx hi => ?_, fun x i hx hi => ?_, fun e he => ?_, fun x i hx hi => ?_⟩
  · by_cases e : x = d.v
    · subst e
      rw [updB_at]
      exact (h.ok _ hx).setP _ (by decide) hpv.2 true (by have := hd.cost; omega) (by have := hd.cost; omega)
    · rw [updB_ne B _ e]; exact h.ok x hx
  · by_cases e : x = d.v
    · subst e
      rw [updB_at]
      exact anew_role _ 6 0 _ i hi
    · rw [updB_ne B _ e]; exact h.role x i hx hi
  · by_cases e : x = d.v
    · subst e
      rw [updB_at, (hu i).1]
      by_cases e2 : i = d.pv.toNat
      · rw [if_pos e2]
        exact ⟨fun _ => ⟨d, .inr rfl, rfl, by omega⟩, fun _ => rfl⟩
      · rw [if_neg e2, h.up _ i hx hi]
        refine ⟨fun ⟨d', k, k1, k2⟩ => ⟨d', .inl k, k1, k2⟩, fun ⟨d', k, k1, k2⟩ => ?_⟩
        rcases k with k | rfl
        · exact ⟨d', k, k1, k2⟩
        · omega
    · rw [updB_ne B _ e, h.up x i hx hi]
      refine ⟨fun ⟨d', k, k1, k2⟩ => ⟨d', .inl k, k1, k2⟩, fun ⟨d', k, k1, k2⟩ => ?_⟩
      rcases k with k | rfl
      · exact ⟨d', k, k1, k2⟩
      · exact absurd k1.symm e
  · rcases he with he | rfl
    · obtain ⟨h1, h2, h3, h4⟩ := h.way e he
      refine ⟨h1, h2, h3, ?_⟩
      by_cases e1 : e.v = d.v
      · rw [e1, updB_at, (hu _).2, if_neg (fun k => hfree e he ⟨e1, by omega⟩), ← e1]
        exact h4
      · rw [updB_ne B _ e1]; exact h4
    · exact ⟨hd.v, hd.pv.1, hd.pv.2, by rw [updB_at, (hu _).2, if_pos rfl]⟩
  · by_cases e : x = d.v
    · subst e
      rw [updB_at]
      unfold setP
      have ha := anew_up (ids d.v) 6 0 (updP (B d.v) d.pv.toNat (setPt (B d.v d.pv.toNat) true d.cv)) i
      rw [ha.2.2.1, ha.2.2.2.1, ha.2.2.2.2.1, ha.2.2.2.2.2]
      unfold updP
      by_cases e2 : i = d.pv.toNat
      · rw [if_pos e2]
        unfold setPt
        by_cases e3 : (B d.v d.pv.toNat).up = true
        · rw [if_pos e3]
          exact h.info _ _ hx hpv.2
        · rw [if_neg e3]
          intro k
          cases k
      · rw [if_neg e2]
        exact h.info _ _ hx hi
    · rw [updB_ne B _ e]; exact h.info x i hx hi
/-- A message is heard ahead. -/
theorem WldP.hear (h : WldP n ids D B) {x i : Nat} (hx : x < n) (hi : i < 6) (hup : (B x i).up = true) {v : Vec} {a : Int} (hg : GoodM v a) (hv : v.ok) (ha : In64 a) : WldP n ids D (updB B x (hearP (ids x) 6 0 (B x) i v a)) := by
  have hu : ∀ j, (hearP (ids x) 6 0 (B x) i v a j).up = (B x j).up ∧ (hearP (ids x) 6 0 (B x) i v a j).way = (B x j).way := fun j => by
    have ha := anew_up (ids x) 6 0 (updP (B x) i (gotP (B x i) v a 0)) j
    unfold hearP
    rw [ha.1, ha.2.1]
    unfold updP
    by_cases e : j = i
    · subst e; rw [if_pos rfl]; exact ⟨rfl, rfl⟩
    · rw [if_neg e]; exact ⟨rfl, rfl⟩
  refine ⟨fun y hy => ?_, fun y j hy hj => ?_, fun y j hy hj => ?_, fun e he => ?_, fun y j hy hj => ?_⟩
  · by_cases e : y = x
    · subst e
      rw [updB_at]
      exact (h.ok _ hy).hearP _ (by decide) hi hv ha hup
    · rw [updB_ne B _ e]; exact h.ok y hy
  · by_cases e : y = x
    · subst e
      rw [updB_at]
      exact anew_role _ 6 0 _ j hj
    · rw [updB_ne B _ e]; exact h.role y j hy hj
  · by_cases e : y = x
    · subst e
      rw [updB_at, (hu j).1]
      exact h.up _ j hy hj
    · rw [updB_ne B _ e]; exact h.up y j hy hj
  · obtain ⟨h1, h2, h3, h4⟩ := h.way e he
    refine ⟨h1, h2, h3, ?_⟩
    by_cases e1 : e.v = x
    · rw [e1, updB_at, (hu _).2, ← e1]; exact h4
    · rw [updB_ne B _ e1]; exact h4
  · by_cases e : y = x
    · subst e
      rw [updB_at]
      unfold hearP
      have hb := anew_up (ids y) 6 0 (updP (B y) i (gotP (B y i) v a 0)) j
      rw [hb.2.2.1, hb.2.2.2.1, hb.2.2.2.2.1, hb.2.2.2.2.2]
      unfold updP
      by_cases e2 : j = i
      · rw [if_pos e2]
        exact fun _ => ⟨hg, rfl⟩
      · rw [if_neg e2]
        exact h.info _ _ hy hj
    · rw [updB_ne B _ e]; exact h.info y j hy hj
/-- All begins. -/
theorem WldP.sys {L : List Lk} (h : WldP n ids (fun d => d ∈ dirs L) B) : Sys n ids L 1 (fun _ => False) B [] :=
  sys_start h.up (fun d hd => (h.way d hd).2.2.2) h.role fun d hd hn => by
    obtain ⟨h1, h2, h3, _⟩ := h.way d hd
    exact h.info _ _ h1 (by omega) hn
end
end Go.Proofs.Ytadejdhdkkfliaa
