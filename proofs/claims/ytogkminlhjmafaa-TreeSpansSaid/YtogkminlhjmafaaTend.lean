/- What a bridge says can be, and what is left of what it heard when it hears nothing more: plain theory. No program's call, no condition but those that are said. -/
import Derived.Test.YtogkminlhjmafaaTinv
namespace Go.Proofs.Ytogkminlhjmafaa
section
variable {m : Nat} {id : Int} {f : Nat → Pt}

theorem best_low (id : Int) (m : Nat) (f : Nat → Pt) : (bestP id m f).1.root ≤ id ∧ ((bestP id m f).2 < 0 ↔ (bestP id m f).1.root = id) := by
  obtain ⟨h | h, _⟩ := bestP_spec id m f
  · rw [h.1]
    exact ⟨Int.le_refl _, ⟨fun _ => rfl, fun _ => by show (-1 : Int) < 0; decide⟩⟩
  · obtain ⟨k, _, e, hc⟩ := h
    rw [e]
    have h1 : (hdOf (f k)).root < id := hc.2
    have h2 : (thr (hdOf (f k))).root = (hdOf (f k)).root := rfl
    simp only
    rw [h2]
    exact ⟨by omega, ⟨fun h => by omega, fun h => by omega⟩⟩
theorem age_low (id : Int) (m : Nat) (f : Nat → Pt) : 0 ≤ ageP id m f ∧ ageP id m f ≤ 10 ∧ (ageP id m f = 0 ↔ (bestP id m f).1.root = id) := by
  have hb := best_low id m f
  obtain ⟨h | h, _⟩ := bestP_spec id m f
  · rw [h.1] at hb
    unfold ageP
    rw [h.1]
    have h2 : ((-1 : Int) < 0) := by decide
    rw [if_pos h2]
    exact ⟨Int.le_refl _, by decide, ⟨fun _ => hb.2.1 h2, fun _ => rfl⟩⟩
  · obtain ⟨k, hk, e, hc⟩ := h
    obtain ⟨h1, _, h3, h4⟩ := use_pt hc.1
    rw [e] at hb
    unfold ageP
    rw [e]
    simp only at hb ⊢
    have h5 : ¬ ((k : Int) < 0) := by omega
    rw [if_neg h5, Int.toNat_natCast]
    refine ⟨by omega, by omega, ⟨fun h => by omega, fun h => absurd (hb.2.2 h) h5⟩⟩
/-- What is said can be. -/
theorem said_good (hid : nameB id = true) (hf : ∀ i, i < m → (f i).none = false → GoodM (f i).vec (f i).age ∧ (f i).vec.cost ≤ 1048576) (hw : ∀ i, i < m → 0 ≤ (f i).way ∧ (f i).way ≤ 16777216) {i : Int} (h0 : 0 ≤ i) (h5 : i ≤ 5) :
    GoodM (offerV (bestP id m f).1 id i) (ageP id m f) := by
  obtain ⟨a1, a2, _⟩ := age_low id m f
  obtain ⟨h | h, _⟩ := bestP_spec id m f
  · rw [h.1]
    exact ⟨hid, hid, by show (0 : Int) ≤ 0; decide, by show (0 : Int) < 2147483648; decide, h0, h5, a1, a2⟩
  · obtain ⟨k, hk, e, hc⟩ := h
    obtain ⟨h1, _⟩ := use_pt hc.1
    obtain ⟨hg, hc'⟩ := hf k hk h1
    have hwk := hw k hk
    rw [e]
    have hcost : (thr (hdOf (f k))).cost = (f k).vec.cost + (f k).way := sum_plain hg.2.2.1 hg.2.2.2.1 hwk.1 hwk.2
    refine ⟨hg.1, hid, ?_, ?_, h0, h5, a1, a2⟩
    · show 0 ≤ (thr (hdOf (f k))).cost
      rw [hcost]; have := hg.2.2.1; omega
    · show (thr (hdOf (f k))).cost < 2147483648
      rw [hcost]; omega

/- Ticks in which nothing is heard. -/
/-- k ticks behind t0 in which nothing was heard. -/
structure Lone (m : Nat) (id t0 : Int) (k : Nat) (up : Nat → Bool) (f : Nat → Pt) : Prop where
  up : ∀ i, i < m → (f i).up = up i
  at_ : ∀ i, i < m → (f i).at_ ≤ t0
  role : ∀ i, i < m → (f i).role = roleP id m f i
  since : ∀ i, i < m → (f i).since ≤ t0 + k
  gone : 15 ≤ k → ∀ i, i < m → (f i).none = true ∧ (f i).since ≤ t0 + 15
theorem none_best (h : ∀ i, i < m → (f i).none = true) : bestP id m f = (ownV id, -1) := by
  obtain ⟨h' | h', _⟩ := bestP_spec id m f
  · exact h'.1
  · obtain ⟨k, hk, _, hc⟩ := h'
    have := (use_pt hc.1).1
    rw [h k hk] at this
    cases this
theorem none_role (h : ∀ i, i < m → (f i).none = true) {i : Nat} (hi : i < m) : roleP id m f i = if (f i).up = true then 2 else 0 := by
  by_cases hu : (f i).up = true
  · rw [roleP_up hi hu, if_pos hu, none_best h, if_neg (show ¬ ((i : Int) = -1) by omega)]
    unfold roleO
    refine if_neg fun c => ?_
    have := (use_pt c.1).1
    rw [h i hi] at this
    cases this
  · unfold roleP
    rw [if_neg hu, if_neg hu]
theorem Lone.next {t0 : Int} {k : Nat} {up : Nat → Bool} (h : Lone m id t0 k up f) : Lone m id t0 (k + 1) up (tickP id m (t0 + ((k + 1 : Nat) : Int)) f) := by
  have hd : ∀ i, (tickP id m (t0 + ((k + 1 : Nat) : Int)) f i).up = (f i).up ∧ (tickP id m (t0 + ((k + 1 : Nat) : Int)) f i).at_ = (f i).at_ ∧ (tickP id m (t0 + ((k + 1 : Nat) : Int)) f i).none = (oldP (t0 + ((k + 1 : Nat) : Int)) f i).none := fun i => by
    unfold tickP
    obtain ⟨u1, _, u3, _, _, u6⟩ := anew_up id m (t0 + ((k + 1 : Nat) : Int)) (oldP (t0 + ((k + 1 : Nat) : Int)) f) i
    rw [u1, u3, u6]
    unfold oldP
    split <;> exact ⟨rfl, rfl, rfl⟩
  have hold : ∀ i, (oldP (t0 + ((k + 1 : Nat) : Int)) f i).since = (f i).since ∧ (oldP (t0 + ((k + 1 : Nat) : Int)) f i).role = (f i).role ∧ (oldP (t0 + ((k + 1 : Nat) : Int)) f i).up = (f i).up := fun i => by
    unfold oldP
    split <;> exact ⟨rfl, rfl, rfl⟩
  refine ⟨fun i hi => (hd i).1.trans (h.up i hi), fun i hi => by rw [(hd i).2.1]; exact h.at_ i hi, fun i hi => anew_role _ _ _ _ _ hi, fun i hi => ?_, fun hk i hi => ?_⟩
  · have := h.since i hi
    rcases anew_since id m (t0 + ((k + 1 : Nat) : Int)) (oldP (t0 + ((k + 1 : Nat) : Int)) f) i with e | e
    · show (anewP _ _ _ _ i).since ≤ _
      omega
    · show (anewP _ _ _ _ i).since ≤ _
      rw [e, (hold i).1]
      omega
  · have hnone : ∀ i, i < m → (oldP (t0 + ((k + 1 : Nat) : Int)) f i).none = true := fun i hi => by
      have := h.at_ i hi
      unfold oldP
      rw [if_pos (by omega)]
      rfl
    refine ⟨by rw [(hd i).2.2]; exact hnone i hi, ?_⟩
    have hs := h.since i hi
    rcases anew_since id m (t0 + ((k + 1 : Nat) : Int)) (oldP (t0 + ((k + 1 : Nat) : Int)) f) i with e | e
    · by_cases h15 : k + 1 = 15
      · show (anewP _ _ _ _ i).since ≤ _
        rw [e, h15]
        exact Int.le_refl _
      · have hg := h.gone (by omega)
        have hr : roleP id m (oldP (t0 + ((k + 1 : Nat) : Int)) f) i = (oldP (t0 + ((k + 1 : Nat) : Int)) f i).role := by
          rw [(hold i).2.1, h.role i hi, none_role hnone hi, none_role (fun i hi => (hg i hi).1) hi, (hold i).2.2]
        show (anewP _ _ _ _ i).since ≤ _
        rw [anew_stays _ _ _ _ _ hr, (hold i).1]
        exact (hg i hi).2
    · show (anewP _ _ _ _ i).since ≤ _
      rw [e, (hold i).1]
      by_cases h15 : k + 1 = 15
      · omega
      · exact (h.gone (by omega) i hi).2
theorem Lone.end_ {t0 : Int} {up : Nat → Bool} (h : Lone m id t0 24 up f) : bestP id m f = (ownV id, -1) ∧ ∀ i, i < m → (f i).role = (if up i = true then 2 else 0) ∧ stateP (f i) (t0 + 24) = (if up i = true then 2 else 0) := by
  have hg := h.gone (by decide)
  have hn := fun i hi => (hg i hi).1
  refine ⟨none_best hn, fun i hi => ?_⟩
  have hr : (f i).role = if up i = true then 2 else 0 := by rw [h.role i hi, none_role hn hi, h.up i hi]
  refine ⟨hr, ?_⟩
  have hs := (hg i hi).2
  unfold stateP
  rw [hr]
  by_cases hu : up i = true
  · rw [if_pos hu, if_pos (.inr rfl), if_neg (by omega), if_neg (by omega)]
  · rw [if_neg hu, if_neg (by decide)]
end
end Go.Proofs.Ytogkminlhjmafaa
