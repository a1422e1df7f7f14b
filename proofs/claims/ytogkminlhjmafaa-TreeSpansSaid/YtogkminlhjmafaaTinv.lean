/- What bridges hold while they hear and say: plain theory for the tree that comes to stand. No program's call, no condition but those that are said. -/
import Derived.Test.YtogkminlhjmafaaTsys
namespace Go.Proofs.Ytogkminlhjmafaa

/-- A message on its way to port pv of bridge v. -/
structure Lt where
  due : Int
  v : Nat
  pv : Int
  vec : Vec
  age : Int
/-- What is said comes from a bridge that is there, over a way of its cost. -/
def RealI (n : Nat) (ids : Nat → Int) (L : List Lk) (d : Dl) (v : Vec) (a : Int) : Prop :=
  v.bridge = ids d.u ∧ v.port = d.pu ∧ 0 ≤ a ∧ v.cost ≤ a * 1048576 ∧ ∃ r, r < n ∧ v.root = ids r ∧ Walk (linkE L) r d.u v.cost
/-- Said at s: the later, the more bridges it came through, if it isn't real; and the last word, if who says it holds that. -/
structure Item (n : Nat) (ids : Nat → Int) (L : List Lk) (d : Dl) (s : Int) (v : Vec) (a : Int) : Prop where
  old : ∀ k : Nat, k ≤ 11 → 23 * (k : Int) ≤ s → RealI n ids L d v a ∨ (k : Int) ≤ a
  fin : ∀ r c, Least n ids (linkE L) d.u r c → 280 + 20 * (rk n ids (linkE L) r c : Int) ≤ s → v = ⟨ids r, c, ids d.u, d.pu⟩ ∧ a ≤ rk n ids (linkE L) r c
structure Info (n : Nat) (ids : Nat → Int) (L : List Lk) (d : Dl) (now : Int) (p : Pt) : Prop where
  good : GoodM p.vec p.age
  at1 : p.at_ ≤ now
  at2 : now ≤ p.at_ + 15
  item : ∃ s, s ≤ p.at_ ∧ p.at_ ≤ s + 8 ∧ Item n ids L d s p.vec p.age
/-- What x holds in the end. -/
def finV (n : Nat) (ids : Nat → Int) (L : List Lk) (x : Nat) : Vec := sweeps ids (linkE L) n x
def offF (n : Nat) (ids : Nat → Int) (L : List Lk) (x : Nat) (p : Int) : Vec := offerV (finV n ids L x) (ids x) p
/-- In the end u's word is the better one. -/
def Down (n : Nat) (ids : Nat → Int) (L : List Lk) (d : Dl) : Prop := ltV (offF n ids L d.u d.pu) (offF n ids L d.v d.pv)
structure Sys (n : Nat) (ids : Nat → Int) (L : List Lk) (now : Int) (tk : Nat → Prop) (B : Nat → Nat → Pt) (W : List Lt) : Prop where
  up : ∀ x i, x < n → i < 6 → ((B x i).up = true ↔ ∃ d ∈ dirs L, d.v = x ∧ d.pv = (i : Int))
  way : ∀ d ∈ dirs L, (B d.v d.pv.toNat).way = d.cv
  role : ∀ x i, x < n → i < 6 → (B x i).role = roleP (ids x) 6 (B x) i
  info : ∀ d ∈ dirs L, (B d.v d.pv.toNat).none = false → Info n ids L d now (B d.v d.pv.toNat)
  fresh : ∀ d ∈ dirs L, tk d.v → (B d.v d.pv.toNat).none = false → now ≤ (B d.v d.pv.toNat).at_ + 14
  way_ : ∀ m ∈ W, now ≤ m.due ∧ ∃ d ∈ dirs L, m.v = d.v ∧ m.pv = d.pv ∧ (GoodM m.vec m.age → ∃ s, s < m.due ∧ m.due ≤ s + 8 ∧ s ≤ now ∧ Item n ids L d s m.vec m.age)
  live : ∀ d ∈ dirs L, Down n ids L d → ∀ r c, Least n ids (linkE L) d.u r c → ∀ e : Int, e % 2 = 0 → 280 + 20 * (rk n ids (linkE L) r c : Int) ≤ e → (e < now ∨ e = now ∧ tk d.u) →
    (∃ m ∈ W, m.v = d.v ∧ m.pv = d.pv ∧ GoodM m.vec m.age ∧ e < m.due ∧ m.due ≤ e + 8) ∨ ((B d.v d.pv.toNat).none = false ∧ e < (B d.v d.pv.toNat).at_)

section
variable {n : Nat} {ids : Nat → Int} {L : List Lk} {now : Int} {tk : Nat → Prop} {B : Nat → Nat → Pt} {W : List Lt}
theorem use_iff {id : Int} {h : Hd} : useB id h = true ↔ h.none = false ∧ 0 ≤ h.age ∧ h.age ≤ 9 ∧ nameB h.root = true ∧ h.bridge ≠ id := by
  unfold useB
  cases h.none <;> simp [Bool.and_eq_true, and_assoc]
theorem use_pt {id : Int} {p : Pt} (h : useB id (hdOf p) = true) : p.none = false ∧ p.up = true ∧ 0 ≤ p.age ∧ p.age ≤ 9 := by
  obtain ⟨h1, h2, h3, _⟩ := use_iff.1 h
  have h1 : (p.none || !p.up) = false := h1
  cases h4 : p.none <;> cases h5 : p.up <;> simp_all [hdOf]
theorem walk_to {d : Dl} (hd : d ∈ dirs L) {x r : Nat} {c : Int} (e : d.v = x) (hw : Walk (linkE L) r d.u c) : Walk (linkE L) r x (c + d.cv) := by
  subst e
  exact hw.step (e := d.ed) (dirs_ed hd)
theorem pv_nat (K : Big n ids L) {d : Dl} (hd : d ∈ dirs L) : (d.pv.toNat : Int) = d.pv ∧ d.pv.toNat < 6 := by
  have := (K.ok hd).pv
  omega
theorem pu_nat (K : Big n ids L) {d : Dl} (hd : d ∈ dirs L) : (d.pu.toNat : Int) = d.pu ∧ d.pu.toNat < 6 := by
  have := (K.ok hd).pu
  omega
/-- What is of use was heard over a link. -/
theorem Sys.dir (S : Sys n ids L now tk B W) {x i : Nat} (hx : x < n) (hi : i < 6) {id : Int} (h : useB id (hdOf (B x i)) = true) : ∃ d ∈ dirs L, d.v = x ∧ d.pv.toNat = i ∧ d.pv = (i : Int) := by
  obtain ⟨_, h2, _⟩ := use_pt h
  obtain ⟨d, hd, e1, e2⟩ := (S.up x i hx hi).1 h2
  exact ⟨d, hd, e1, by omega, e2⟩
theorem Sys.up_at (S : Sys n ids L now tk B W) (K : Big n ids L) {d : Dl} (hd : d ∈ dirs L) : (B d.v d.pv.toNat).up = true :=
  (S.up _ _ (K.ok hd).v (pv_nat K hd).2).2 ⟨d, hd, rfl, (pv_nat K hd).1.symm⟩
/-- When junk is gone all that was heard is real. -/
theorem Sys.real (S : Sys n ids L now tk B W) {d : Dl} (hd : d ∈ dirs L) (hn : (B d.v d.pv.toNat).none = false) (ht : 276 ≤ now) : RealI n ids L d (B d.v d.pv.toNat).vec (B d.v d.pv.toNat).age := by
  obtain ⟨hg, _, h2, s, hs1, hs2, hi⟩ := S.info d hd hn
  rcases hi.old 11 (Nat.le_refl _) (by omega) with h | h
  · exact h
  · have := hg.2.2.2.2.2.2.2
    omega
theorem sum_plain {a b : Int} (ha : 0 ≤ a) (ha' : a < 2147483648) (hb : 0 ≤ b) (hb' : b ≤ 16777216) : sumS a b = a + b := by
  unfold sumS
  rw [Int.max_eq_left ha, Int.max_eq_left hb, if_neg (by omega)]
theorem thr_at (K : Big n ids L) (S : Sys n ids L now tk B W) {d : Dl} (hd : d ∈ dirs L) (hn : (B d.v d.pv.toNat).none = false) :
    thr (hdOf (B d.v d.pv.toNat)) = ⟨(B d.v d.pv.toNat).vec.root, (B d.v d.pv.toNat).vec.cost + d.cv, (B d.v d.pv.toNat).vec.bridge, (B d.v d.pv.toNat).vec.port⟩ := by
  have hg := (S.info d hd hn).good
  have hc := (K.ok hd).cost
  show Vec.mk _ (sumS _ (B d.v d.pv.toNat).way) _ _ = _
  rw [S.way d hd]
  rw [show (hdOf (B d.v d.pv.toNat)).vec.cost = (B d.v d.pv.toNat).vec.cost from rfl, sum_plain hg.2.2.1 hg.2.2.2.1 (by omega) (by omega)]
  rfl
theorem fin_rc (G : Graph n ids (linkE L)) {x r : Nat} {c : Int} (hx : x < n) (hl : Least n ids (linkE L) x r c) : (finV n ids L x).root = ids r ∧ (finV n ids L x).cost = c := by
  obtain ⟨r2, c2, hl2, h1, h2, _⟩ := fin_n G (Nat.le_refl n) hx
  obtain ⟨rfl, rfl⟩ := least_one G hl hl2
  exact ⟨h1, h2⟩
theorem fin_own (G : Graph n ids (linkE L)) {x : Nat} {c : Int} (hx : x < n) (hl : Least n ids (linkE L) x x c) : finV n ids L x = ownV (ids x) := by
  obtain ⟨h1, _⟩ := fin_rc G hx hl
  obtain ⟨r, hr, _, hroot, h | ⟨h, _⟩⟩ := real_sweeps G n x hx
  · exact h
  · unfold finV at h1
    omega
theorem adj_root (G : Graph n ids (linkE L)) {d : Dl} (hd : d ∈ dirs L) {r r' : Nat} {c c' : Int} (hu : Least n ids (linkE L) d.u r c) (hv : Least n ids (linkE L) d.v r' c') : r = r' := by
  obtain ⟨cb, hb⟩ := dirs_back hd
  have e1 := (least_step (e := d.ed) (dirs_ed hd) hu hv).1
  have e2 := (least_step (e := (d.back cb).ed) (dirs_ed hb) hv hu).1
  exact G.names _ _ hu.in_ hv.in_ (by omega)
/-- What is heard over a link whose near end holds its last word. -/
theorem Sys.heard (S : Sys n ids L now tk B W) {d : Dl} (hd : d ∈ dirs L) (hw : Down n ids L d) {r : Nat} {c : Int} (hl : Least n ids (linkE L) d.u r c) (ht : 300 + 20 * (rk n ids (linkE L) r c : Int) ≤ now) :
    (B d.v d.pv.toNat).none = false ∧ (B d.v d.pv.toNat).vec = ⟨ids r, c, ids d.u, d.pu⟩ ∧ (B d.v d.pv.toNat).age ≤ rk n ids (linkE L) r c ∧ 0 ≤ (B d.v d.pv.toNat).age := by
  rcases S.live d hd hw r c hl (now - 9 - (now - 9) % 2) (by omega) (by omega) (.inl (by omega)) with ⟨m, hm, _, _, _, _, h⟩ | ⟨hn, ha⟩
  · have := (S.way_ m hm).1
    omega
  · obtain ⟨hg, _, _, s, hs1, hs2, hi⟩ := S.info d hd hn
    obtain ⟨e1, e2⟩ := hi.fin r c hl (by omega)
    exact ⟨hn, e1, e2, hg.2.2.2.2.2.2.1⟩
theorem rk_small (K : Big n ids L) {x r : Nat} {c : Int} (hx : x < n) (hl : Least n ids (linkE L) x r c) : (rk n ids (linkE L) r c : Int) ≤ 7 := by
  have := rk_n K.fits.graph hx hl
  have := K.few
  omega
/-- Who has heard it from all that are nearer holds the last word. -/
theorem Sys.settled (K : Big n ids L) (S : Sys n ids L now tk B W) {x r : Nat} {c : Int} (hx : x < n) (hl : Least n ids (linkE L) x r c) (ht : 280 + 20 * (rk n ids (linkE L) r c : Int) ≤ now) :
    (bestP (ids x) 6 (B x)).1 = finV n ids L x ∧ ageP (ids x) 6 (B x) ≤ rk n ids (linkE L) r c ∧ 0 ≤ ageP (ids x) 6 (B x) := by
  have G := K.fits.graph
  obtain ⟨hbest, hno⟩ := bestP_spec (ids x) 6 (B x)
  have hrk0 : (0 : Int) ≤ rk n ids (linkE L) r c := Int.natCast_nonneg _
  -- what is of use comes over a link, is real, and leads here
  have hcand : ∀ k, k < 6 → Cand (ids x) (hdOf (B x k)) → ∃ d ∈ dirs L, d.v = x ∧ d.pv.toNat = k ∧ d.pv = (k : Int) ∧ (B x k).none = false ∧ RealI n ids L d (B x k).vec (B x k).age ∧ thr (hdOf (B x k)) = ⟨(B x k).vec.root, (B x k).vec.cost + d.cv, ids d.u, d.pu⟩ := fun k hk hc => by
    obtain ⟨d, hd, e1, e2, e3⟩ := S.dir hx hk hc.1
    subst e1 e2
    have hn := (use_pt hc.1).1
    have hr := S.real hd hn (by omega)
    refine ⟨d, hd, rfl, rfl, e3, hn, hr, ?_⟩
    rw [thr_at K S hd hn, hr.1, hr.2.1]
  by_cases hxr : x = r
  · subst hxr
    have hnone : ∀ k, k < 6 → ¬ Cand (ids x) (hdOf (B x k)) := fun k hk hc => by
      obtain ⟨d, hd, e1, e2, _, hn, ⟨_, _, _, _, r', hr', hroot, hw⟩, _⟩ := hcand k hk hc
      have h1 : (B x k).vec.root < ids x := hc.2
      have hwx := walk_to hd e1 hw
      have h2 := hl.least r' _ hr' hwx
      rw [← hroot] at h2
      omega
    rcases hbest with ⟨e, _⟩ | ⟨k, hk, _, hc⟩
    · refine ⟨by rw [e, fin_own G hx hl], ?_⟩
      have : ageP (ids x) 6 (B x) = 0 := by
        unfold ageP
        rw [e]
        exact if_pos (show (-1 : Int) < 0 by decide)
      rw [this]
      exact ⟨hrk0, Int.le_refl _⟩
    · exact absurd hc (hnone k hk)
  · have hlt : ids r < ids x := by
      have h1 := hl.least x 0 hx .nil
      have h2 : ids r ≠ ids x := fun h => hxr (G.names _ _ hl.in_ hx h).symm
      omega
    -- over each link over which the least comes the last word was heard
    have hopt : ∀ d ∈ dirs L, d.v = x → ∀ c', Least n ids (linkE L) d.u r c' → c' + d.cv = c → (B x d.pv.toNat).none = false ∧ Cand (ids x) (hdOf (B x d.pv.toNat)) ∧ thr (hdOf (B x d.pv.toNat)) = ⟨ids r, c, ids d.u, d.pu⟩ ∧ (B x d.pv.toNat).age + 1 ≤ rk n ids (linkE L) r c ∧ 0 ≤ (B x d.pv.toNat).age := fun d hd e c' hl' hs => by
      subst e
      have hcv := (K.ok hd).cost
      have hrk := rk_lt G (K.ok hd).u hl' (show c' < c by omega)
      have hdown : Down n ids L d := by
        unfold Down offF offerV
        obtain ⟨a1, a2⟩ := fin_rc G (K.ok hd).u hl'
        obtain ⟨b1, b2⟩ := fin_rc G hx hl
        exact .inr ⟨by simp only; omega, .inl (by simp only; omega)⟩
      obtain ⟨k1, k2, k3, k4⟩ := S.heard hd hdown hl' (by omega)
      have hsm := rk_small K (K.ok hd).u hl'
      refine ⟨k1, ⟨use_iff.2 ⟨?_, k4, by show (B d.v d.pv.toNat).age ≤ 9; omega, ?_, ?_⟩, ?_⟩, ?_, by omega, k4⟩
      · show ((B d.v d.pv.toNat).none || !(B d.v d.pv.toNat).up) = false
        rw [k1, S.up_at K hd]; rfl
      · show nameB (B d.v d.pv.toNat).vec.root = true
        rw [k2]; exact K.named r hl.in_
      · show (B d.v d.pv.toNat).vec.bridge ≠ ids d.v
        rw [k2]
        exact fun h => (K.ok hd).ne (G.names _ _ (K.ok hd).u hx h)
      · show (B d.v d.pv.toNat).vec.root < ids d.v
        rw [k2]; exact hlt
      · rw [thr_at K S hd k1, k2, hs]
    obtain ⟨e0, he0, hv0, hfin, hl0, _⟩ := lead G (Nat.le_refl n) hx hl hxr
    obtain ⟨d0, hd0, rfl⟩ := ed_dirs he0
    obtain ⟨_, o2, o3, _⟩ := hopt d0 hd0 hv0 _ hl0 (show c - d0.cv + d0.cv = c by omega)
    have hp0 := (pv_nat K hd0).2
    have hnb := hno _ hp0 o2
    rw [o3] at hnb
    rcases hbest with ⟨_, hnc⟩ | ⟨k, hk, e, hc⟩
    · exact absurd o2 (hnc _ hp0)
    · obtain ⟨d, hd, e1, e2, e3, hn, ⟨_, _, _, _, r', hr', hroot, hw⟩, hthr⟩ := hcand k hk hc
      rw [e] at hnb ⊢
      rw [hthr] at hnb ⊢
      simp only at hnb ⊢
      have hw2 := walk_to hd e1 hw
      have g1 := hl.least r' _ hr' hw2
      have hrr : r' = r := G.names _ _ hr' hl.in_ (by
        rw [← hroot] at g1 ⊢
        unfold ltV at hnb
        simp only at hnb
        omega)
      subst hrr
      have g2 := hl.short _ hw2
      have hcost : (B x k).vec.cost + d.cv = c := by
        unfold ltV at hnb
        simp only at hnb
        omega
      have hlu : Least n ids (linkE L) d.u r' (B x k).vec.cost := ⟨hr', hw, fun r2 c2 hr2 hw2 => hl.least r2 _ hr2 (walk_to hd e1 hw2), fun c2 hw2 => by
        have := hl.short _ (walk_to hd e1 hw2)
        omega⟩
      obtain ⟨_, _, _, q4, q5⟩ := hopt d hd e1 _ hlu hcost
      rw [e2] at q4 q5
      refine ⟨?_, ?_⟩
      · obtain ⟨r2, c2, hl2, _, _, hle⟩ := fin_n G (Nat.le_refl n) hx
        obtain ⟨rfl, rfl⟩ := least_one G hl hl2
        have hle := hle d.ed (dirs_ed hd) e1 hlt _ hlu hcost
        have hfin : finV n ids L x = ⟨ids r', c, ids d0.u, d0.pu⟩ := hfin
        rw [hroot, hcost]
        rw [hroot, hcost] at hnb
        rw [hfin]
        have hle : ¬ ltV ⟨ids r', c, ids d.u, d.pu⟩ (finV n ids L x) := hle
        rw [hfin] at hle
        exact ltV_total _ _ hle hnb
      · have : ageP (ids x) 6 (B x) = (B x k).age + 1 := by
          unfold ageP
          rw [e]
          simp only
          rw [if_neg (by omega), Int.toNat_natCast]
        rw [this]
        omega
/-- The better end of a link says its word. -/
theorem Sys.said (K : Big n ids L) (S : Sys n ids L now tk B W) {d : Dl} (hd : d ∈ dirs L) (hw : Down n ids L d) {r : Nat} {c : Int} (hl : Least n ids (linkE L) d.u r c) (ht : 280 + 20 * (rk n ids (linkE L) r c : Int) ≤ now) :
    roleP (ids d.u) 6 (B d.u) d.pu.toNat = 2 := by
  have G := K.fits.graph
  obtain ⟨cb, hb⟩ := dirs_back hd
  have hup : (B d.u d.pu.toNat).up = true := S.up_at K hb
  obtain ⟨pe, p6⟩ := pu_nat K hd
  obtain ⟨hset, _⟩ := S.settled K (K.ok hd).u hl ht
  obtain ⟨rv, cvv, hlv⟩ := least_is G (K.ok hd).v
  have hrr : r = rv := adj_root G hd hl hlv
  subst hrr
  obtain ⟨a1, a2⟩ := fin_rc G (K.ok hd).u hl
  obtain ⟨b1, b2⟩ := fin_rc G (K.ok hd).v hlv
  have hreal : (B d.u d.pu.toNat).none = false → RealI n ids L (d.back cb) (B d.u d.pu.toNat).vec (B d.u d.pu.toNat).age := fun hn => S.real hb hn (by omega)
  unfold Down offF offerV at hw
  rw [a1, a2, b1, b2] at hw
  rw [roleP_up p6 hup, if_neg]
  · unfold roleO
    refine if_neg fun ⟨hu, hnl⟩ => hnl ?_
    obtain ⟨q1, q2, _, _, r', hr', hroot, hwk⟩ := hreal (use_pt hu).1
    rw [hset]
    unfold offerV
    rw [a1, a2, pe]
    show ltV _ (B d.u d.pu.toNat).vec
    have g1 := hlv.least r' _ hr' hwk
    by_cases hr : r' = r
    · subst hr
      have g2 := hlv.short _ hwk
      have q1 : (B d.u d.pu.toNat).vec.bridge = ids d.v := q1
      have q2 : (B d.u d.pu.toNat).vec.port = d.pv := q2
      unfold ltV at hw ⊢
      simp only at hw ⊢
      omega
    · have : ids r' ≠ ids r := fun h => hr (G.names _ _ hr' hl.in_ h)
      exact .inl (by show ids r < (B d.u d.pu.toNat).vec.root; omega)
  · intro hat
    obtain ⟨hbest, _⟩ := bestP_spec (ids d.u) 6 (B d.u)
    rcases hbest with ⟨e, _⟩ | ⟨k, hk, e, hc⟩
    · rw [e] at hat
      have hat : (d.pu.toNat : Int) = -1 := hat
      omega
    · rw [e] at hat
      have hat : (d.pu.toNat : Int) = (k : Int) := hat
      have : k = d.pu.toNat := by omega
      subst this
      have hn := (use_pt hc.1).1
      obtain ⟨q1, q2, _, _, r', hr', hroot, hwk⟩ := hreal hn
      have ht := thr_at K S hb hn
      have ht : thr (hdOf (B d.u d.pu.toNat)) = ⟨(B d.u d.pu.toNat).vec.root, (B d.u d.pu.toNat).vec.cost + cb, (B d.u d.pu.toNat).vec.bridge, (B d.u d.pu.toNat).vec.port⟩ := ht
      rw [e, ht] at hset
      rw [← hset] at a1 a2
      simp only at a1 a2
      have hrr : r' = r := G.names _ _ hr' hl.in_ (hroot.symm.trans a1)
      subst hrr
      have g2 := hlv.short _ hwk
      have hcb := (K.ok hb).cost
      have hcb : 1 ≤ cb := hcb.1
      unfold ltV at hw
      simp only at hw
      omega
end
end Go.Proofs.Ytogkminlhjmafaa
