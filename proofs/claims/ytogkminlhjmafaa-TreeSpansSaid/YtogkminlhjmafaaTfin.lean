/- The roles in the end, and which links are open then: plain theory for the tree that comes to stand. No program's call, no condition but those that are said. -/
import Derived.Test.YtogkminlhjmafaaTinv
namespace Go.Proofs.Ytogkminlhjmafaa
section
variable {n : Nat} {ids : Nat → Int} {L : List Lk} {now : Int} {tk : Nat → Prop} {B : Nat → Nat → Pt} {W : List Lt}

theorem rk_last (K : Big n ids L) {x r : Nat} {c : Int} (hx : x < n) (hl : Least n ids (linkE L) x r c) : 20 * (rk n ids (linkE L) r c : Int) + 20 ≤ 20 * n := by
  have := rk_n K.fits.graph hx hl
  omega
/-- One end's word is the better one. -/
theorem down_or (K : Big n ids L) {d : Dl} (hd : d ∈ dirs L) (c : Int) : Down n ids L d ∨ Down n ids L (d.back c) := by
  by_cases h : ltV (offF n ids L d.u d.pu) (offF n ids L d.v d.pv)
  · exact .inl h
  · by_cases h' : ltV (offF n ids L d.v d.pv) (offF n ids L d.u d.pu)
    · exact .inr h'
    · have e := ltV_total _ _ h h'
      unfold offF offerV at e
      injection e with _ _ e _
      exact absurd (K.fits.names _ _ (K.ok hd).u (K.ok hd).v e) (K.ok hd).ne
theorem down_not {d : Dl} {c : Int} (h : Down n ids L d) : ¬ Down n ids L (d.back c) := fun h' => ltV_irrefl _ (ltV_trans h h')
/-- A link of the tree leads from the better end. -/
theorem leads_down (K : Big n ids L) {d : Dl} (hd : d ∈ dirs L) (h : leadsE ids (finV n ids L) d.ed) : Down n ids L d := by
  have hc := (K.ok hd).cost
  have h1 := h.1
  unfold Down offF offerV
  have e1 : (finV n ids L d.v).root = (finV n ids L d.u).root := by
    have : finV n ids L d.v = _ := h1
    rw [this]; rfl
  have e2 : (finV n ids L d.v).cost = (finV n ids L d.u).cost + d.cv := by
    have : finV n ids L d.v = _ := h1
    rw [this]; rfl
  exact .inr ⟨e1.symm, .inl (by simp only; omega)⟩
/-- The roles in the end: at the far end of a link the root port, if it is of the tree, else an alternate one; at the near end designated. -/
theorem Sys.last (K : Big n ids L) (S : Sys n ids L now tk B W) (ht : 280 + 20 * (n : Int) ≤ now) {d : Dl} (hd : d ∈ dirs L) (hw : Down n ids L d) :
    roleP (ids d.u) 6 (B d.u) d.pu.toNat = 2 ∧ (leadsE ids (finV n ids L) d.ed → roleP (ids d.v) 6 (B d.v) d.pv.toNat = 1) ∧ (¬ leadsE ids (finV n ids L) d.ed → roleP (ids d.v) 6 (B d.v) d.pv.toNat = 3) := by
  have G := K.fits.graph
  obtain ⟨r, c, hl⟩ := least_is G (K.ok hd).u
  obtain ⟨r', c', hlv⟩ := least_is G (K.ok hd).v
  have hk := rk_last K (K.ok hd).u hl
  have hkv := rk_last K (K.ok hd).v hlv
  have hrr : r = r' := adj_root G hd hl hlv
  subst hrr
  refine ⟨S.said K hd hw hl (by omega), ?_⟩
  obtain ⟨h1, h2, h3, h4⟩ := S.heard hd hw hl (by omega)
  obtain ⟨hset, _⟩ := S.settled K (K.ok hd).v hlv (by omega)
  obtain ⟨a1, a2⟩ := fin_rc G (K.ok hd).u hl
  obtain ⟨b1, b2⟩ := fin_rc G (K.ok hd).v hlv
  obtain ⟨pe, p6⟩ := pv_nat K hd
  have hup := S.up_at K hd
  have hsm := rk_small K (K.ok hd).u hl
  have hbridge : (B d.v d.pv.toNat).vec.bridge ≠ ids d.v := by
    rw [h2]
    exact fun h => (K.ok hd).ne (G.names _ _ (K.ok hd).u (K.ok hd).v h)
  have huse : useB (ids d.v) (hdOf (B d.v d.pv.toNat)) = true := by
    refine use_iff.2 ⟨?_, h4, by show (B d.v d.pv.toNat).age ≤ 9; omega, ?_, hbridge⟩
    · show ((B d.v d.pv.toNat).none || !(B d.v d.pv.toNat).up) = false
      rw [h1, hup]; rfl
    · show nameB (B d.v d.pv.toNat).vec.root = true
      rw [h2]; exact K.named r hl.in_
  have hthr := thr_at K S hd h1
  rw [h2] at hthr
  simp only at hthr
  have hcand : candE ids (finV n ids L) d.ed = ⟨ids r, c + d.cv, ids d.u, d.pu⟩ := by
    unfold candE
    rw [show d.ed.u = d.u from rfl, a1, a2]
    rfl
  obtain ⟨hbest, hno⟩ := bestP_spec (ids d.v) 6 (B d.v)
  -- the port of the best
  have hport : ∀ k, k < 6 → bestP (ids d.v) 6 (B d.v) = (thr (hdOf (B d.v k)), (k : Int)) → Cand (ids d.v) (hdOf (B d.v k)) → finV n ids L d.v = candE ids (finV n ids L) d.ed → k = d.pv.toNat := fun k hk e hc hf => by
    obtain ⟨d', hd', e1, e2, e3⟩ := S.dir (K.ok hd).v hk hc.1
    have hn' := (use_pt hc.1).1
    obtain ⟨q1, q2, _⟩ := S.real hd' (by rw [e1, e2]; exact hn') (by omega)
    have ht' := thr_at K S hd' (by rw [e1, e2]; exact hn')
    rw [e1, e2] at q1 q2 ht'
    rw [e] at hset
    have hset : thr (hdOf (B d.v k)) = finV n ids L d.v := hset
    rw [ht', hf, hcand, q1, q2] at hset
    injection hset with _ _ s3 s4
    have : d' = d := dirs_from K.fits hd' hd (G.names _ _ (K.ok hd').u (K.ok hd).u s3) s4
    subst this
    exact e2.symm
  rw [roleP_up p6 hup]
  constructor
  · intro hlead
    refine if_pos ?_
    have hf : finV n ids L d.v = candE ids (finV n ids L) d.ed := hlead.1
    have hroot : ids r < ids d.v := by
      have := hlead.2
      rw [show d.ed.u = d.u from rfl, a1] at this
      exact this
    rcases hbest with ⟨e, hnc⟩ | ⟨k, hk, e, hc⟩
    · exact absurd ⟨huse, by show (B d.v d.pv.toNat).vec.root < ids d.v; rw [h2]; exact hroot⟩ (hnc _ p6)
    · rw [e]
      show (d.pv.toNat : Int) = (k : Int)
      rw [hport k hk e hc hf]
  · intro hlead
    rw [if_neg]
    · unfold roleO
      refine if_pos ⟨huse, ?_⟩
      rw [hset, pe]
      show ¬ ltV (offF n ids L d.v d.pv) (B d.v d.pv.toNat).vec
      rw [h2]
      intro hlt
      have hoff : offF n ids L d.u d.pu = ⟨ids r, c, ids d.u, d.pu⟩ := by
        unfold offF offerV
        rw [a1, a2]
      unfold Down at hw
      rw [hoff] at hw
      exact ltV_irrefl _ (ltV_trans hw hlt)
    · intro hat
      rcases hbest with ⟨e, _⟩ | ⟨k, hk, e, hc⟩
      · rw [e] at hat
        have hat : (d.pv.toNat : Int) = -1 := hat
        omega
      · rw [e] at hat
        have hat : (d.pv.toNat : Int) = (k : Int) := hat
        have : k = d.pv.toNat := by omega
        subst this
        rw [e] at hset
        have hset : thr (hdOf (B d.v d.pv.toNat)) = finV n ids L d.v := hset
        have hcr : (B d.v d.pv.toNat).vec.root < ids d.v := hc.2
        rw [h2] at hcr
        refine hlead ⟨?_, ?_⟩
        · show finV n ids L d.v = _
          rw [← hset, hthr, hcand]
        · show (finV n ids L d.u).root < ids d.v
          rw [a1]
          exact hcr
open Classical in
/-- The role in the end, of any port. -/
noncomputable def finR (n : Nat) (ids : Nat → Int) (L : List Lk) (x : Nat) (i : Nat) : Int :=
  if ∃ d ∈ dirs L, d.v = x ∧ d.pv = (i : Int) ∧ leadsE ids (finV n ids L) d.ed then 1
  else if ∃ d ∈ dirs L, d.v = x ∧ d.pv = (i : Int) ∧ Down n ids L d then 3
  else if ∃ d ∈ dirs L, d.v = x ∧ d.pv = (i : Int) then 2 else 0
theorem Sys.finR_is (K : Big n ids L) (S : Sys n ids L now tk B W) (ht : 280 + 20 * (n : Int) ≤ now) {x i : Nat} (hx : x < n) (hi : i < 6) : (B x i).role = finR n ids L x i := by
  rw [S.role x i hx hi]
  unfold finR
  by_cases h0 : ∃ d ∈ dirs L, d.v = x ∧ d.pv = (i : Int)
  · obtain ⟨d, hd, rfl, e⟩ := h0
    have ei : d.pv.toNat = i := by omega
    subst ei
    have one : ∀ {P : Dl → Prop}, (∃ d' ∈ dirs L, d'.v = d.v ∧ d'.pv = (d.pv.toNat : Int) ∧ P d') ↔ P d := fun {P} => ⟨fun ⟨d', hd', e1, e2, h⟩ => by
      have : d' = d := dirs_to K.fits hd' hd e1 (e2.trans e.symm)
      rwa [this] at h, fun h => ⟨d, hd, rfl, e, h⟩⟩
    by_cases hl : leadsE ids (finV n ids L) d.ed
    · rw [if_pos (one.2 hl)]
      exact (S.last K ht hd (leads_down K hd hl)).2.1 hl
    · rw [if_neg fun h => hl (one.1 h)]
      by_cases hw : Down n ids L d
      · rw [if_pos (one.2 hw)]
        exact (S.last K ht hd hw).2.2 hl
      · rw [if_neg fun h => hw (one.1 h), if_pos ⟨d, hd, rfl, e⟩]
        obtain ⟨c, hb⟩ := dirs_back hd
        rcases down_or K hd c with h | h
        · exact absurd h hw
        · exact (S.last K ht hb h).1
  · rw [if_neg fun ⟨d, hd, e1, e2, _⟩ => h0 ⟨d, hd, e1, e2⟩, if_neg fun ⟨d, hd, e1, e2, _⟩ => h0 ⟨d, hd, e1, e2⟩, if_neg h0]
    unfold roleP
    refine if_neg fun h => h0 ((S.up x i hx hi).1 h)
/-- Since when: no later than now, nor than when the roles are the last ones. -/
def Since (n : Nat) (now : Int) (B : Nat → Nat → Pt) : Prop := ∀ x i, x < n → i < 6 → (B x i).since ≤ now ∧ (280 + 20 * (n : Int) ≤ now → (B x i).since ≤ 280 + 20 * (n : Int))
/-- Just the links of the tree are open at both ends. -/
theorem Sys.open_ (K : Big n ids L) (S : Sys n ids L now tk B W) (T : Since n now B) (ht : 288 + 20 * (n : Int) ≤ now) {l : Lk} (hl : l ∈ L) :
    (stateP (B l.a l.pa.toNat) now = 2 ∧ stateP (B l.b l.pb.toNat) now = 2) ↔ isT ids (finV n ids L) l := by
  have h1 : l.d1 ∈ dirs L := mem_dirs.2 ⟨l, hl, .inl rfl⟩
  have h2 : l.d2 ∈ dirs L := mem_dirs.2 ⟨l, hl, .inr rfl⟩
  have state2 : ∀ {d : Dl}, d ∈ dirs L → (roleP (ids d.v) 6 (B d.v) d.pv.toNat = 1 ∨ roleP (ids d.v) 6 (B d.v) d.pv.toNat = 2) → stateP (B d.v d.pv.toNat) now = 2 := fun {d} hd h => by
    have hs := (T _ _ (K.ok hd).v (pv_nat K hd).2).2 (by omega)
    unfold stateP
    rw [S.role _ _ (K.ok hd).v (pv_nat K hd).2, if_pos h, if_neg (by omega), if_neg (by omega)]
  have state0 : ∀ {d : Dl}, d ∈ dirs L → roleP (ids d.v) 6 (B d.v) d.pv.toNat = 3 → stateP (B d.v d.pv.toNat) now ≠ 2 := fun {d} hd h => by
    unfold stateP
    rw [S.role _ _ (K.ok hd).v (pv_nat K hd).2, h, if_neg (by decide)]
    decide
  have key : ∀ {d : Dl} {c : Int}, d ∈ dirs L → d.back c ∈ dirs L → Down n ids L d → ((stateP (B d.u d.pu.toNat) now = 2 ∧ stateP (B d.v d.pv.toNat) now = 2) ↔ leadsE ids (finV n ids L) d.ed) := fun {d c} hd hb hw => by
    obtain ⟨a, b1, b2⟩ := S.last K (by omega) hd hw
    constructor
    · intro ⟨_, h⟩
      by_cases hle : leadsE ids (finV n ids L) d.ed
      · exact hle
      · exact absurd h (state0 hd (b2 hle))
    · intro h
      exact ⟨state2 hb (.inr a), state2 hd (.inl (b1 h))⟩
  unfold isT
  rcases down_or K h1 l.ca with h | h
  · have k := key (c := l.ca) h1 h2 h
    have k : (stateP (B l.a l.pa.toNat) now = 2 ∧ stateP (B l.b l.pb.toNat) now = 2) ↔ leadsE ids (finV n ids L) l.e1 := k
    rw [k]
    exact ⟨.inl, fun h' => h'.elim id fun h' => absurd (leads_down K h2 h') (down_not (c := l.ca) h)⟩
  · have h : Down n ids L l.d2 := h
    have k := key (c := l.cb) h2 h1 h
    have k : (stateP (B l.b l.pb.toNat) now = 2 ∧ stateP (B l.a l.pa.toNat) now = 2) ↔ leadsE ids (finV n ids L) l.e2 := k
    rw [And.comm, k]
    exact ⟨.inr, fun h' => h'.elim (fun h' => absurd (leads_down K h1 h') (down_not (c := l.cb) h)) id⟩
end
end Go.Proofs.Ytogkminlhjmafaa
