/- A bridge's part in the tree as it lies in memory: its ports' cells, its own. No condition. -/
import Derived.Test.YtadejdhdkkfliaaRport
import Derived.Test.YtadejdhdkkfliaaVroles
import Derived.Test.YtadejdhdkkfliaaTsys
namespace Go.Proofs.Ytadejdhdkkfliaa
open Go.RowKit
set_option maxRecDepth 100000

/-- A port's twelve cells. -/
def ptArr (p : Pt) (fw : Bool) : Array Value := #[.int .i64 p.role, .int .i64 p.since, .bool fw, .bool p.up, .int .i64 p.vec.root, .int .i64 p.vec.cost, .int .i64 p.vec.bridge, .int .i64 p.vec.port, .int .i64 p.age, .int .i64 p.way, .bool p.none, .int .i64 p.at_]
def PortsAt (w : World) (gp m : Nat) (f : Nat → Pt) (fw : Nat → Bool) : Prop := ∃ cs, Blk w gp 88 cs ∧ cs.size = m * 12 ∧ ∀ i, i < m → ∀ j, j < 12 → cs[i * 12 + j]? = (ptArr (f i) (fw i))[j]?
structure PCells (w : World) (gp o : Nat) (p : Pt) (fw : Bool) : Prop where
  c0 : w.cell? ⟨gp, o, none⟩ = some (.int .i64 p.role)
  c1 : w.cell? ⟨gp, o + 1, none⟩ = some (.int .i64 p.since)
  c2 : w.cell? ⟨gp, o + 2, none⟩ = some (.bool fw)
  c3 : w.cell? ⟨gp, o + 3, none⟩ = some (.bool p.up)
  c4 : w.cell? ⟨gp, o + 4, none⟩ = some (.int .i64 p.vec.root)
  c5 : w.cell? ⟨gp, o + 5, none⟩ = some (.int .i64 p.vec.cost)
  c6 : w.cell? ⟨gp, o + 6, none⟩ = some (.int .i64 p.vec.bridge)
  c7 : w.cell? ⟨gp, o + 7, none⟩ = some (.int .i64 p.vec.port)
  c8 : w.cell? ⟨gp, o + 8, none⟩ = some (.int .i64 p.age)
  c9 : w.cell? ⟨gp, o + 9, none⟩ = some (.int .i64 p.way)
  c10 : w.cell? ⟨gp, o + 10, none⟩ = some (.bool p.none)
  c11 : w.cell? ⟨gp, o + 11, none⟩ = some (.int .i64 p.at_)
section
variable {w w' : World} {g gp m : Nat} {f f' : Nat → Pt} {fw fw' : Nat → Bool} {id rt ch : Int} {bv : Vec}
theorem PortsAt.cells (h : PortsAt w gp m f fw) {i : Nat} (hi : i < m) : PCells w gp (i * 12) (f i) (fw i) := by
  obtain ⟨cs, hb, hs, hc⟩ := h
  have hj : ∀ j, j < 12 → w.cell? ⟨gp, i * 12 + j, none⟩ = (ptArr (f i) (fw i))[j]? := fun j hj => (hb.cell _).trans (hc i hi j hj)
  exact ⟨hj 0 (by omega), hj 1 (by omega), hj 2 (by omega), hj 3 (by omega), hj 4 (by omega), hj 5 (by omega), hj 6 (by omega), hj 7 (by omega), hj 8 (by omega), hj 9 (by omega), hj 10 (by omega), hj 11 (by omega)⟩
theorem PortsAt.frozen (h : PortsAt w gp m f fw) (j : Nat) : w.frozen? ⟨gp, j, none⟩ = false := by
  obtain ⟨cs, hb, _⟩ := h
  exact hb.frozen j
theorem PortsAt.lt (h : PortsAt w gp m f fw) : gp < w.heap.size := by
  obtain ⟨cs, hb, _⟩ := h
  exact hb.lt
theorem PortsAt.set_ (h : PortsAt w gp m f fw) {i k : Nat} (hi : i < m) (hk : k < 12) (u : Value) (hne : ∀ j, j ≠ i → f' j = f j ∧ fw' j = fw j) (he : ptArr (f' i) (fw' i) = (ptArr (f i) (fw i)).setIfInBounds k u) :
    PortsAt (w.setCell ⟨gp, i * 12 + k, none⟩ u) gp m f' fw' := by
  obtain ⟨cs, hb, hs, hc⟩ := h
  refine ⟨_, Blk.set_ hb _ u, by simp [hs], fun q hq j hj => ?_⟩
  by_cases e : q = i
  · subst e
    rw [he]
    by_cases ek : j = k
    · subst ek
      rw [Array.getElem?_setIfInBounds_self_of_lt (by omega), Array.getElem?_setIfInBounds_self_of_lt (by simpa [ptArr] using hk)]
    · rw [Array.getElem?_setIfInBounds_ne (by omega), Array.getElem?_setIfInBounds_ne (by omega)]
      exact hc q hq j hj
  · rw [Array.getElem?_setIfInBounds_ne (by omega), (hne q e).1, (hne q e).2]
    exact hc q hq j hj
theorem PortsAt.congr (h : PortsAt w gp m f fw) (hf : ∀ i, i < m → f' i = f i ∧ fw' i = fw i) : PortsAt w gp m f' fw' := by
  obtain ⟨cs, hb, hs, hc⟩ := h
  exact ⟨cs, hb, hs, fun i hi j hj => by rw [(hf i hi).1, (hf i hi).2]; exact hc i hi j hj⟩
theorem PortsAt.block (h : PortsAt w gp m f fw) (hb : w'.heap[gp]? = w.heap[gp]?) : PortsAt w' gp m f fw := by
  obtain ⟨cs, hk, hs, hc⟩ := h
  exact ⟨cs, hb.trans hk, hs, hc⟩
theorem PortsAt.far (h : PortsAt w gp m f fw) {a : Addr} (ha : gp ≠ a.block) (u : Value) : PortsAt (w.setCell a u) gp m f fw := h.block (Below.heap_setCell w a u gp ha)
theorem PortsAt.drew (h : PortsAt w gp m f fw) : PortsAt w.drew gp m f fw := h
theorem PortsAt.alloc (h : PortsAt w gp m f fw) (o : Obj) : PortsAt (w.alloc o) gp m f fw := h.block (Below.heap_alloc w o gp h.lt)
theorem PortsAt.below {B : Nat} (h : PortsAt w gp m f fw) (hb : Below B w w') (hl : gp < B) : PortsAt w' gp m f fw := h.block (hb.block gp hl)
theorem PortsAt.touch {p : Nat → Prop} (h : PortsAt w gp m f fw) (ht : Touch p w w') (hp : ¬ p gp) : PortsAt w' gp m f fw := h.block (ht.block gp h.lt hp)

def topArr (id : Int) (gp m : Nat) (bv : Vec) (rt ch : Int) : Array Value := #[.int .i64 id, .slice (some ⟨gp, 0, none⟩) m m, .int .i64 bv.root, .int .i64 bv.cost, .int .i64 bv.bridge, .int .i64 bv.port, .int .i64 rt, .int .i64 ch]
/-- A bridge's part. -/
structure TreeAt (w : World) (g gp : Nat) (id : Int) (m : Nat) (f : Nat → Pt) (fw : Nat → Bool) (bv : Vec) (rt ch : Int) : Prop where
  top : Blk w g 83 (topArr id gp m bv rt ch)
  ports : PortsAt w gp m f fw
theorem TreeAt.ne (h : TreeAt w g gp id m f fw bv rt ch) : g ≠ gp := fun e => by
  subst e
  obtain ⟨cs, hb, _⟩ := h.ports
  have ht := h.top
  unfold Blk at ht hb
  rw [ht] at hb
  injection hb with hb
  injection hb with _ hb
  exact absurd hb (by decide)
theorem TreeAt.block (h : TreeAt w g gp id m f fw bv rt ch) (hg : w'.heap[g]? = w.heap[g]?) (hp : w'.heap[gp]? = w.heap[gp]?) : TreeAt w' g gp id m f fw bv rt ch := ⟨hg.trans h.top, h.ports.block hp⟩
theorem TreeAt.alloc (h : TreeAt w g gp id m f fw bv rt ch) (o : Obj) : TreeAt (w.alloc o) g gp id m f fw bv rt ch := ⟨h.top.alloc o, h.ports.alloc o⟩
theorem TreeAt.drew (h : TreeAt w g gp id m f fw bv rt ch) : TreeAt w.drew g gp id m f fw bv rt ch := h.block rfl rfl
theorem TreeAt.drewN (h : TreeAt w g gp id m f fw bv rt ch) (q : Nat) : TreeAt (w.drewN q) g gp id m f fw bv rt ch := h.block rfl rfl
theorem TreeAt.below (h : TreeAt w g gp id m f fw bv rt ch) (hb : Below w.heap.size w w') : TreeAt w' g gp id m f fw bv rt ch := h.block (hb.block g h.top.lt) (hb.block gp h.ports.lt)
theorem TreeAt.touch {p : Nat → Prop} (h : TreeAt w g gp id m f fw bv rt ch) (ht : Touch p w w') (h1 : ¬ p g) (h2 : ¬ p gp) : TreeAt w' g gp id m f fw bv rt ch := ⟨h.top.touch ht h1, h.ports.touch ht h2⟩
theorem TreeAt.congr (h : TreeAt w g gp id m f fw bv rt ch) (hf : ∀ i, i < m → f' i = f i ∧ fw' i = fw i) : TreeAt w g gp id m f' fw' bv rt ch := ⟨h.top, h.ports.congr hf⟩
/-- Its cells, one by one. -/
theorem TreeAt.t0 (h : TreeAt w g gp id m f fw bv rt ch) : w.cell? ⟨g, 0, none⟩ = some (.int .i64 id) := h.top.cell 0
theorem TreeAt.t1 (h : TreeAt w g gp id m f fw bv rt ch) : w.cell? ⟨g, 1, none⟩ = some (.slice (some ⟨gp, 0, none⟩) m m) := h.top.cell 1
theorem TreeAt.t2 (h : TreeAt w g gp id m f fw bv rt ch) : w.cell? ⟨g, 2, none⟩ = some (.int .i64 bv.root) := h.top.cell 2
theorem TreeAt.t3 (h : TreeAt w g gp id m f fw bv rt ch) : w.cell? ⟨g, 3, none⟩ = some (.int .i64 bv.cost) := h.top.cell 3
theorem TreeAt.t4 (h : TreeAt w g gp id m f fw bv rt ch) : w.cell? ⟨g, 4, none⟩ = some (.int .i64 bv.bridge) := h.top.cell 4
theorem TreeAt.t5 (h : TreeAt w g gp id m f fw bv rt ch) : w.cell? ⟨g, 5, none⟩ = some (.int .i64 bv.port) := h.top.cell 5
theorem TreeAt.t6 (h : TreeAt w g gp id m f fw bv rt ch) : w.cell? ⟨g, 6, none⟩ = some (.int .i64 rt) := h.top.cell 6
theorem TreeAt.t7 (h : TreeAt w g gp id m f fw bv rt ch) : w.cell? ⟨g, 7, none⟩ = some (.int .i64 ch) := h.top.cell 7

/-- The best, and the root port, are stored. -/
def set5 (w : World) (g : Nat) (nb : Vec) (nr : Int) : World := ((((w.setCell ⟨g, 2, none⟩ (.int .i64 nb.root)).setCell ⟨g, 3, none⟩ (.int .i64 nb.cost)).setCell ⟨g, 4, none⟩ (.int .i64 nb.bridge)).setCell ⟨g, 5, none⟩ (.int .i64 nb.port)).setCell ⟨g, 6, none⟩ (.int .i64 nr)
theorem TreeAt.top5 (h : TreeAt w g gp id m f fw bv rt ch) (nb : Vec) (nr : Int) : TreeAt (set5 w g nb nr) g gp id m f fw nb nr ch := by
  have hne : ∀ i, gp ≠ (⟨g, i, none⟩ : Addr).block := fun i e => h.ne e.symm
  exact ⟨((((h.top.set_ 2 _).set_ 3 _).set_ 4 _).set_ 5 _).set_ 6 _, ((((h.ports.far (hne 2) _).far (hne 3) _).far (hne 4) _).far (hne 5) _).far (hne 6) _⟩
theorem set5_touch {p : Nat → Prop} {w0 w : World} (ht : Touch p w0 w) {g : Nat} (hp : g < w0.heap.size → p g) (nb : Vec) (nr : Int) : Touch p w0 (set5 w g nb nr) :=
  ((((ht.set_ (a := ⟨g, 2, none⟩) hp _).set_ (a := ⟨g, 3, none⟩) hp _).set_ (a := ⟨g, 4, none⟩) hp _).set_ (a := ⟨g, 5, none⟩) hp _).set_ (a := ⟨g, 6, none⟩) hp _
/-- Ports that got their roles so far. -/
def anewTo (id : Int) (m : Nat) (now : Int) (f : Nat → Pt) (j : Nat) : Nat → Pt := fun i => if i < j then anewP id m now f i else f i
theorem TreeAt.anew_same {j : Nat} {now : Int} (h : TreeAt w g gp id m (anewTo id m now f j) fw bv rt ch) (he : (f j).role = roleP id m f j) : TreeAt w g gp id m (anewTo id m now f (j + 1)) fw bv rt ch := by
  refine h.congr fun i hi => ⟨?_, rfl⟩
  unfold anewTo
  by_cases e : i = j
  · subst e
    rw [if_pos (by omega), if_neg (by omega), anew_stays id m now f i he.symm]
  · by_cases hl : i < j
    · rw [if_pos (by omega), if_pos hl]
    · rw [if_neg (by omega), if_neg hl]
theorem TreeAt.anew_new {j : Nat} {now : Int} (h : TreeAt w g gp id m (anewTo id m now f j) fw bv rt ch) (hj : j < m) (he : (f j).role ≠ roleP id m f j) :
    TreeAt ((w.setCell ⟨gp, j * 12, none⟩ (.int .i64 (roleP id m f j))).setCell ⟨gp, j * 12 + 1, none⟩ (.int .i64 now)) g gp id m (anewTo id m now f (j + 1)) fw bv rt ch := by
  have hne : ∀ i, g ≠ (⟨gp, i, none⟩ : Addr).block := fun i e => h.ne e
  have e0 : anewTo id m now f j j = f j := if_neg (by omega)
  have e1 : anewTo id m now f (j + 1) j = { f j with role := roleP id m f j, since := now } := by
    unfold anewTo anewP
    rw [if_pos (Nat.lt_succ_self j), if_pos ⟨hj, fun e => he e.symm⟩]
  have h1 : PortsAt (w.setCell ⟨gp, j * 12, none⟩ (.int .i64 (roleP id m f j))) gp m (updP (anewTo id m now f j) j { f j with role := roleP id m f j }) fw := by
    refine h.ports.set_ (k := 0) hj (by decide) _ (fun i hi => ⟨if_neg hi, rfl⟩) ?_
    rw [e0]
    unfold updP
    rw [if_pos rfl]
    rfl
  refine ⟨(h.top.far (hne _) _).far (hne _) _, h1.set_ (k := 1) hj (by decide) _ (fun i hi => ⟨?_, rfl⟩) ?_⟩
  · unfold updP anewTo
    rw [if_neg hi]
    by_cases hl : i < j
    · rw [if_pos (by omega), if_pos hl]
    · rw [if_neg (by omega), if_neg hl]
  · rw [e1]
    unfold updP
    rw [if_pos rfl]
    rfl

theorem NumsAt.one {gR n j k : Nat} {F : Nat → Int} (h : NumsAt w gR n F j) (hk : k < j) {v : Int} (hv : F k = v) : w.cell? ⟨gR, k, none⟩ = some (.int .i64 v) ∧ w.frozen? ⟨gR, k, none⟩ = false := by
  obtain ⟨cs, hb, h1, h2⟩ := h
  exact ⟨by rw [hb.cell, h2 k hk, hv], hb.frozen k⟩
theorem NumsAt.block {gR n j : Nat} {F : Nat → Int} (h : NumsAt w gR n F j) (hb : w'.heap[gR]? = w.heap[gR]?) : NumsAt w' gR n F j := by
  obtain ⟨cs, hk, h1, h2⟩ := h
  exact ⟨cs, hb.trans hk, h1, h2⟩
theorem NumsAt.away {gR n j : Nat} {F : Nat → Int} (h : NumsAt w gR n F j) {a : Addr} (ha : gR ≠ a.block) (u : Value) : NumsAt (w.setCell a u) gR n F j := by
  obtain ⟨cs, hb, h1, h2⟩ := h
  exact ⟨cs, hb.far ha _, h1, h2⟩
theorem TreeAt.away (h : TreeAt w g gp id m f fw bv rt ch) {a : Addr} (h1 : g ≠ a.block) (h2 : gp ≠ a.block) (u : Value) : TreeAt (w.setCell a u) g gp id m f fw bv rt ch := ⟨h.top.far h1 u, h.ports.far h2 u⟩
theorem NumsAt.other {gR n j : Nat} {F : Nat → Int} (h : NumsAt w gR n F j) {nb : Vec} {nr : Int} (hne : gR ≠ g) : NumsAt (set5 w g nb nr) gR n F j := by
  obtain ⟨cs, hb, h1, h2⟩ := h
  have e := fun (i : Nat) => (show gR ≠ (⟨g, i, none⟩ : Addr).block from hne)
  exact ⟨cs, ((((hb.far (e 2) _).far (e 3) _).far (e 4) _).far (e 5) _).far (e 6) _, h1, h2⟩
/-- What was heard, copied so far. -/
def ListAt (w : World) (gl m : Nat) (F : Nat → Hd) (j : Nat) : Prop := ∃ cs, Blk w gl 86 cs ∧ cs.size = m * 7 ∧ ∀ i, i < j → ∀ k, k < 7 → cs[i * 7 + k]? = (F i).arr[k]?
def set7 (w : World) (gl o : Nat) (h : Hd) : World := ((((((w.setCell ⟨gl, o, none⟩ (.int .i64 h.root)).setCell ⟨gl, o + 1, none⟩ (.int .i64 h.cost)).setCell ⟨gl, o + 2, none⟩ (.int .i64 h.bridge)).setCell ⟨gl, o + 3, none⟩ (.int .i64 h.port)).setCell ⟨gl, o + 4, none⟩ (.int .i64 h.age)).setCell ⟨gl, o + 5, none⟩ (.int .i64 h.way)).setCell ⟨gl, o + 6, none⟩ (.bool h.none)
theorem set7_other (w : World) (gl o : Nat) (h : Hd) {k : Nat} (hk : k ≠ gl) : (set7 w gl o h).heap[k]? = w.heap[k]? := by
  unfold set7
  have e := fun (w : World) (i : Nat) (u : Value) => Below.heap_setCell w ⟨gl, i, none⟩ u k hk
  exact ((((((e _ _ _).trans (e _ _ _)).trans (e _ _ _)).trans (e _ _ _)).trans (e _ _ _)).trans (e _ _ _)).trans (e _ _ _)
theorem set7_touch {p : Nat → Prop} {w0 w : World} (ht : Touch p w0 w) {gl : Nat} (hp : gl < w0.heap.size → p gl) (o : Nat) (h : Hd) : Touch p w0 (set7 w gl o h) :=
  ((((((ht.set_ (a := ⟨gl, o, none⟩) hp _).set_ (a := ⟨gl, o + 1, none⟩) hp _).set_ (a := ⟨gl, o + 2, none⟩) hp _).set_ (a := ⟨gl, o + 3, none⟩) hp _).set_ (a := ⟨gl, o + 4, none⟩) hp _).set_ (a := ⟨gl, o + 5, none⟩) hp _).set_ (a := ⟨gl, o + 6, none⟩) hp _
theorem ListAt.next {gl : Nat} {F : Nat → Hd} {j : Nat} (h : ListAt w gl m F j) (hj : j < m) : ListAt (set7 w gl (j * 7) (F j)) gl m F (j + 1) := by
  obtain ⟨cs, hb, hs, hc⟩ := h
  refine ⟨_, ((((((Blk.set_ hb (j * 7) _).set_ (j * 7 + 1) _).set_ (j * 7 + 2) _).set_ (j * 7 + 3) _).set_ (j * 7 + 4) _).set_ (j * 7 + 5) _).set_ (j * 7 + 6) _, by simp [hs], fun i hi k hk => ?_⟩
  by_cases e : i = j
  · subst e
    rcases (show k = 0 ∨ k = 1 ∨ k = 2 ∨ k = 3 ∨ k = 4 ∨ k = 5 ∨ k = 6 from by omega) with rfl | rfl | rfl | rfl | rfl | rfl | rfl <;>
      simp [Array.getElem?_setIfInBounds, hs, Hd.arr] <;> omega
  · have := hc i (by omega) k hk
    rw [Array.getElem?_setIfInBounds_ne (by omega), Array.getElem?_setIfInBounds_ne (by omega), Array.getElem?_setIfInBounds_ne (by omega), Array.getElem?_setIfInBounds_ne (by omega), Array.getElem?_setIfInBounds_ne (by omega), Array.getElem?_setIfInBounds_ne (by omega), Array.getElem?_setIfInBounds_ne (by omega)]
    exact this
theorem ListAt.at_ {gl : Nat} {F : Nat → Hd} {l : List Hd} (h : ListAt w gl m F m) (hl : l.length = m) (hF : ∀ i, i < m → l.getD i hd0 = F i) : HdAt w w.heap.size (some ⟨gl, 0, none⟩) l := fun k hk => by
  obtain ⟨cs, hb, hs, hc⟩ := h
  have hk' : k < m := by omega
  rw [hF k hk']
  have hj : ∀ j, j < 7 → w.cell? ⟨gl, 0 + k * 7 + j, none⟩ = (F k).arr[j]? := fun j hj => by rw [Nat.zero_add]; exact (hb.cell _).trans (hc k hk' j hj)
  exact ⟨gl, 0, rfl, hb.lt, hj 0 (by omega), hj 1 (by omega), hj 2 (by omega), hj 3 (by omega), hj 4 (by omega), hj 5 (by omega), hj 6 (by omega)⟩
theorem ListAt.block {gl j : Nat} {F : Nat → Hd} (h : ListAt w gl m F j) (hb : w'.heap[gl]? = w.heap[gl]?) : ListAt w' gl m F j := by
  obtain ⟨cs, hk, hs, hc⟩ := h
  exact ⟨cs, hb.trans hk, hs, hc⟩
/-- The seven cells that are written can be. -/
theorem ListAt.can {gl j k : Nat} {F : Nat → Hd} (h : ListAt w gl m F j) (hk : k < m * 7) : (∃ v0, w.cell? ⟨gl, k, none⟩ = some v0) ∧ w.frozen? ⟨gl, k, none⟩ = false := by
  obtain ⟨cs, hb, hs, hc⟩ := h
  exact ⟨⟨cs[k]'(by omega), by rw [hb.cell, Array.getElem?_eq_getElem (by omega)]⟩, hb.frozen k⟩
/-- What was heard at a port is stored. -/
def gotW (p : Pt) (h : Hd) : Pt := { p with vec := ⟨h.root, h.cost, h.bridge, h.port⟩, age := h.age, way := h.way, none := h.none }
theorem PortsAt.set7 (h : PortsAt w gp m f fw) {i : Nat} (hi : i < m) (x : Hd) : PortsAt (set7 w gp (i * 12 + 4) x) gp m (updP f i (gotW (f i) x)) fw := by
  obtain ⟨cs, hb, hs, hc⟩ := h
  refine ⟨_, ((((((Blk.set_ hb (i * 12 + 4) _).set_ (i * 12 + 4 + 1) _).set_ (i * 12 + 4 + 2) _).set_ (i * 12 + 4 + 3) _).set_ (i * 12 + 4 + 4) _).set_ (i * 12 + 4 + 5) _).set_ (i * 12 + 4 + 6) _, by simp [hs], fun q hq k hk => ?_⟩
  by_cases e : q = i
  · subst e
    have := hc q hq k hk
    unfold updP
    rw [if_pos rfl]
    rcases (show k = 0 ∨ k = 1 ∨ k = 2 ∨ k = 3 ∨ k = 4 ∨ k = 5 ∨ k = 6 ∨ k = 7 ∨ k = 8 ∨ k = 9 ∨ k = 10 ∨ k = 11 from by omega) with rfl | rfl | rfl | rfl | rfl | rfl | rfl | rfl | rfl | rfl | rfl | rfl <;>
      first
      | (rw [Array.getElem?_setIfInBounds_ne (by omega), Array.getElem?_setIfInBounds_ne (by omega), Array.getElem?_setIfInBounds_ne (by omega), Array.getElem?_setIfInBounds_ne (by omega), Array.getElem?_setIfInBounds_ne (by omega), Array.getElem?_setIfInBounds_ne (by omega), Array.getElem?_setIfInBounds_ne (by omega)]; exact this)
      | (simp [Array.getElem?_setIfInBounds, hs, ptArr, gotW]; omega)
  · have := hc q hq k hk
    unfold updP
    rw [if_neg e, Array.getElem?_setIfInBounds_ne (by omega), Array.getElem?_setIfInBounds_ne (by omega), Array.getElem?_setIfInBounds_ne (by omega), Array.getElem?_setIfInBounds_ne (by omega), Array.getElem?_setIfInBounds_ne (by omega), Array.getElem?_setIfInBounds_ne (by omega), Array.getElem?_setIfInBounds_ne (by omega)]
    exact this
end
end Go.Proofs.Ytadejdhdkkfliaa
