/- What a bridge's part says, as plain data and as it lies in memory; opens, age, tellsChange as contracts. Their conditions: up to six ports, ticks up to 2^40. -/
import Derived.Test.YtadejdhdkkfliaaTset
namespace Go.Proofs.Ytadejdhdkkfliaa
open Go.RowKit
set_option maxRecDepth 100000

structure Sd where
  port : Int
  b : Bp
def sd0 : Sd := ⟨0, ⟨0, 0, 0, 0, 0, 0, false⟩⟩
instance : Inhabited Sd := ⟨sd0⟩
def Sd.cells (s : Sd) : List Value := [.int .i64 s.port, .int .i64 s.b.root, .int .i64 s.b.cost, .int .i64 s.b.bridge, .int .i64 s.b.port, .int .i64 s.b.age, .int .i64 s.b.role, .bool s.b.change]
def sdL : List Sd → List Value
  | [] => []
  | a :: l => a.cells ++ sdL l
theorem sdL_append (l m : List Sd) : sdL (l ++ m) = sdL l ++ sdL m := by
  induction l with
  | nil => rfl
  | cons a l ih => simp [sdL, ih]
theorem sdL_length (l : List Sd) : (sdL l).length = l.length * 8 := by
  induction l with
  | nil => rfl
  | cons a l ih => simp [sdL, ih, Sd.cells]; omega
theorem sdL_at (l : List Sd) (k : Nat) (h : k < l.length) (j : Nat) (hj : j < 8) : (sdL l)[k * 8 + j]? = (l.getD k sd0).cells[j]? := by
  induction l generalizing k with
  | nil => simp at h
  | cons a l ih =>
    cases k with
    | zero =>
      simp only [sdL]
      rw [List.getElem?_append_left (by simp [Sd.cells]; omega)]
      simp
    | succ k =>
      simp only [sdL]
      rw [List.getElem?_append_right (by simp [Sd.cells]; omega)]
      have e : (k + 1) * 8 + j - a.cells.length = k * 8 + j := by simp [Sd.cells]; omega
      rw [e, ih k (by simpa using h)]
      simp
theorem sdL_one (l : List Sd) : ∀ u ∈ sdL l, u.oneCell' = true := by
  induction l with
  | nil => simp [sdL]
  | cons a l ih =>
    intro u hu
    simp only [sdL, List.mem_append, Sd.cells] at hu
    rcases hu with hu | hu
    · simp only [List.mem_cons, List.not_mem_nil, or_false] at hu
      rcases hu with rfl | rfl | rfl | rfl | rfl | rfl | rfl | rfl <;> rfl
    · exact ih u hu
/-- The eight cells of one. -/
structure SdCells (w : World) (b i : Nat) (s : Sd) : Prop where
  c0 : w.cell? ⟨b, i, none⟩ = some (.int .i64 s.port)
  c1 : w.cell? ⟨b, i + 1, none⟩ = some (.int .i64 s.b.root)
  c2 : w.cell? ⟨b, i + 2, none⟩ = some (.int .i64 s.b.cost)
  c3 : w.cell? ⟨b, i + 3, none⟩ = some (.int .i64 s.b.bridge)
  c4 : w.cell? ⟨b, i + 4, none⟩ = some (.int .i64 s.b.port)
  c5 : w.cell? ⟨b, i + 5, none⟩ = some (.int .i64 s.b.age)
  c6 : w.cell? ⟨b, i + 6, none⟩ = some (.int .i64 s.b.role)
  c7 : w.cell? ⟨b, i + 7, none⟩ = some (.bool s.b.change)
theorem SdCells.below {w w' : World} {B b i : Nat} {s : Sd} (h : SdCells w b i s) (hb : Below B w w') (hl : b < B) : SdCells w' b i s :=
  ⟨(hb.cell (p := ⟨b, i, none⟩) hl).trans h.c0, (hb.cell (p := ⟨b, i + 1, none⟩) hl).trans h.c1, (hb.cell (p := ⟨b, i + 2, none⟩) hl).trans h.c2, (hb.cell (p := ⟨b, i + 3, none⟩) hl).trans h.c3,
    (hb.cell (p := ⟨b, i + 4, none⟩) hl).trans h.c4, (hb.cell (p := ⟨b, i + 5, none⟩) hl).trans h.c5, (hb.cell (p := ⟨b, i + 6, none⟩) hl).trans h.c6, (hb.cell (p := ⟨b, i + 7, none⟩) hl).trans h.c7⟩
/-- A row of the program's own. -/
def OwnS (w : World) (base : Nat) (A : Option Addr) (c : Nat) (l : List Sd) : Prop := w.ownsRow base 52 8 (.slice A l.length c) l.length (sdL l)
theorem OwnS.at_ {w : World} {base c : Nat} {A : Option Addr} {l : List Sd} (h : OwnS w base A c l) {k : Nat} (hk : k < l.length) : ∃ b, A = some ⟨b, 0, none⟩ ∧ base ≤ b ∧ b < w.heap.size ∧ SdCells w b (k * 8) (l.getD k sd0) := by
  obtain ⟨b, rfl, hl, hc⟩ := own_at h (by omega)
  have hj : ∀ j, j < 8 → ∀ u, (l.getD k sd0).cells[j]? = some u → w.cell? ⟨b, k * 8 + j, none⟩ = some u := fun j hj u hu => hc _ _ ((sdL_at l k hk j hj).trans hu)
  exact ⟨b, rfl, (World.ownsRow.lt h b rfl).1, hl, hj 0 (by omega) _ rfl, hj 1 (by omega) _ rfl, hj 2 (by omega) _ rfl, hj 3 (by omega) _ rfl, hj 4 (by omega) _ rfl, hj 5 (by omega) _ rfl, hj 6 (by omega) _ rfl, hj 7 (by omega) _ rfl⟩
theorem said_info : (Try.prog.info? 52).map (fun i => (i.zero, i.size, i.bytes)) = some (some (.agg #[.int .i64 0, .int .i64 0, .int .i64 0, .int .i64 0, .int .i64 0, .int .i64 0, .int .i64 0, .bool false]), 8, 64) := by kernel_rfl
/-- One more. -/
theorem append_sd (w : World) (base : Nat) (A0 : Option Addr) (c0 n0 : Nat) (l : List Sd) (hl0 : l.length = n0) (hown : OwnS w base A0 c0 l) (g : Nat) (s : Sd) (hg : Blk w g 52 s.cells.toArray) (hn : l.length ≤ 1048576) (hbase : base ≤ w.heap.size) :
    ∃ a' c' w', (Builtin.append_ #[35, 35] 35 #[.slice A0 n0 c0, .slice (some ⟨g, 0, none⟩) 1 1]).run Try.prog w = .ok (.slice a' (n0 + 1) c') w' ∧ OwnS w' base a' c' (l ++ [s]) ∧ w.grownBy w' (Value.slice A0 n0 c0).ownBlock := by
  subst hl0
  obtain ⟨i0, hi0, hz0, hz1, hz2⟩ := info_parts said_info
  obtain ⟨a', c', w', hr, ho, hgr, _, _⟩ := append_src w base 35 35 52 i0 _ 8 64 Try.underlying35 hi0 hz0 hz1 hz2 rfl (by decide) _ l.length (sdL l) hown (some ⟨g, 0, none⟩) 1 1 (sdL [s]) (by rw [sdL_length]; rfl) (fun h => by cases h)
    (fun _ => ⟨g, 0, rfl, fun j u hu => by
      rw [Nat.zero_add, hg.cell]
      have e : sdL [s] = s.cells := by simp [sdL]
      rw [e] at hu
      rw [← hu]
      simp⟩)
    (sdL_one [s]) (by unfold maxLen; omega) (by omega) hbase
  refine ⟨a', c', w', hr, ?_, hgr⟩
  unfold OwnS
  rw [sdL_append, List.length_append]
  exact ho

/-- Whether a port forwards. -/
def fwN (f : Nat → Pt) (now : Int) (i : Nat) : Bool := stateP (f i) now == 2
def fwTo (f : Nat → Pt) (fw : Nat → Bool) (now : Int) (j i : Nat) : Bool := if i < j then fwN f now i else fw i
def opensTo (f : Nat → Pt) (fw : Nat → Bool) (now : Int) : Nat → Bool
  | 0 => false
  | j + 1 => opensTo f fw now j || (fw j != fwN f now j)
def tells (ch now : Int) : Bool := decide (ch ≠ -1 ∧ now - ch ≤ 4)
def saidOf (id : Int) (m : Nat) (f : Nat → Pt) (ch now : Int) (i : Nat) : Sd := ⟨i, ⟨(bestP id m f).1.root, (bestP id m f).1.cost, id, i, ageP id m f, 2, tells ch now⟩⟩
def saidTo (id : Int) (m : Nat) (f : Nat → Pt) (ch now : Int) : Nat → List Sd
  | 0 => []
  | j + 1 => if (f j).role = 2 then saidTo id m f ch now j ++ [saidOf id m f ch now j] else saidTo id m f ch now j
theorem said_len (id : Int) (m : Nat) (f : Nat → Pt) (ch now : Int) (j : Nat) : (saidTo id m f ch now j).length ≤ j := by
  induction j with
  | zero => exact Nat.le_refl _
  | succ j ih =>
    unfold saidTo
    split
    · simp; omega
    · omega
theorem wrap_sub {a b : Int} (ha : 0 ≤ a) (ha' : a ≤ 1099511627776) (hb : 0 ≤ b) (hb' : b ≤ 1099511627776) : wrap64 (a - b) = a - b := IntWalk.wrap64_in _ (by omega)
theorem TreeAt.five {w : World} {g gp m : Nat} {f : Nat → Pt} {fw : Nat → Bool} {id ch rt : Int} {bv bw : Vec} (h : TreeAt w g gp id m f fw bw rt ch) (e : bw = bv) :
    w.cell? ⟨g, 0, none⟩ = some (.int .i64 id) ∧ w.cell? ⟨g, 2, none⟩ = some (.int .i64 bv.root) ∧ w.cell? ⟨g, 3, none⟩ = some (.int .i64 bv.cost) ∧ w.cell? ⟨g, 4, none⟩ = some (.int .i64 bv.bridge) ∧ w.cell? ⟨g, 5, none⟩ = some (.int .i64 bv.port) := by
  subst e
  exact ⟨h.t0, h.t2, h.t3, h.t4, h.t5⟩
section
variable {w : World} {g gp m : Nat} {f : Nat → Pt} {fw : Nat → Bool} {id ch : Int}
set_option maxHeartbeats 2000000 in
theorem tells_any (h : TreeW w g gp id m f fw ch) (now : Int) (h0 : 0 ≤ now) (h1 : now ≤ 1099511627776) (hc : ch = -1 ∨ 0 ≤ ch ∧ ch ≤ now) :
    Calls Try.prog 61 #[.pointer (some ⟨g, 0, none⟩), .int .i64 now] w fun e w' => e = .returned (.bool (tells ch now)) ∧ w = w' := by
  have t7 := h.t7
  clear h
  by_cases he : ch = -1
  · subst he
    rw [show tells (-1) now = false from decide_eq_false fun h => h.1 rfl]
    clear h0 h1 hc
    go_enter Try.func61, Try.ntmps61
    go_wp2_with fail
    go_ret
    exact ⟨rfl, rfl⟩
  · have hw : wrap64 (now - ch) = now - ch := wrap_sub h0 h1 (by omega) (by omega)
    rw [show tells ch now = decide (now - ch ≤ 4) from decide_eq_decide.2 ⟨fun h => h.2, fun h => ⟨he, h⟩⟩]
    have d0 : (ch != -1) = true := by simpa using he
    have HW := Lib.hid hw
    obtain ⟨x, hx⟩ : ∃ x, now - ch = x := ⟨_, rfl⟩
    rw [hx] at HW ⊢
    clear h0 h1 hc he hw
    go_enter Try.func61, Try.ntmps61
    go_wp2_with fail
    go_ret
    exact ⟨ret_bool (by rw [HW.out]), rfl⟩
set_option maxHeartbeats 2000000 in
theorem age_any (h : TreeW w g gp id m f fw ch) :
    Calls Try.prog 60 #[.pointer (some ⟨g, 0, none⟩)] w fun e w' => e = .returned (.int .i64 (ageP id m f)) ∧ Below w.heap.size w w' := by
  have t6 := h.t6
  have t1 := h.t1
  have hlow := age_low id m f
  unfold ageP at hlow ⊢
  rcases bestTo_at id (hds m f) m with ⟨h1, _⟩ | ⟨k, hk, h1⟩
  · have e : (bestP id m f).2 = -1 := h1
    rw [e] at t6 ⊢
    rw [if_pos (show (-1 : Int) < 0 by decide)]
    clear h hlow e h1
    go_enter Try.func60, Try.ntmps60
    go_wp2_with fail
    go_ret
    exact ⟨rfl, Below.refl _ _⟩
  · have e : (bestP id m f).2 = k := h1
    have c8 := (h.ports.cells hk).c8
    rw [e] at t6 hlow ⊢
    rw [if_neg (show ¬ (k : Int) < 0 by omega), Int.toNat_natCast] at hlow ⊢
    obtain ⟨a, ha⟩ : ∃ a, (f k).age = a := ⟨_, rfl⟩
    rw [ha] at c8 hlow ⊢
    have HW := Lib.hid (show wrap64 (a + 1) = a + 1 from IntWalk.wrap64_in _ (by omega))
    have j0 : (0 : Int) ≤ k := by omega
    have j1 : (k : Int) < m := by omega
    have d1 : ((k : Int) == -1) = false := by simp
    clear h hlow e h1 hk ha
    go_enter Try.func60, Try.ntmps60
    go_wp2_with fail
    go_region
    go_wp2_with fail
    go_ret
    exact ⟨ret_i64 HW.out, (Below.refl _ _).drew⟩
set_option maxHeartbeats 4000000 in
theorem topens_any (h : TreeW w g gp id m f fw ch) (now : Int) (h0 : 0 ≤ now) (h1 : now ≤ 1099511627776) (hok : POk now m f) (hm : m ≤ 6) :
    Calls Try.prog 42 #[.pointer (some ⟨g, 0, none⟩), .int .i64 now] w fun e w' => e = .returned (.bool (opensTo f fw now m)) ∧ TreeW w' g gp id m f (fwN f now) ch ∧ Touch (fun k => k = gp) w w' := by
  have t1 := h.t1
  have H := Lib.hid h
  have HN := Lib.hid (And.intro h0 (And.intro h1 (And.intro hok hm)))
  have m0 : (0 : Int) ≤ m := by omega
  clear h h0 h1 hok hm
  go_enter Try.func42, Try.ntmps42
  go_wp2_with fail
  go_loopw [5, 12] (fun bv iv wr => ∃ j : Nat, j ≤ m ∧ iv = .int .i64 j ∧ bv = .bool (opensTo f fw now j) ∧ Hid (TreeW wr g gp id m f (fwTo f fw now j) ch ∧ Touch (fun k => k = gp) w wr)) (fun _ iv _ => m - (intOf iv).toNat)
  case atStart => exact ⟨0, Nat.zero_le _, rfl, rfl, Lib.hid ⟨H.out.congr fun i _ => ⟨rfl, if_neg (Nat.not_lt_zero i)⟩, Touch.refl _ _⟩⟩
  case round =>
    obtain ⟨j, hj, rfl, rfl, hS⟩ := hrel
    by_cases hlt : j < m
    · have j1 : (j : Int) < m := by omega
      have j0 : (0 : Int) ≤ j := by omega
      have HJ := Lib.hid (show wrap64 ((j : Int) + 1) = (j : Int) + 1 from IntWalk.wrap64_in _ (by have := HN.out.2.2.2; omega))
      have hW := hS.out.1
      have t1 := hW.t1
      have hp := HN.out.2.2.1 j hlt
      have hw : wrap64 (now - (f j).since) = now - (f j).since := wrap_sub HN.out.1 HN.out.2.1 hp.since.1 (by have := hp.since.2; have := HN.out.2.1; omega)
      have hc := hW.ports.cells hlt
      rw [show fwTo f fw now j j = fw j from if_neg (Nat.lt_irrefl j)] at hc
      have hop : ∀ wz, wz.heap = wr.heap → Touch (fun k => k = gp) wr wz → Calls Try.prog 58 #[.pointer (some ⟨gp, j * 12, none⟩), .int .i64 now] wz fun e w' => e = .returned (.bool (fw j != fwN f now j)) ∧ TreeW w' g gp id m f (fwTo f fw now (j + 1)) ch ∧ Touch (fun k => k = gp) wr w' := fun wz hz htz => by
        have hWz : TreeW wz g gp id m f (fwTo f fw now j) ch := TreeAt.block hW (by rw [hz]) (by rw [hz])
        have hcz := hWz.ports.cells hlt
        rw [show fwTo f fw now j j = fw j from if_neg (Nat.lt_irrefl j)] at hcz
        by_cases he : fw j = fwN f now j
        · rw [show (fw j != fwN f now j) = false by simp [he]]
          refine (opens_same gp (j * 12) (f j).role (f j).since now (fw j) (by rw [he]; rfl) hw wz hcz.c0 hcz.c1 hcz.c2).mono ?_
          rintro e w' ⟨rfl, rfl⟩
          refine ⟨rfl, hWz.congr fun i _ => ⟨rfl, ?_⟩, htz⟩
          unfold fwTo
          by_cases e : i = j
          · subst e
            rw [if_pos (Nat.lt_succ_self _), if_neg (Nat.lt_irrefl _), he]
          · by_cases hl : i < j
            · rw [if_pos (by omega), if_pos hl]
            · rw [if_neg (by omega), if_neg hl]
        · rw [show (fw j != fwN f now j) = true by simp [he]]
          refine (opens_new gp (j * 12) (f j).role (f j).since now (fw j) (fwN f now j) rfl he hw wz hcz.c0 hcz.c1 hcz.c2 (hWz.ports.frozen _)).mono ?_
          rintro e w' ⟨rfl, rfl⟩
          refine ⟨rfl, ⟨hWz.top.far (show g ≠ gp from hWz.ne) _, hWz.ports.set_ (k := 2) hlt (by decide) _ (fun i hi => ⟨rfl, ?_⟩) ?_⟩, htz.set_ (a := ⟨gp, _, none⟩) (fun _ => rfl) _⟩
          · unfold fwTo
            by_cases hl : i < j
            · rw [if_pos (by omega), if_pos hl]
            · rw [if_neg (by omega), if_neg hl]
          · unfold fwTo
            rw [if_pos (Nat.lt_succ_self _), if_neg (Nat.lt_irrefl _)]
            rfl
      have hst : opensTo f fw now (j + 1) = (opensTo f fw now j || (fw j != fwN f now j)) := rfl
      obtain ⟨o, ho⟩ : ∃ o, (fw j != fwN f now j) = o := ⟨_, rfl⟩
      rw [ho] at hop hst
      obtain ⟨o1, ho1⟩ : ∃ o1, opensTo f fw now j = o1 := ⟨_, rfl⟩
      rw [ho1] at hst ⊢
      have HO := Lib.hid hop
      have HT := Lib.hid hst
      clear hW hp hw hc hop hst ho ho1 hj
      go_wp2_with fail
      refine (HO.out wr rfl (Touch.refl _ _)).mono ?_
      rintro e w2 ⟨rfl, h2, t2⟩
      have H2 := Lib.hid (And.intro h2 (hS.out.2.trans (t2.mono fun k _ hk => hk)))
      clear h2 t2
      cases o
      all_goals
        go_wp2_with fail
        go_roundw
        case rel =>
          rw [HJ.out]
          exact ⟨j + 1, hlt, by rw [Int.natCast_add]; rfl, by rw [HT.out]; cases o1 <;> rfl, H2⟩
        case measure =>
          rw [HJ.out]
          show m - ((j : Int) + 1).toNat < m - ((j : Int)).toNat
          omega
    · obtain rfl : m = j := by omega
      have hend : TreeW wr g gp id m f (fwN f now) ch := hS.out.1.congr fun i hi => ⟨rfl, (if_pos hi : fwTo f fw now m i = _).symm⟩
      have HE := Lib.hid (And.intro hend hS.out.2)
      clear hend
      go_wp2_with fail
      go_ret
      exact ⟨rfl, HE.out⟩
set_option maxHeartbeats 4000000 in
theorem says_any (h : TreeW w g gp id m f fw ch) (now : Int) (h0 : 0 ≤ now) (h1 : now ≤ 1099511627776) (hc : ch = -1 ∨ 0 ≤ ch ∧ ch ≤ now) (hm : m ≤ 6) :
    Calls Try.prog 43 #[.pointer (some ⟨g, 0, none⟩), .int .i64 now] w fun e w' => ∃ A c, e = .returned (.slice A (saidTo id m f ch now m).length c) ∧ OwnS w' w.heap.size A c (saidTo id m f ch now m) ∧ (A = none → c = 0) ∧ Below w.heap.size w w' := by
  have t1 := h.t1
  have H := Lib.hid h
  have HM := Lib.hid hm
  have HTE := Lib.hid (fun (w : World) (h : TreeW w g gp id m f fw ch) => tells_any h now h0 h1 hc)
  have HAG := Lib.hid (fun (w : World) (h : TreeW w g gp id m f fw ch) => age_any h)
  obtain ⟨ag, hag⟩ : ∃ ag, ageP id m f = ag := ⟨_, rfl⟩
  obtain ⟨te, hte⟩ : ∃ te, tells ch now = te := ⟨_, rfl⟩
  obtain ⟨bv, hbv⟩ : ∃ bv, (bestP id m f).1 = bv := ⟨_, rfl⟩
  rw [hag] at HAG
  rw [hte] at HTE
  have HOF := Lib.hid (fun (j : Nat) (w : World) => offer_any bv id j w)
  have HSD := Lib.hid (fun j => (show saidOf id m f ch now j = ⟨j, ⟨bv.root, bv.cost, id, j, ag, 2, te⟩⟩ by unfold saidOf; rw [hag, hte, hbv]))
  have m0 : (0 : Int) ≤ m := by omega
  clear h h0 h1 hc hm hag hte
  go_enter Try.func43, Try.ntmps43
  go_wp2_with fail
  go_loopw [5, 12] (fun lv iv wr => ∃ (j : Nat) (A : Option Addr) (c : Nat), j ≤ m ∧ iv = .int .i64 j ∧ lv = .slice A (saidTo id m f ch now j).length c ∧ Hid (OwnS wr w.heap.size A c (saidTo id m f ch now j) ∧ (A = none → c = 0) ∧ Below w.heap.size w wr)) (fun _ iv _ => m - (intOf iv).toNat)
  case atStart => exact ⟨0, none, 0, Nat.zero_le _, rfl, rfl, Lib.hid ⟨World.ownsRow_nil _ _ _ _, fun _ => rfl, Below.refl _ _⟩⟩
  case round =>
    obtain ⟨j, A, c, hj, rfl, rfl, hS⟩ := hrel
    have hW := H.out.below hS.out.2.2
    by_cases hlt : j < m
    · have j1 : (j : Int) < m := by omega
      have j0 : (0 : Int) ≤ j := by omega
      have HJ := Lib.hid (show wrap64 ((j : Int) + 1) = (j : Int) + 1 from IntWalk.wrap64_in _ (by have := HM.out; omega))
      have t1 := hW.t1
      have HR := Lib.hid (prole_any gp (j * 12) (f j).role wr (hW.ports.cells hlt).c0)
      have hlen := said_len id m f ch now j
      obtain ⟨l, hl⟩ : ∃ l, saidTo id m f ch now j = l := ⟨_, rfl⟩
      obtain ⟨k, hk⟩ : ∃ k, l.length = k := ⟨_, rfl⟩
      have hnx : saidTo id m f ch now (j + 1) = if (f j).role = 2 then l ++ [saidOf id m f ch now j] else l := by rw [← hl]; rfl
      rw [HSD.out j] at hnx
      rw [hl] at hS hlen ⊢
      rw [hk] at hlen ⊢
      have HK := Lib.hid (And.intro hk hlen)
      obtain ⟨ro, hro⟩ : ∃ ro, (f j).role = ro := ⟨_, rfl⟩
      rw [hro] at HR hnx
      by_cases h2 : ro = 2
      · subst h2
        rw [if_pos rfl] at hnx
        have HNX := Lib.hid hnx
        have HW := Lib.hid hW
        clear hnx hro hl hlen hj hW hk
        go_wp2_with (go_at_call 44; refine HR.out.mono ?_; rintro e w' ⟨rfl, rfl⟩)
        have hof := fun w => HOF.out j w
        simp only [Vec.v, Vec.arr, offerV] at hof
        have HOF2 := Lib.hid hof
        clear hof
        have z0 : wr.cell? ⟨g, 0, none⟩ = some (.int .i64 id) := HW.out.t0
        have z2 : wr.cell? ⟨g, 2, none⟩ = some (.int .i64 bv.root) := HW.out.t2.trans (by rw [hbv])
        have z3 : wr.cell? ⟨g, 3, none⟩ = some (.int .i64 bv.cost) := HW.out.t3.trans (by rw [hbv])
        have z4 : wr.cell? ⟨g, 4, none⟩ = some (.int .i64 bv.bridge) := HW.out.t4.trans (by rw [hbv])
        have z5 : wr.cell? ⟨g, 5, none⟩ = some (.int .i64 bv.port) := HW.out.t5.trans (by rw [hbv])
        have hjoin : ∀ wz, Below wr.heap.size wr.drew wz → ∃ a' c' w9, (Builtin.append_ #[35, 35] 35 #[.slice A k c, .slice (some ⟨wz.heap.size, 0, none⟩) 1 1]).run Try.prog (wz.alloc (.cells #[.int .i64 j, .int .i64 bv.root, .int .i64 bv.cost, .int .i64 id, .int .i64 j, .int .i64 ag, .int .i64 2, .bool te] 52)) = .ok (.slice a' (k + 1) c') w9 ∧
            Hid (OwnS w9 w.heap.size a' c' (l ++ [⟨j, ⟨bv.root, bv.cost, id, j, ag, 2, te⟩⟩]) ∧ (a' = none → c' = 0) ∧ Below w.heap.size w w9) := fun wz hz => by
          have hz' := Below.drewn hz
          have hS2 := hS.out.2.2.trans (hz'.mono hS.out.2.2.size)
          have o1 : OwnS wz w.heap.size A c l := own_heap hS.out.1 fun q hq => hz'.block q (World.ownsRow.lt hS.out.1 q hq).2
          have o2 : OwnS (wz.alloc (.cells #[.int .i64 j, .int .i64 bv.root, .int .i64 bv.cost, .int .i64 id, .int .i64 j, .int .i64 ag, .int .i64 2, .bool te] 52)) w.heap.size A c l := World.ownsRow.alloc o1 _
          have hb := Blk.new wz 52 #[.int .i64 j, .int .i64 bv.root, .int .i64 bv.cost, .int .i64 id, .int .i64 j, .int .i64 ag, .int .i64 2, .bool te]
          have hsz : w.heap.size ≤ (wz.alloc (.cells #[.int .i64 j, .int .i64 bv.root, .int .i64 bv.cost, .int .i64 id, .int .i64 j, .int .i64 ag, .int .i64 2, .bool te] 52)).heap.size := Nat.le_trans hS2.size (bel_alloc wz _).size
          obtain ⟨a', c', w9, hr, ho, hg⟩ := append_sd _ w.heap.size A c k l HK.out.1 o2 wz.heap.size ⟨j, ⟨bv.root, bv.cost, id, j, ag, 2, te⟩⟩ hb (by have := HK.out.1; have := HK.out.2; have := HM.out; omega) hsz
          have o2' := o2
          unfold OwnS at o2'
          rw [HK.out.1] at o2'
          exact ⟨a', c', w9, hr, Lib.hid ⟨ho, (own_cap ho).2, (hS2.trans ((bel_alloc wz _).mono hS2.size)).trans (bel_own o2' hg (Nat.le_refl _) hsz)⟩⟩
        have HJN := Lib.hid hjoin
        clear hjoin
        go_region_held3 (fun w' => w'.cell? ⟨g, 0, none⟩ = some (.int .i64 id) ∧ w'.cell? ⟨g, 2, none⟩ = some (.int .i64 bv.root) ∧ w'.cell? ⟨g, 3, none⟩ = some (.int .i64 bv.cost) ∧ w'.cell? ⟨g, 4, none⟩ = some (.int .i64 bv.bridge) ∧ w'.cell? ⟨g, 5, none⟩ = some (.int .i64 bv.port))
          (first
            | exact ⟨z0, z2, z3, z4, z5⟩
            | exact TreeAt.five x2 hbv
            | exact TreeAt.five x3 hbv
            | exact TreeAt.five (TreeAt.alloc x3 _) hbv
            | exact TreeAt.five x9 hbv)
          (first
            | (go_at_call 59; (with_reducible (refine (HOF2.out _).mono ?_)); rintro e w2 ⟨rfl, b2⟩; have x2 : TreeW w2 g gp id m f fw ch := HW.out.drew.below b2)
            | (go_at_call 60; (with_reducible (refine (HAG.out _ x2).mono ?_)); rintro e w3 ⟨rfl, b3⟩; have x3 : TreeW w3 g gp id m f fw ch := x2.below b3)
            | (go_at_call 61; (with_reducible (refine (HTE.out _ x3).mono ?_)); rintro e w4 ⟨rfl, rfl⟩; obtain ⟨a', c', w9, hr9, HE9⟩ := HJN.out _ (b2.trans (b3.mono b2.size)); have x9 : TreeW w9 g gp id m f fw ch := H.out.below HE9.out.2.2)
            | (refine step_append_run rfl (.tmp 24) (.tmp 43) 35 35 rfl _ _ (by simp [Act.eval]) (by simp [Act.eval]) hr9 ?_))
        all_goals
          clear b2 b3 x2 x3 x9
          go_wp2_with fail
          go_roundw
          case rel =>
            rw [HJ.out]
            refine ⟨j + 1, a', c', hlt, by rw [Int.natCast_add]; rfl, ?_, by rw [HNX.out]; exact HE9⟩
            rw [HNX.out, List.length_append, HK.out.1]
            rfl
          case measure =>
            rw [HJ.out]
            show m - ((j : Int) + 1).toNat < m - ((j : Int)).toNat
            omega
      · rw [if_neg h2] at hnx
        have HNX := Lib.hid hnx
        have d2 : (ro != 2) = true := by simpa using h2
        clear hnx hro hl hlen hj hW hk h2
        go_wp2_with (go_at_call 44; refine HR.out.mono ?_; rintro e w' ⟨rfl, rfl⟩)
        go_roundw
        case rel =>
          rw [HJ.out]
          exact ⟨j + 1, A, c, hlt, by rw [Int.natCast_add]; rfl, by rw [HNX.out, HK.out.1], by rw [HNX.out]; exact hS⟩
        case measure =>
          rw [HJ.out]
          show m - ((j : Int) + 1).toNat < m - ((j : Int)).toNat
          omega
    · obtain rfl : m = j := by omega
      clear hW
      go_wp2_with fail
      go_ret
      exact ⟨A, c, rfl, hS.out⟩
end
end Go.Proofs.Ytadejdhdkkfliaa
