/- Reach answers just the states to which some row of events leads; all of both tables' are come to (P13.1). No condition. -/
import Derived.Test.YtkdnngcmiggoeaaJreach
import Derived.Test.YtkdnngcmiggoeaaJsame
namespace Go.Proofs.Ytkdnngcmiggoeaa
open Go.ChangeShapes Go.WideShapes Go.ChangeAt Go.RowKit
set_option maxRecDepth 100000

theorem swR_take (n a : Nat) (S : List Bool) (r : List Ce) (j : Nat) (h : j < r.length) : swR n a S (r.take (j + 1)) = swC n a (swR n a S (r.take j)) (r.getD j ce0) := by
  rw [List.take_add_one, List.getElem?_eq_getElem h, swR_append, List.getD_eq_getElem?_getD, List.getElem?_eq_getElem h]
  rfl
theorem swC_len (n a : Nat) (S : List Bool) (c : Ce) : (swC n a S c).length = S.length := by
  unfold swC
  split
  · exact List.length_set
  · rfl
theorem swR_len (n a : Nat) (r : List Ce) : ∀ S : List Bool, (swR n a S r).length = S.length := by
  induction r with
  | nil => exact fun _ => rfl
  | cons c r ih => exact fun S => (ih _).trans (swC_len n a S c)
theorem swT_len (t : Tb) (S : List Bool) (k : Nat) : (swT t S k).length = S.length := by
  induction k with
  | zero => rfl
  | succ k ih => rw [swT_succ, swR_len, ih]
theorem swK_len (t : Tb) (S : List Bool) (k : Nat) : (swK t S k).length = S.length := by
  induction k with
  | zero => rfl
  | succ k ih => exact (swT_len t _ _).trans ih
theorem swC_no {n a : Nat} {S : List Bool} {c : Ce} (h : ¬ (S.getD a false = true ∧ 0 ≤ c.1 ∧ c.1 < n)) : swC n a S c = S := if_neg h
theorem swC_yes {n a b : Nat} {S : List Bool} {x1 : Int} (h : S.getD a false = true) (hb : b < n) : swC n a S ((b : Int), x1) = S.set b true := if_pos ⟨h, by show (0 : Int) ≤ b; omega, by show (b : Int) < n; omega⟩
theorem wants_succ (F : Nat → Bool) (j : Nat) : (((List.range (j + 1)).filter F).map Int.ofNat) = ((List.range j).filter F).map Int.ofNat ++ (if F j = true then [(j : Int)] else []) := by
  rw [List.range_succ, List.filter_append, List.map_append]
  by_cases h : F j = true
  · rw [if_pos h]
    simp [h]
  · rw [if_neg h]
    simp [h]
set_option maxHeartbeats 8000000 in
theorem walkTableReach (A : Option Addr) (cap : Nat) (t : Tb) (s : Int) (w : World) (ht : TbAt w w.heap.size A t ∧ t.length ≤ maxLen ∧ ∀ r ∈ t, r.length ≤ maxLen) (_hs : (Lit.int .i64 s).wf = true) :
    Calls Try.prog 7 #[.slice A t.length cap, .int .i64 s] w fun r w' => r = .returned (.bool true) ∧ Below w.heap.size w w' := by
  have HT := Lib.hid ht
  obtain ⟨n, hn⟩ : ∃ n, t.length = n := ⟨_, rfl⟩
  have HN := Lib.hid hn
  have hgr := fun (w0 : World) (b : Below w.heap.size w w0) => great13_any w0 A cap t (HT.out.1.keep b b.size) HT.out.2.1
  have hre := fun (h20 : t.length ≤ 1000000) (w0 : World) (b : Below w.heap.size w w0) => reach_any w0 A cap t s (HT.out.1.keep b b.size) h20 HT.out.2.2
  rw [hn] at hgr hre ⊢
  have HG := Lib.hid hgr
  have HRE := Lib.hid hre
  clear ht hgr hre hn
  go_enter Try.func7, Try.ntmps7
  go_wp2_with fail
  refine (alive13_any w).mono ?_
  rintro r w1 ⟨rfl, b1⟩
  go_wp2_with fail
  refine (HG.out w1 b1).mono ?_
  rintro r w2 ⟨rfl, b2⟩
  have b02 := b1.trans (b2.mono b1.size)
  cases hgt : greatT t with
  | true =>
    go_wp2_with fail
    go_ret
    exact ⟨rfl, b02⟩
  | false =>
    have hn20 : n ≤ 20 := by
      unfold greatT at hgt
      rw [Bool.or_eq_false_iff, HN.out] at hgt
      have := of_decide_eq_false hgt.2
      omega
    have HR2 := Lib.hid (HRE.out (by omega) w2 b02)
    have B02 := Lib.hid b02
    clear b1 b2 b02
    go_wp2_with fail
    refine HR2.out.mono ?_
    rintro r w3 ⟨A3, c3, rfl, h3, b3⟩
    have HE3 := Lib.hid (And.intro h3 (B02.out.trans (b3.mono B02.out.size)))
    clear h3 b3
    by_cases s0 : s < 0
    · have hz : reachL t s = [] := by unfold reachL hasB; rw [if_neg]; simp only [Bool.and_eq_true, decide_eq_true_eq]; omega
      rw [hz]
      clear hz
      go_wp2_with fail
      go_ret
      exact ⟨rfl, HE3.out.2⟩
    by_cases sn : s < (n : Int)
    rotate_left
    · have hz : reachL t s = [] := by unfold reachL hasB; rw [if_neg]; simp only [Bool.and_eq_true, decide_eq_true_eq, HN.out]; omega
      rw [hz]
      clear hz
      have sn2 : s ≥ (n : Int) := by omega
      go_wp2_with fail
      go_ret
      exact ⟨rfl, HE3.out.2⟩
    obtain ⟨k, rfl⟩ : ∃ k : Nat, s = k := ⟨s.toNat, by omega⟩
    have hkn : k < n := by omega
    have k0 : (0 : Int) ≤ k := by omega
    have sn2 : ¬ (k : Int) ≥ (n : Int) := by omega
    have sn3 : decide (n ≤ k) = false := decide_eq_false (by omega)
    have sn4 : decide ((n : Int) ≤ k) = false := decide_eq_false (by omega)
    have sn5 : decide ((k : Int) < 0) = false := decide_eq_false (by omega)
    obtain ⟨m, hm⟩ : ∃ m, (reachL t k).length = m := ⟨_, rfl⟩
    rw [hm]
    have HM := Lib.hid hm
    obtain ⟨zb, hzb⟩ : ∃ zb, boA (List.replicate n false) = zb := ⟨_, rfl⟩
    have hmk := make_bools n (by omega)
    rw [hzb] at hmk
    have HZB := Lib.hid hzb
    have hkb := Blk.new w3 4 zb
    have hfz := hkb.frozen k
    have hcl : (w3.alloc (.cells zb 4)).cell? ⟨w3.heap.size, k, none⟩ = some (.bool false) := by
      have hb : Bo (w3.alloc (.cells zb 4)) w3.heap.size (List.replicate n false) := by unfold Bo; rw [HZB.out]; exact hkb
      rw [hb.cell (by rw [List.length_replicate]; exact hkn), List.getD_eq_getElem?_getD, List.getElem?_replicate, if_pos hkn]
      rfl
    clear hm hzb hkb
    go_wp2_with fail
    have hbo : Bo (w3.alloc (.cells (zb.setIfInBounds k (.bool true)) 4)) w3.heap.size (start n k) := by
      have := Blk.new w3 4 (zb.setIfInBounds k (.bool true))
      have e : zb.setIfInBounds k (.bool true) = boA (start n k) := by
        have h2 : ∀ S : List Bool, (boA S).setIfInBounds k (.bool true) = boA (S.set k true) := fun S => by
          unfold boA
          rw [List.map_set]
          simp
        rw [← HZB.out]
        exact h2 _
      unfold Bo
      rw [← e]
      exact this
    have hbw := HE3.out.2.alloc HE3.out.2.size (.cells (zb.setIfInBounds k (.bool true)) 4)
    have hev := (HE3.out.1.below (bel_alloc w3 (.cells (zb.setIfInBounds k (.bool true)) 4)))
    have hsz : w3.heap.size < (w3.alloc (.cells (zb.setIfInBounds k (.bool true)) 4)).heap.size := by simp
    have hBG : w.heap.size ≤ w3.heap.size := HE3.out.2.size
    obtain ⟨W, hW⟩ : ∃ W, w3.alloc (.cells (zb.setIfInBounds k (.bool true)) 4) = W := ⟨_, rfl⟩
    rw [hW] at hbo hbw hev hsz ⊢
    have HW := Lib.hid (And.intro hbo (And.intro hbw (And.intro hev hBG)))
    clear hfz hcl hmk hW hbo hbw hev hsz HE3 HR2
    generalize w3.heap.size = G at HW ⊢
    go_loopw [39] (fun rv wr => ∃ r : Nat, r ≤ n ∧ rv = .int .i64 r ∧ Hid (Bo wr G (swK t (start n k) r) ∧ Below G W wr)) (fun rv _ => n - (intOf rv).toNat)
    case atStart => exact ⟨0, Nat.zero_le _, rfl, Lib.hid ⟨HW.out.1, Below.refl _ _⟩⟩
    case round =>
      obtain ⟨r, hr, rfl, hS⟩ := hrel
      by_cases hrn : r < n
      · have r1 : (r : Int) < n := by omega
        have r0 : (0 : Int) ≤ r := by omega
        have HJr := Lib.hid (show wrap64 ((r : Int) + 1) = (r : Int) + 1 from IntWalk.wrap64_in _ (by omega))
        go_wp2_with fail
        go_loopw [43] (fun av wr => ∃ a : Nat, a ≤ n ∧ av = .int .i64 a ∧ Hid (Bo wr G (swT t (swK t (start n k) r) a) ∧ Below G W wr)) (fun av _ => n - (intOf av).toNat)
        case atStart => exact ⟨0, Nat.zero_le _, rfl, hS⟩
        case round =>
          obtain ⟨a, ha, rfl, hS2⟩ := hrel
          by_cases han : a < n
          · have a1 : (a : Int) < n := by omega
            have a0 : (0 : Int) ≤ a := by omega
            have HJa := Lib.hid (show wrap64 ((a : Int) + 1) = (a : Int) + 1 from IntWalk.wrap64_in _ (by omega))
            obtain ⟨bb, off, ra, rc, rfl, hbl, p, hrow⟩ := HT.out.1 a (by rw [HN.out]; exact han)
            obtain ⟨R, hRR⟩ : ∃ R, t.getD a [] = R := ⟨_, rfl⟩
            rw [hRR] at p hrow
            obtain ⟨mr, hmr⟩ : ∃ mr, R.length = mr := ⟨_, rfl⟩
            rw [hmr] at p
            have hml : mr ≤ 20 := by
              have hl : a < t.length := by rw [HN.out]; exact han
              by_cases h : mr ≤ 20
              · exact h
              · have := greatT_row (t := t) (j := a) hl (by rw [hRR, hmr]; omega)
                rw [hgt] at this
                cases this
            have hbW := HW.out.2.1.trans (hS2.out.2.mono HW.out.2.2.2)
            have q6 : wr.cell? ⟨bb, off + a, none⟩ = some (.slice ra mr rc) := (hbW.cell (p := ⟨bb, off + a, none⟩) hbl).trans p
            have HRW := Lib.hid (And.intro hrow (And.intro hmr hRR))
            clear p hrow hmr hRR hbl hbW
            go_wp2_with fail
            go_loopw [50] (fun jv wr => ∃ j : Nat, j ≤ mr ∧ jv = .int .i64 j ∧ Hid (Bo wr G (swR n a (swT t (swK t (start n k) r) a) (R.take j)) ∧ Below G W wr)) (fun jv _ => mr - (intOf jv).toNat)
            case atStart => exact ⟨0, Nat.zero_le _, rfl, hS2⟩
            case round =>
              obtain ⟨j, hj, rfl, hS3⟩ := hrel
              by_cases hjm : j < mr
              · have j1 : (j : Int) < mr := by omega
                have j0 : (0 : Int) ≤ j := by omega
                have HJ := Lib.hid (show wrap64 ((j : Int) + 1) = (j : Int) + 1 from IntWalk.wrap64_in _ (by omega))
                obtain ⟨gx, ox, ex, hgx, px0, px1⟩ := HRW.out.1 j (by rw [HRW.out.2.1]; exact hjm)
                subst ex
                obtain ⟨x, hx⟩ : ∃ x, R.getD j ce0 = x := ⟨_, rfl⟩
                have hstep := swR_take n a (swT t (swK t (start n k) r) a) R j (by rw [HRW.out.2.1]; exact hjm)
                rw [hx] at px0 px1 hstep
                obtain ⟨x0, x1⟩ := x
                obtain ⟨S, hSS⟩ : ∃ S, swR n a (swT t (swK t (start n k) r) a) (R.take j) = S := ⟨_, rfl⟩
                have hbW := HW.out.2.1.trans (hS3.out.2.mono HW.out.2.2.2)
                have hSl : S.length = n := by rw [← hSS, swR_len, swT_len, swK_len, start_len]
                have hbo := hS3.out.1
                have hbG := hS3.out.2
                rw [hSS] at hbo hstep
                have qx0 : wr.cell? ⟨gx, ox + j * 2, none⟩ = some (.int .i64 x0) := (hbW.cell (p := ⟨gx, ox + j * 2, none⟩) hgx).trans px0
                have qx1 : wr.cell? ⟨gx, ox + j * 2 + 1, none⟩ = some (.int .i64 x1) := (hbW.cell (p := ⟨gx, ox + j * 2 + 1, none⟩) hgx).trans px1
                have kx := Blk.new wr 56 #[.int .i64 x0, .int .i64 x1]
                have r0' : (wr.alloc (.cells #[.int .i64 x0, .int .i64 x1] 56)).cell? ⟨wr.heap.size, 0, none⟩ = some (.int .i64 x0) := kx.cell 0
                have hbo2 : Bo (wr.alloc (.cells #[.int .i64 x0, .int .i64 x1] 56)) G S := Blk.alloc hbo _
                have hbel2 : Below G W (wr.alloc (.cells #[.int .i64 x0, .int .i64 x1] 56)) := hbG.alloc (Nat.le_of_lt (Blk.lt hbo)) _
                have qa := hbo2.cell (b := a) (by rw [hSl]; exact han)
                have HSL := Lib.hid hSl
                have HNX := Lib.hid (show ∀ S' : List Bool, ∀ w', swC n a S (x0, x1) = S' → Bo w' G S' → Below G W w' → ∃ j' : Nat, j' ≤ mr ∧ Value.int .i64 ((j : Int) + 1) = .int .i64 j' ∧ Hid (Bo w' G (swR n a (swT t (swK t (start n k) r) a) (R.take j')) ∧ Below G W w') from fun S' w' e hb hl =>
                  ⟨j + 1, hjm, by rw [Int.natCast_add]; rfl, Lib.hid ⟨by rw [hstep, e]; exact hb, hl⟩⟩)
                have HB2 := Lib.hid (And.intro hbo2 hbel2)
                clear px0 px1 hgx hx hstep hbW hSl hbo hbG hSS hbo2 hbel2 hS3 hS2 hS
                cases hsa : S.getD a false with
                | false =>
                  rw [hsa] at qa
                  have HNO := Lib.hid (swC_no (n := n) (c := (x0, x1)) (fun h => by rw [hsa] at h; cases h.1))
                  clear hsa kx
                  go_wp2_with fail
                  go_roundw
                  case rel =>
                    try rw [HJ.out]
                    exact HNX.out S _ HNO.out HB2.out.1 HB2.out.2
                  case measure =>
                    try rw [HJ.out]
                    show mr - ((j : Int) + 1).toNat < mr - ((j : Int)).toNat
                    omega
                | true =>
                  rw [hsa] at qa
                  have HSA := Lib.hid hsa
                  clear hsa
                  by_cases h0 : x0 ≥ 0
                  rotate_left
                  · have HNO := Lib.hid (swC_no (n := n) (S := S) (a := a) (c := (x0, x1)) (fun h => h0 h.2.1))
                    clear kx
                    go_wp2_with fail
                    go_roundw
                    case rel =>
                      try rw [HJ.out]
                      exact HNX.out S _ HNO.out HB2.out.1 HB2.out.2
                    case measure =>
                      try rw [HJ.out]
                      show mr - ((j : Int) + 1).toNat < mr - ((j : Int)).toNat
                      omega
                  by_cases h1 : x0 < (n : Int)
                  rotate_left
                  · have HNO := Lib.hid (swC_no (n := n) (S := S) (a := a) (c := (x0, x1)) (fun h => h1 h.2.2))
                    clear kx
                    go_wp2_with fail
                    go_roundw
                    case rel =>
                      try rw [HJ.out]
                      exact HNX.out S _ HNO.out HB2.out.1 HB2.out.2
                    case measure =>
                      try rw [HJ.out]
                      show mr - ((j : Int) + 1).toNat < mr - ((j : Int)).toNat
                      omega
                  obtain ⟨b, rfl⟩ : ∃ b : Nat, x0 = b := ⟨x0.toNat, by omega⟩
                  have hbn : b < n := by omega
                  have b0 : (0 : Int) ≤ b := by omega
                  have qb := HB2.out.1.cell (b := b) (by rw [HSL.out]; exact hbn)
                  have fb := Blk.frozen HB2.out.1 b
                  have HYES := Lib.hid (swC_yes (n := n) (a := a) (x1 := x1) HSA.out hbn)
                  have HB3 := Lib.hid (show Bo ((wr.alloc (.cells #[.int .i64 b, .int .i64 x1] 56)).setCell ⟨G, b, none⟩ (.bool true)) G (S.set b true) ∧ Below G W ((wr.alloc (.cells #[.int .i64 b, .int .i64 x1] 56)).setCell ⟨G, b, none⟩ (.bool true)) from
                    ⟨HB2.out.1.mark b, HB2.out.2.setCell (p := ⟨G, b, none⟩) (Nat.le_refl _) (.bool true)⟩)
                  clear kx
                  go_wp2_with fail
                  go_roundw
                  case rel =>
                    try rw [HJ.out]
                    exact HNX.out _ _ HYES.out HB3.out.1 HB3.out.2
                  case measure =>
                    try rw [HJ.out]
                    show mr - ((j : Int) + 1).toNat < mr - ((j : Int)).toNat
                    omega
              · obtain rfl : mr = j := by omega
                have HN2 := Lib.hid (show Bo wr G (swT t (swK t (start n k) r) (a + 1)) ∧ Below G W wr from ⟨by
                  rw [swT_succ, HRW.out.2.2, HN.out]
                  have := hS3.out.1
                  rw [List.take_of_length_le (by rw [HRW.out.2.1]; exact Nat.le_refl _)] at this
                  exact this, hS3.out.2⟩)
                go_wp2_with fail
                go_roundw
                case rel =>
                  try rw [HJa.out]
                  exact ⟨a + 1, han, by rw [Int.natCast_add]; rfl, HN2⟩
                case measure =>
                  try rw [HJa.out]
                  show n - ((a : Int) + 1).toNat < n - ((a : Int)).toNat
                  omega
          · obtain rfl : n = a := by omega
            have HN2 := Lib.hid (show Bo wr G (swK t (start n k) (r + 1)) ∧ Below G W wr from ⟨by
              show Bo wr G (swT t (swK t (start n k) r) t.length)
              rw [HN.out]
              exact hS2.out.1, hS2.out.2⟩)
            go_wp2_with fail
            go_roundw
            case rel =>
              try rw [HJr.out]
              exact ⟨r + 1, hrn, by rw [Int.natCast_add]; rfl, HN2⟩
            case measure =>
              try rw [HJr.out]
              show n - ((r : Int) + 1).toNat < n - ((r : Int)).toNat
              omega
      · obtain rfl : n = r := by omega
        go_wp2_with fail
        obtain ⟨FS, hFS⟩ : ∃ FS, swK t (start n k) n = FS := ⟨_, rfl⟩
        have hFl : FS.length = n := by rw [← hFS, swK_len, start_len]
        have hwant : reachL t k = ((List.range n).filter fun b => FS.getD b false).map Int.ofNat := by
          unfold reachL reachN hasB
          rw [if_pos (by simp only [Bool.and_eq_true, decide_eq_true_eq, HN.out]; omega), HN.out, show ((k : Int)).toNat = k from rfl, hFS]
        have hS1 := hS.out
        rw [hFS] at hS1
        have HFL := Lib.hid (And.intro hFl hwant)
        have HS1 := Lib.hid hS1
        clear hFS hFl hwant hS1 hS
        go_loopw [11, 79] (fun wv jv wr => ∃ (j m' : Nat) (A1 : Option Addr) (c1 : Nat), j ≤ n ∧ jv = .int .i64 j ∧ wv = .slice A1 m' c1 ∧ Hid ((((List.range j).filter fun b => FS.getD b false).map Int.ofNat).length = m' ∧ OwnN wr G A1 c1 (((List.range j).filter fun b => FS.getD b false).map Int.ofNat) ∧ Bo wr G FS ∧ Below G W wr)) (fun _ jv _ => n - (intOf jv).toNat)
        case atStart => exact ⟨0, 0, none, 0, Nat.zero_le _, rfl, rfl, Lib.hid ⟨rfl, World.ownsRow_nil _ _ _ _, HS1.out.1, HS1.out.2⟩⟩
        case round =>
          obtain ⟨j, m', A1, c1, hj, rfl, rfl, hQ⟩ := hrel
          by_cases hjn : j < n
          · have j1 : (j : Int) < n := by omega
            have j0 : (0 : Int) ≤ j := by omega
            have HJ := Lib.hid (show wrap64 ((j : Int) + 1) = (j : Int) + 1 from IntWalk.wrap64_in _ (by omega))
            have qj := hQ.out.2.2.1.cell (b := j) (by rw [HFL.out.1]; exact hjn)
            have hsu := wants_succ (fun b => FS.getD b false) j
            cases hfj : FS.getD j false with
            | false =>
              rw [hfj] at qj
              rw [hfj, if_neg (by decide), List.append_nil] at hsu
              have HSU := Lib.hid hsu
              clear hsu hfj
              go_wp2_with fail
              go_roundw
              case rel =>
                try rw [HJ.out]
                exact ⟨j + 1, m', A1, c1, hjn, by rw [Int.natCast_add]; rfl, rfl, Lib.hid (by rw [HSU.out]; exact hQ.out)⟩
              case measure =>
                try rw [HJ.out]
                show n - ((j : Int) + 1).toNat < n - ((j : Int)).toNat
                omega
            | true =>
              rw [hfj] at qj
              rw [hfj, if_pos rfl] at hsu
              have hle : m' ≤ n := by
                have h1 := hQ.out.1
                rw [List.length_map] at h1
                have h2 := List.length_filter_le (fun b => FS.getD b false) (List.range j)
                rw [List.length_range] at h2
                omega
              have hGl := Blk.lt hQ.out.2.2.1
              have o2 : OwnN (wr.alloc (.cells #[.int .i64 j] 3)) G A1 c1 (((List.range j).filter fun b => FS.getD b false).map Int.ofNat) := World.ownsRow.alloc hQ.out.2.1 _
              have s2 : Bo (wr.alloc (.cells #[.int .i64 j] 3)) G FS := Blk.alloc hQ.out.2.2.1 _
              have b2 := hQ.out.2.2.2.alloc (Nat.le_of_lt hGl) (.cells #[.int .i64 (j : Int)] 3)
              have hsz : G ≤ (wr.alloc (.cells #[.int .i64 (j : Int)] 3)).heap.size := by simp; omega
              obtain ⟨a', c', w7, hr, o7, g7⟩ := append_nm _ G A1 c1 m' _ hQ.out.1 o2 (some ⟨wr.heap.size, 0, none⟩) 1 1 [(j : Int)] rfl (fun h => by cases h) (EvAt.blk (Blk.new wr 3 _) (by simp) rfl) (by rw [hQ.out.1]; omega) hsz
              have o2' := o2
              unfold OwnN at o2'
              rw [hQ.out.1] at o2'
              rw [← hsu] at o7
              have HE7 := Lib.hid (show (((List.range (j + 1)).filter fun b => FS.getD b false).map Int.ofNat).length = m' + 1 ∧ OwnN w7 G a' c' (((List.range (j + 1)).filter fun b => FS.getD b false).map Int.ofNat) ∧ Bo w7 G FS ∧ Below G W w7 from ⟨by rw [hsu, List.length_append, hQ.out.1]; rfl, o7, blk_grown s2 o2' (by decide) g7, b2.trans (bel_own o2' g7 (Nat.le_refl _) hsz)⟩)
              have HRUN := Lib.hid hr
              clear hsu hfj hle hGl o2 s2 b2 hsz hr o7 g7 o2'
              go_wp2_with (at_builtin; refine Lib.wpList_append_run _ rfl _ _ _ _ rfl _ _ rfl rfl _ _ HRUN.out ?_)
              go_roundw
              case rel =>
                try rw [HJ.out]
                exact ⟨j + 1, m' + 1, a', c', hjn, by rw [Int.natCast_add]; rfl, rfl, HE7⟩
              case measure =>
                try rw [HJ.out]
                show n - ((j : Int) + 1).toNat < n - ((j : Int)).toNat
                omega
          · obtain rfl : n = j := by omega
            have hmm : m = m' := by
              have h1 := hQ.out.1
              rw [← HFL.out.2, HM.out] at h1
              exact h1
            subst hmm
            have ho := hQ.out.2.1
            rw [← HFL.out.2] at ho
            have hsz : W.heap.size ≤ wr.heap.size := hQ.out.2.2.2.size
            have b0 := HW.out.2.1.trans (hQ.out.2.2.2.mono HW.out.2.2.2)
            have hs := same_eq A3 A1 c3 c1 (reachL t k) m HM.out (by rw [← HM.out]; have := HFL.out.2; rw [this, List.length_map]; have h2 := List.length_filter_le (fun b => FS.getD b false) (List.range n); rw [List.length_range] at h2; unfold maxLen; omega) wr ((HW.out.2.2.1.below hQ.out.2.2.2).more (Nat.le_of_lt (Blk.lt hQ.out.2.2.1))) ho.ev
            have HSM := Lib.hid hs
            have B0 := Lib.hid b0
            clear hs b0 ho hsz
            go_wp2_with fail
            refine HSM.out.mono ?_
            rintro e x1 ⟨rfl, b1⟩
            have B1 := Lib.hid (B0.out.trans (b1.mono B0.out.size))
            clear b1
            go_wp2_with fail
            refine (reg_any _).mono ?_
            rintro e x2 ⟨A2, rfl, hT2, b2⟩
            have B2 := Lib.hid (B1.out.trans (b2.mono B1.out.size))
            have hr2 := reach_any x2 A2 3 regT 0 hT2 (by decide) (by decide)
            rw [reach_reg] at hr2
            have HR3 := Lib.hid hr2
            clear b2 hT2 hr2
            go_wp2_with fail
            refine HR3.out.mono ?_
            rintro e x3 ⟨A3', c3', rfl, _, b3⟩
            have B3 := Lib.hid (B2.out.trans (b3.mono B2.out.size))
            clear b3
            go_wp2_with fail
            refine (app_any _).mono ?_
            rintro e x4 ⟨A4, rfl, hT4, b4⟩
            have B4 := Lib.hid (B3.out.trans (b4.mono B3.out.size))
            have hr4 := reach_any x4 A4 5 appT 0 hT4 (by decide) (by decide)
            rw [reach_app] at hr4
            have HR5 := Lib.hid hr4
            clear b4 hT4 hr4
            go_wp2_with fail
            refine HR5.out.mono ?_
            rintro e x5 ⟨A5, c5, rfl, _, b5⟩
            have B5 := Lib.hid (B4.out.trans (b5.mono B4.out.size))
            clear b5
            go_wp2_with fail
            go_ret
            exact ⟨rfl, B5.out⟩
set_option maxRecDepth 100000 in
theorem liftedTableReach (os : Os) (started : os.Started) (H : Type) (enc : TypeId × Value → H) :
    ReturnsInHanded {} Try.checked os 7 .any (Rows.tableReachSpec.pre6 enc Try.prog Try.f7 Rows.tableReachRow.domain false) (Rows.tableReachSpec.post enc Try.prog Try.f7 false true false false) := by
  refine returnsInHanded_of_change (C := Try.checked) own started (by kernel_rfl) Try.func7
    (ChangeSpec.witness6 (enc := enc) (C := Try.checked) false ⟨#[], #[.slice none 0 0, .int .i64 0], []⟩ 8 (by kernel_rfl) (by kernel_rfl) (by kernel_rfl) (by kernel_rfl)) ?_
  intro W base args ds gs before hval0 hW hcnd _
  have hval : ∀ (j : Nat) t v, Try.f7.params[j]? = some t → args[j]? = some v → Value.okWide Try.prog W .any base t v := hval0
  have hW' := hW
  obtain ⟨p, q, hA0, hV, rfl, hfz, hnd⟩ := hW
  have hA : DataW.TrodAll enc Try.prog W 0 (fun _ => true) true Try.f7.params.toList args.toList ds p := hA0
  rw [Try.params7] at hA hval
  obtain ⟨v0, vs0, d0, ds0, p0, q0, hargs, rfl, rfl, h0, r0⟩ := trodAll_cons hA
  obtain ⟨v1, vs1, d1, ds1, p1, q1, rfl, rfl, rfl, h1, r1⟩ := trodAll_cons r0
  obtain ⟨rfl, rfl, rfl⟩ := trodAll_nil r1
  obtain rfl : args = #[v0, v1] := by cases args; simp_all
  obtain ⟨rfl, rfl⟩ := trodVars_none hV
  obtain ⟨a0', len0', cap0', rfl⟩ := okWide_slice Try.underlying50 (hval 0 50 v0 rfl rfl)
  have k0 := h0
  have lt0 : ∀ x ∈ p0, x.block < W.heap.size := by obtain ⟨m, hm⟩ := k0; exact DataW.trod_lt m _ _ _ hm
  obtain ⟨a0, cap0, l0, w0, e1, e2, e3⟩ : ∃ a cap, ∃ l : Tb, (TbAt W W.heap.size a l ∧ l.length ≤ maxLen ∧ ∀ r ∈ l, r.length ≤ maxLen) ∧ a0' = a ∧ len0' = l.length ∧ cap0' = cap := by
    obtain ⟨fuel, hf⟩ := h0
    obtain ⟨a, cap, l, hcs, q⟩ := open_table hf
    simp [Value.cells] at hcs
    obtain ⟨rfl, rfl, rfl⟩ := hcs
    exact ⟨_, _, l, q, rfl, rfl, rfl⟩
  subst e1 e2 e3
  obtain ⟨a1, rfl, rfl, rfl, w1⟩ := open_int Try.underlying3 (hval 1 3 v1 rfl rfl) h1
  clear hA0 hval0
  refine (walkTableReach a0' cap0' l0 a1 W w0 w1).mono fun e W' ⟨he, bel⟩ => ?_
  subst he
  exact ⟨_, rfl, _, _, _, [], _, [], hW', trodAll_mk1 (shut_bool Try.underlying4 _), (trodAll_cons_mk (Below.trod laidOut (by kernel_rfl) (of_decide_eq_true (by kernel_rfl)) k0 bel lt0) (trodAll_cons_mk (shut_int Try.underlying3 w1) trodAll_mk0)), rfl, bel.frame _, fun h => by cases h⟩

theorem overTableReach : Rows.tableReachRow.holds Try.pinned (OpenSpec.ofChange Rows.tableReachSpec) :=
  OpenClaim.holds_of_wide 7 Try.f7 rfl rfl rfl rfl rfl rfl rfl ⟨rfl, rfl, rfl, rfl, rfl⟩ rfl rfl rfl rfl rfl (by kernel_rfl) Try.func7 (by kernel_rfl)
    (of_decide_eq_true (by kernel_rfl)) (by unfold Func.isWrapper; first | (rw [if_pos (by decide +kernel)]; kernel_rfl) | (rw [if_neg (by decide +kernel)]; exact ⟨rfl, rfl⟩))
    (fun os started H enc _ => liftedTableReach os started H enc)

/-- The statement. -/
theorem tableReach_holds : Rows.TableReachSaid := overTableReach

#print axioms tableReach_holds
end Go.Proofs.Ytkdnngcmiggoeaa
