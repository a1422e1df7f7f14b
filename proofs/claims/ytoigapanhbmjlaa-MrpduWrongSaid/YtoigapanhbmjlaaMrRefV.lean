/- Towards the document's vector: the events' row, its packing, one event more. Its conditions: at most 200 words, which can be. -/
import Derived.Test.YtoigapanhbmjlaaMrPutV
import Derived.Test.YtoigapanhbmjlaaMrOwn
import Derived.Test.YtoigapanhbmjlaaNumb
import Derived.Test.YtoigapanhbmjlaaPkRef
namespace Go.Proofs.Ytoigapanhbmjlaa
open Go.RowKit

theorem mnumb (k : Int) (K : Nat) (hk : (near k 8).toNat = K) (n : Int) (w : World) : Calls Try.prog 30 #[.int .i64 k, .int .i64 n] w fun e w' => e = .returned (.string (str (be n K))) ∧ Below w.heap.size w w' := by
  have := number_any k n w
  rw [hk] at this
  exact this

/-- The events of the first words. -/
def evL (l : List Wd) (j : Nat) : List Int := (l.take j).map (·.e)
theorem evL_length (l : List Wd) (j : Nat) (h : j ≤ l.length) : (evL l j).length = j := by simp [evL, h]
theorem evL_succ (l : List Wd) (j : Nat) (h : j < l.length) : evL l (j + 1) = evL l j ++ [(l.getD j wd0).e] := by
  have e : l.getD j wd0 = l[j] := by simp [List.getD, List.getElem?_eq_getElem h]
  rw [e]
  simp only [evL, List.take_succ_eq_append_getElem h, List.map_append, List.map_cons, List.map_nil]
theorem evL_at (l : List Wd) (j : Nat) (h : j < l.length) : (evL l l.length).getD j 0 = (l.getD j wd0).e := by
  simp [evL, List.getD, List.getElem?_eq_getElem h]
theorem rpack_words {A1 : Option Addr} {c1 B n : Nat} {l : List Wd} {wr : World} (how : OwnI wr B A1 c1 (evL l n)) (hn : l.length = n) (hl : n ≤ 200) (hev : ∀ j, j < n → (l.getD j wd0).e = ((evN l j : Nat) : Int) ∧ evN l j < 6) :
    Calls Try.prog 47 #[.slice A1 n c1, .int .i64 3, .int .i64 6] wr fun e w' => e = .returned (.tuple #[.string (str (rows 3 6 (evN l) n (sz n 3))), .bool true]) ∧ Below wr.heap.size wr w' := by
  have hints := OwnI.at_ how
  have hlj := evL_length l n (by omega)
  have hnums : Nums wr wr.heap.size A1 n (fun i => (evL l n).getD i 0) := by have := hints.nums; rw [hlj] at this; exact this
  have hfx : ∀ i, i < n → (evL l n).getD i 0 = ((evN l i : Nat) : Int) := fun i hi => by
    have e1 := evL_at l i (by omega)
    rw [hn] at e1
    rw [e1, (hev i hi).1]
  have hpk := refpack_any 3 6 A1 n c1 (fun i => (evL l n).getD i 0) (evN l) n wr (.inl ⟨rfl, rfl⟩) (by omega) hnums (Nat.le_refl _) hfx (fun i hi => (hev i hi).2) (fun h => absurd h (Nat.lt_irrefl _))
  refine hpk.mono fun e w' h => ?_
  rcases h with ⟨⟨_, h⟩ | ⟨hirr, _⟩, hb⟩
  · exact ⟨h, hb⟩
  · exact absurd hirr (Nat.lt_irrefl _)
theorem ev_append {w wr : World} {A1 : Option Addr} {c1 B j : Nat} {l : List Wd} {x : Wd} (how : OwnI wr B A1 c1 (evL l j)) (hj : j < l.length) (hl : l.length ≤ 200) (hx : l.getD j wd0 = x) (bw : Below B w wr) (hB : B ≤ w.heap.size) :
    ∃ a' c' w2, (Builtin.append_ #[22, 22] 22 #[.slice A1 j c1, .slice (some ⟨wr.heap.size + 1, 0, none⟩) 1 1]).run Try.prog ((wr.alloc (.cells #[.int .i64 x.t, .int .i64 x.v, .int .i64 x.e, .int .i64 x.b] 43)).alloc (.cells #[.int .i64 x.e] 3)) = .ok (.slice a' (j + 1) c') w2 ∧ OwnI w2 B a' c' (evL l (j + 1)) ∧ Below B w w2 := by
  have hs := evL_succ l j hj
  have hlj := evL_length l j (by omega)
  have hlj1 := evL_length l (j + 1) hj
  rw [hx] at hs
  have hBw : B ≤ wr.heap.size := Nat.le_trans hB bw.size
  have bw1 := bw.alloc hBw (.cells #[.int .i64 x.t, .int .i64 x.v, .int .i64 x.e, .int .i64 x.b] 43)
  have bw2 := bw1.alloc (Nat.le_trans hB bw1.size) (.cells #[.int .i64 x.e] 3)
  have how1 : OwnI (wr.alloc (.cells #[.int .i64 x.t, .int .i64 x.v, .int .i64 x.e, .int .i64 x.b] 43)) B A1 c1 (evL l j) := World.ownsRow.alloc how _
  have how2 : OwnI ((wr.alloc (.cells #[.int .i64 x.t, .int .i64 x.v, .int .i64 x.e, .int .i64 x.b] 43)).alloc (.cells #[.int .i64 x.e] 3)) B A1 c1 (evL l j) := World.ownsRow.alloc how1 _
  obtain ⟨W, hW⟩ : ∃ W, ((wr.alloc (.cells #[.int .i64 x.t, .int .i64 x.v, .int .i64 x.e, .int .i64 x.b] 43)).alloc (.cells #[.int .i64 x.e] 3)) = W := ⟨_, rfl⟩
  have hnb := Blk.new (wr.alloc (.cells #[.int .i64 x.t, .int .i64 x.v, .int .i64 x.e, .int .i64 x.b] 43)) 3 #[.int .i64 x.e]
  rw [show (wr.alloc (.cells #[.int .i64 x.t, .int .i64 x.v, .int .i64 x.e, .int .i64 x.b] 43)).heap.size = wr.heap.size + 1 by simp] at hnb
  rw [hW] at how2 hnb bw2 ⊢
  have hone : IntsAt W W.heap.size (some ⟨wr.heap.size + 1, 0, none⟩) [x.e] := fun q hq => by
    obtain rfl : q = 0 := by simpa using hq
    exact ⟨wr.heap.size + 1, 0, rfl, hnb.lt, hnb.cell 0⟩
  obtain ⟨a', c', w2, hr, ho, hgr, _, _⟩ := append_ints W B A1 c1 (evL l j) how2 (some ⟨wr.heap.size + 1, 0, none⟩) 1 W.heap.size [x.e] (fun h => by cases h) hone (by rw [hlj]; simp; omega) (Nat.le_trans hB bw2.size)
  rw [← hs] at hr ho
  rw [hlj, hlj1, show [x.e].length = 1 from rfl] at hr
  exact ⟨a', c', w2, hr, ho, bw2.grown hgr (Nat.le_trans hB bw2.size) (fun q hq => (World.ownsRow.lt how2 q hq).1)⟩

theorem meas_up {n j : Nat} (h : j < n) : n - (intOf (.int .i64 ((j : Int) + 1))).toNat < n - (intOf (.int .i64 (j : Int))).toNat := by
  show n - ((j : Int) + 1).toNat < n - ((j : Int)).toNat
  omega
set_option maxRecDepth 100000 in
set_option maxHeartbeats 4000000 in
theorem rvector_any (A : Option Addr) (c : Nat) (k : Int) (more : Bool) (l : List Wd) (w : World) (hA : WordsAt w w.heap.size A l) (hl : l.length ≤ 200) (hk : vs k ≠ 0) (hg : ∀ a ∈ l, wordP a ∧ a.t = k) :
    Calls Try.prog 31 #[.int .i64 k, .bool more, .slice A l.length c] w fun e w' => e = .returned (.string (str (vecBytes k more l))) ∧ Below w.heap.size w w' := by
  obtain ⟨n, hn⟩ : ∃ n : Nat, l.length = n := ⟨_, rfl⟩
  have hnear := near_vs hk
  cases l with
  | nil =>
    simp only [List.length_nil] at hn
    subst hn
    simp only [List.length_nil]
    clear hA hl hg
    cases more with
    | false =>
      have hv : vecBytes k false [] = be 0 2 ++ (be 0 (vs k) ++ be 0 4) := by
        have hr : rows 3 6 (evN []) 0 (sz 0 3) = [] := List.eq_nil_of_length_eq_zero (by rw [rows_length]; rfl)
        simp only [vecBytes, headV, headB, List.length_nil, hr, List.append_nil]
        rfl
      have HV := Lib.hid hv
      obtain ⟨S0, h0⟩ : ∃ S, str (be 0 2) = S := ⟨_, rfl⟩
      obtain ⟨S1, h1⟩ : ∃ S, str (be 0 (vs k)) = S := ⟨_, rfl⟩
      obtain ⟨S2, h2⟩ : ∃ S, str (be 0 4) = S := ⟨_, rfl⟩
      have z0 : S0.size ≤ 2 := by rw [← h0, str_size, be_length]; omega
      have z1 : S1.size ≤ 6 := by rw [← h1, str_size, be_length]; exact vs_le k
      have z2 : S2.size ≤ 4 := by rw [← h2, str_size, be_length]; omega
      have s1 : ¬ 9223372036854775807 < S0.size + S1.size := by omega
      have s2 : ¬ 9223372036854775807 < S0.size + S1.size + S2.size := by omega
      have H0 := Lib.hid h0
      have H1 := Lib.hid h1
      have H2 := Lib.hid h2
      clear hv h0 h1 h2 hk
      go_enter Try.func31, Try.ntmps31
      go_wp2_with fail
      refine (mnumb 2 2 near_l2 0 _).mono ?_
      rw [H0.out]
      rintro e w1 ⟨rfl, b1⟩
      go_wp2_with fail
      refine (vsr_any k _).mono ?_
      rintro e w' ⟨rfl, rfl⟩
      go_wp2_with fail
      refine (mnumb _ _ hnear 0 _).mono ?_
      rw [H1.out]
      rintro e w2 ⟨rfl, b2⟩
      go_wp2_with fail
      refine (mnumb 4 4 near_l4 0 _).mono ?_
      rw [H2.out]
      rintro e w3 ⟨rfl, b3⟩
      go_wp2_with fail
      go_ret
      have c2 := b1.trans (b2.mono b1.size)
      refine ⟨congrArg (fun s => Ending.returned (.string s)) ?_, c2.trans (b3.mono c2.size)⟩
      rw [HV.out, ← H0.out, ← H1.out, ← H2.out, str_append, str_append, List.append_assoc]
    | true =>
      have hv : vecBytes k true [] = be 8192 2 ++ (be 0 (vs k) ++ be 0 4) := by
        have hr : rows 3 6 (evN []) 0 (sz 0 3) = [] := List.eq_nil_of_length_eq_zero (by rw [rows_length]; rfl)
        simp only [vecBytes, headV, headB, List.length_nil, hr, List.append_nil]
        rfl
      have HV := Lib.hid hv
      obtain ⟨S0, h0⟩ : ∃ S, str (be 8192 2) = S := ⟨_, rfl⟩
      obtain ⟨S1, h1⟩ : ∃ S, str (be 0 (vs k)) = S := ⟨_, rfl⟩
      obtain ⟨S2, h2⟩ : ∃ S, str (be 0 4) = S := ⟨_, rfl⟩
      have z0 : S0.size ≤ 2 := by rw [← h0, str_size, be_length]; omega
      have z1 : S1.size ≤ 6 := by rw [← h1, str_size, be_length]; exact vs_le k
      have z2 : S2.size ≤ 4 := by rw [← h2, str_size, be_length]; omega
      have s1 : ¬ 9223372036854775807 < S0.size + S1.size := by omega
      have s2 : ¬ 9223372036854775807 < S0.size + S1.size + S2.size := by omega
      have H0 := Lib.hid h0
      have H1 := Lib.hid h1
      have H2 := Lib.hid h2
      clear hv h0 h1 h2 hk
      go_enter Try.func31, Try.ntmps31
      go_wp2_with fail
      refine (mnumb 2 2 near_l2 8192 _).mono ?_
      rw [H0.out]
      rintro e w1 ⟨rfl, b1⟩
      go_wp2_with fail
      refine (vsr_any k _).mono ?_
      rintro e w' ⟨rfl, rfl⟩
      go_wp2_with fail
      refine (mnumb _ _ hnear 0 _).mono ?_
      rw [H1.out]
      rintro e w2 ⟨rfl, b2⟩
      go_wp2_with fail
      refine (mnumb 4 4 near_l4 0 _).mono ?_
      rw [H2.out]
      rintro e w3 ⟨rfl, b3⟩
      go_wp2_with fail
      go_ret
      have c2 := b1.trans (b2.mono b1.size)
      refine ⟨congrArg (fun s => Ending.returned (.string s)) ?_, c2.trans (b3.mono c2.size)⟩
      rw [HV.out, ← H0.out, ← H1.out, ← H2.out, str_append, str_append, List.append_assoc]
  | cons a t =>
    obtain ⟨b0, off, rfl, hb0, c0, c1, c2, c3⟩ := hA 0 (by simp)
    simp only [List.getD_cons_zero, Nat.zero_mul, Nat.add_zero] at c0 c1 c2 c3
    have hHead : ∀ N : Int, (n : Int) + (if more then 8192 else 0) = N → vecBytes k more (a :: t) = be N 2 ++ (be a.v (vs k) ++ (be a.b 4 ++ rows 3 6 (evN (a :: t)) n (sz n 3))) := by
      intro N hN
      rw [vecBytes, hn, hN]; rfl
    have hev : ∀ j, j < n → ((a :: t).getD j wd0).e = ((evN (a :: t) j : Nat) : Int) ∧ evN (a :: t) j < 6 := by
      intro j hj
      have hj' : j < (a :: t).length := by rw [hn]; exact hj
      have hm := hg ((a :: t)[j]) (List.getElem_mem hj')
      obtain ⟨⟨_, h0, h5, _⟩, _⟩ := hm
      have e1 : (a :: t).getD j wd0 = (a :: t)[j] := by simp [List.getD, List.getElem?_eq_getElem hj']
      have e2 : evN (a :: t) j = ((a :: t)[j]).e.toNat := by simp only [evN, List.getElem?_eq_getElem hj']
      rw [e1, e2]
      omega
    have HEV := Lib.hid hev
    have HA := Lib.hid hA
    have HHD := Lib.hid hHead
    have HN := Lib.hid hn
    have HNL := Lib.hid (show n ≤ 200 by rw [← hn]; exact hl)
    have hevl := fun j (hj : j ≤ n) => evL_length (a :: t) j (by rw [hn]; exact hj)
    have hevs := fun j (hj : j < n) => evL_succ (a :: t) j (by rw [hn]; exact hj)
    have hevt := fun j (hj : j < n) => evL_at (a :: t) j (by rw [hn]; exact hj)
    rw [hn] at hevt
    have HEL := Lib.hid hevl
    have HES := Lib.hid hevs
    have HET := Lib.hid hevt
    have n0 : (0 : Int) < n := by rw [← hn]; simp
    have d0 : ((n : Int) == 0) = false := by rw [beq_eq_false_iff_ne]; omega
    have x1 : IntKind.i64.wrap ((n : Int) + 8192) = (n : Int) + 8192 := IntWalk.i64_in _ (by have := HNL.out; omega)
    have x2 : wrap64 ((n : Int) + 8192) = (n : Int) + 8192 := IntWalk.wrap64_in _ (by have := HNL.out; omega)
    obtain ⟨N, hNN⟩ : ∃ N : Int, (n : Int) + (if more then 8192 else 0) = N := ⟨_, rfl⟩
    obtain ⟨S0, h0⟩ : ∃ S, str (be N 2) = S := ⟨_, rfl⟩
    obtain ⟨S1, h1⟩ : ∃ S, str (be a.v (vs k)) = S := ⟨_, rfl⟩
    obtain ⟨S2, h2⟩ : ∃ S, str (be a.b 4) = S := ⟨_, rfl⟩
    obtain ⟨S3, h3⟩ : ∃ S, str (rows 3 6 (evN (a :: t)) n (sz n 3)) = S := ⟨_, rfl⟩
    have z0 : S0.size ≤ 2 := by rw [← h0, str_size, be_length]; omega
    have z1 : S1.size ≤ 6 := by rw [← h1, str_size, be_length]; exact vs_le k
    have z2 : S2.size ≤ 4 := by rw [← h2, str_size, be_length]; omega
    have z3 : S3.size ≤ 200 := by rw [← h3, str_size, rows_length]; have := HNL.out; have := sz_le n 3 6 (.inl ⟨rfl, rfl⟩); omega
    have s1 : ¬ 9223372036854775807 < S0.size + S1.size := by omega
    have s2 : ¬ 9223372036854775807 < S0.size + S1.size + S2.size := by omega
    have s3 : ¬ 9223372036854775807 < S0.size + S1.size + S2.size + S3.size := by omega
    have s4 : ¬ 9223372036854775807 < (S0 ++ S1).size + S2.size := by rw [ByteArray.size_append]; omega
    have s5 : ¬ 9223372036854775807 < (S0 ++ S1 ++ S2).size + S3.size := by rw [ByteArray.size_append, ByteArray.size_append]; omega
    have hbytes := hHead N hNN
    have HBY := Lib.hid (show str (vecBytes k more (a :: t)) = S0 ++ S1 ++ S2 ++ S3 by rw [hbytes, ← h0, ← h1, ← h2, ← h3, str_append, str_append, str_append]; simp only [List.append_assoc])
    have H0 := Lib.hid h0
    have H1 := Lib.hid h1
    have H2 := Lib.hid h2
    have H3 := Lib.hid h3
    have hown0 : ∀ w1 : World, Below w.heap.size w w1 → OwnI w1 w.heap.size none 0 (evL (a :: t) 0) := fun w1 _ => World.ownsRow_nil w1 _ _ 1
    have HO := Lib.hid hown0
    have HB0 := Lib.hid hb0
    clear hHead hev hA hl hg hevl hevs hevt h0 h1 h2 h3 hbytes hk hown0 hb0 z0 z1 z2 z3
    rw [hn]
    clear hn
    cases more with
    | false =>
      obtain rfl : N = (n : Int) := by rw [← hNN]; simp
      clear hNN
      go_enter Try.func31, Try.ntmps31
      go_wp2_with fail
      with_reducible refine (mnumb 2 2 near_l2 (n : Int) _).mono ?_
      rw [H0.out]
      rintro e w1 ⟨rfl, b1⟩
      go_wp2_with fail
      clear x1 x2
      go_loopw [9, 33] (fun ev i wr => ∃ (j : Nat) (A1 : Option Addr) (c1 : Nat), j ≤ n ∧ i = .int .i64 j ∧ ev = .slice A1 j c1 ∧ OwnI wr w.heap.size A1 c1 (evL (a :: t) j) ∧ Below w.heap.size w wr) (fun _ i _ => n - (intOf i).toNat)
      case atStart => exact ⟨0, none, 0, Nat.zero_le _, rfl, rfl, HO.out w1 b1, b1⟩
      case round =>
        obtain ⟨j, A1, c1', hj, rfl, rfl, how, bw⟩ := hrel
        by_cases hlt : j < n
        · obtain ⟨b1', off1, hbo, hb1, e0, e1, e2, e3⟩ := HA.out j (by rw [HN.out]; exact hlt)
          obtain ⟨rfl, rfl⟩ : b0 = b1' ∧ off = off1 := by injection hbo with hbo; injection hbo with h1 h2; exact ⟨h1, h2⟩
          obtain ⟨x, hx⟩ : ∃ x, (a :: t).getD j wd0 = x := ⟨_, rfl⟩
          rw [hx] at e0 e1 e2 e3
          have k0 : wr.cell? ⟨b0, off + j * 4, none⟩ = some (.int .i64 x.t) := (bw.cell (p := ⟨b0, off + j * 4, none⟩) hb1).trans e0
          have k1 : wr.cell? ⟨b0, off + j * 4 + 1, none⟩ = some (.int .i64 x.v) := (bw.cell (p := ⟨b0, off + j * 4 + 1, none⟩) hb1).trans e1
          have k2 : wr.cell? ⟨b0, off + j * 4 + 2, none⟩ = some (.int .i64 x.e) := (bw.cell (p := ⟨b0, off + j * 4 + 2, none⟩) hb1).trans e2
          have k3 : wr.cell? ⟨b0, off + j * 4 + 3, none⟩ = some (.int .i64 x.b) := (bw.cell (p := ⟨b0, off + j * 4 + 3, none⟩) hb1).trans e3
          obtain ⟨a', c', w2, hr, ho, b2⟩ := ev_append how (by rw [HN.out]; exact hlt) (by rw [HN.out]; exact HNL.out) rfl bw (Nat.le_refl _)
          rw [hx] at hr
          have HR := Lib.hid hr
          have jn : (j : Int) < n := by omega
          have j0 : (0 : Int) ≤ j := by omega
          clear hr how bw e0 e1 e2 e3 hx hb1
          have jw : wrap64 ((j : Int) + 1) = (j : Int) + 1 := IntWalk.wrap64_in _ (by have := HNL.out; omega)
          go_wp2_with (at_builtin; refine Lib.wpList_append_run _ rfl _ _ _ _ rfl _ _ rfl rfl _ _ HR.out ?_)
          go_roundw
          case rel =>
            rw [jw]
            exact ⟨j + 1, a', c', hlt, by rw [Int.natCast_add]; rfl, rfl, ho, b2⟩
          case measure =>
            rw [jw]
            exact meas_up hlt
        · obtain rfl : j = n := by omega
          have hpk := rpack_words how HN.out HNL.out HEV.out
          have HPK := Lib.hid hpk
          clear how hpk hlt hj
          go_wp2_with fail
          with_reducible refine HPK.out.mono ?_
          rw [H3.out]
          rintro e w4 ⟨rfl, b4⟩
          have b5 := bw.trans (b4.mono bw.size)
          have q1 : w4.cell? ⟨b0, off + 1, none⟩ = some (.int .i64 a.v) := (b5.cell (p := ⟨b0, off + 1, none⟩) HB0.out).trans c1
          have q3 : w4.cell? ⟨b0, off + 3, none⟩ = some (.int .i64 a.b) := (b5.cell (p := ⟨b0, off + 3, none⟩) HB0.out).trans c3
          clear b4 bw HPK
          have x0 : IntKind.i64.wrap (vs k : Int) = (vs k : Int) := IntWalk.i64_in _ (by have := vs_le k; omega)
          have n00 : 0 < j := by omega
          have HB5 := Lib.hid b5
          have HZ5 := Lib.hid b5.size
          clear b5
          go_wp2_with fail
          go_region_held3 (fun w' => w'.cell? ⟨b0, off + 1, none⟩ = some (.int .i64 a.v) ∧ w'.cell? ⟨b0, off + 3, none⟩ = some (.int .i64 a.b))
            (first | exact ⟨q1, q3⟩ | exact ⟨r1, r3⟩ | exact ⟨t1, t3⟩)
            (first
              | (go_at_call 21; (with_reducible (refine (vsr_any k _).mono ?_)); rintro e w' ⟨rfl, rfl⟩)
              | (go_at_call 30; (with_reducible (refine (mnumb _ _ hnear a.v _).mono ?_)); rw [H1.out]; rintro e w6 ⟨rfl, b6⟩; have r1 := (b6.cell (p := ⟨b0, off + 1, none⟩) (Nat.lt_of_lt_of_le HB0.out HZ5.out)).trans q1; have r3 := (b6.cell (p := ⟨b0, off + 3, none⟩) (Nat.lt_of_lt_of_le HB0.out HZ5.out)).trans q3)
              | (go_at_call 30; (with_reducible (refine (mnumb 4 4 near_l4 a.b w6).mono ?_)); rw [H2.out]; rintro e w7 ⟨rfl, b7⟩; have t1 := (b7.cell (p := ⟨b0, off + 1, none⟩) (Nat.lt_of_lt_of_le (Nat.lt_of_lt_of_le HB0.out HZ5.out) b6.size)).trans r1; have t3 := (b7.cell (p := ⟨b0, off + 3, none⟩) (Nat.lt_of_lt_of_le (Nat.lt_of_lt_of_le HB0.out HZ5.out) b6.size)).trans r3))
          all_goals
            go_wp2_with fail
            go_ret
            refine ⟨congrArg (fun s => Ending.returned (.string s)) HBY.out.symm, ?_⟩
            have c6 := (HB5.out.drew).trans (b6.mono HZ5.out)
            exact c6.trans (b7.mono c6.size)
    | true =>
      obtain rfl : N = ((n : Int) + 8192) := by rw [← hNN]; simp
      clear hNN
      go_enter Try.func31, Try.ntmps31
      go_wp2_with fail
      with_reducible refine (mnumb 2 2 near_l2 ((n : Int) + 8192) _).mono ?_
      rw [H0.out]
      rintro e w1 ⟨rfl, b1⟩
      go_wp2_with fail
      clear x1 x2
      go_loopw [9, 33] (fun ev i wr => ∃ (j : Nat) (A1 : Option Addr) (c1 : Nat), j ≤ n ∧ i = .int .i64 j ∧ ev = .slice A1 j c1 ∧ OwnI wr w.heap.size A1 c1 (evL (a :: t) j) ∧ Below w.heap.size w wr) (fun _ i _ => n - (intOf i).toNat)
      case atStart => exact ⟨0, none, 0, Nat.zero_le _, rfl, rfl, HO.out w1 b1, b1⟩
      case round =>
        obtain ⟨j, A1, c1', hj, rfl, rfl, how, bw⟩ := hrel
        by_cases hlt : j < n
        · obtain ⟨b1', off1, hbo, hb1, e0, e1, e2, e3⟩ := HA.out j (by rw [HN.out]; exact hlt)
          obtain ⟨rfl, rfl⟩ : b0 = b1' ∧ off = off1 := by injection hbo with hbo; injection hbo with h1 h2; exact ⟨h1, h2⟩
          obtain ⟨x, hx⟩ : ∃ x, (a :: t).getD j wd0 = x := ⟨_, rfl⟩
          rw [hx] at e0 e1 e2 e3
          have k0 : wr.cell? ⟨b0, off + j * 4, none⟩ = some (.int .i64 x.t) := (bw.cell (p := ⟨b0, off + j * 4, none⟩) hb1).trans e0
          have k1 : wr.cell? ⟨b0, off + j * 4 + 1, none⟩ = some (.int .i64 x.v) := (bw.cell (p := ⟨b0, off + j * 4 + 1, none⟩) hb1).trans e1
          have k2 : wr.cell? ⟨b0, off + j * 4 + 2, none⟩ = some (.int .i64 x.e) := (bw.cell (p := ⟨b0, off + j * 4 + 2, none⟩) hb1).trans e2
          have k3 : wr.cell? ⟨b0, off + j * 4 + 3, none⟩ = some (.int .i64 x.b) := (bw.cell (p := ⟨b0, off + j * 4 + 3, none⟩) hb1).trans e3
          obtain ⟨a', c', w2, hr, ho, b2⟩ := ev_append how (by rw [HN.out]; exact hlt) (by rw [HN.out]; exact HNL.out) rfl bw (Nat.le_refl _)
          rw [hx] at hr
          have HR := Lib.hid hr
          have jn : (j : Int) < n := by omega
          have j0 : (0 : Int) ≤ j := by omega
          clear hr how bw e0 e1 e2 e3 hx hb1
          have jw : wrap64 ((j : Int) + 1) = (j : Int) + 1 := IntWalk.wrap64_in _ (by have := HNL.out; omega)
          go_wp2_with (at_builtin; refine Lib.wpList_append_run _ rfl _ _ _ _ rfl _ _ rfl rfl _ _ HR.out ?_)
          go_roundw
          case rel =>
            rw [jw]
            exact ⟨j + 1, a', c', hlt, by rw [Int.natCast_add]; rfl, rfl, ho, b2⟩
          case measure =>
            rw [jw]
            exact meas_up hlt
        · obtain rfl : j = n := by omega
          have hpk := rpack_words how HN.out HNL.out HEV.out
          have HPK := Lib.hid hpk
          clear how hpk hlt hj
          go_wp2_with fail
          with_reducible refine HPK.out.mono ?_
          rw [H3.out]
          rintro e w4 ⟨rfl, b4⟩
          have b5 := bw.trans (b4.mono bw.size)
          have q1 : w4.cell? ⟨b0, off + 1, none⟩ = some (.int .i64 a.v) := (b5.cell (p := ⟨b0, off + 1, none⟩) HB0.out).trans c1
          have q3 : w4.cell? ⟨b0, off + 3, none⟩ = some (.int .i64 a.b) := (b5.cell (p := ⟨b0, off + 3, none⟩) HB0.out).trans c3
          clear b4 bw HPK
          have x0 : IntKind.i64.wrap (vs k : Int) = (vs k : Int) := IntWalk.i64_in _ (by have := vs_le k; omega)
          have n00 : 0 < j := by omega
          have HB5 := Lib.hid b5
          have HZ5 := Lib.hid b5.size
          clear b5
          go_wp2_with fail
          go_region_held3 (fun w' => w'.cell? ⟨b0, off + 1, none⟩ = some (.int .i64 a.v) ∧ w'.cell? ⟨b0, off + 3, none⟩ = some (.int .i64 a.b))
            (first | exact ⟨q1, q3⟩ | exact ⟨r1, r3⟩ | exact ⟨t1, t3⟩)
            (first
              | (go_at_call 21; (with_reducible (refine (vsr_any k _).mono ?_)); rintro e w' ⟨rfl, rfl⟩)
              | (go_at_call 30; (with_reducible (refine (mnumb _ _ hnear a.v _).mono ?_)); rw [H1.out]; rintro e w6 ⟨rfl, b6⟩; have r1 := (b6.cell (p := ⟨b0, off + 1, none⟩) (Nat.lt_of_lt_of_le HB0.out HZ5.out)).trans q1; have r3 := (b6.cell (p := ⟨b0, off + 3, none⟩) (Nat.lt_of_lt_of_le HB0.out HZ5.out)).trans q3)
              | (go_at_call 30; (with_reducible (refine (mnumb 4 4 near_l4 a.b w6).mono ?_)); rw [H2.out]; rintro e w7 ⟨rfl, b7⟩; have t1 := (b7.cell (p := ⟨b0, off + 1, none⟩) (Nat.lt_of_lt_of_le (Nat.lt_of_lt_of_le HB0.out HZ5.out) b6.size)).trans r1; have t3 := (b7.cell (p := ⟨b0, off + 3, none⟩) (Nat.lt_of_lt_of_le (Nat.lt_of_lt_of_le HB0.out HZ5.out) b6.size)).trans r3))
          all_goals
            go_wp2_with fail
            go_ret
            refine ⟨congrArg (fun s => Ending.returned (.string s)) HBY.out.symm, ?_⟩
            have c6 := (HB5.out.drew).trans (b6.mono HZ5.out)
            exact c6.trans (b7.mono c6.size)
end Go.Proofs.Ytoigapanhbmjlaa
