/- The statement PartyBound: a port keeps at most MaxAttrs attributes; what it says can be, and has bytes. No condition. -/
import Derived.Test.YthghedlgeceepaaPmAlive
import Derived.Test.YthghedlgeceepaaPmSteps
import Derived.Test.YthghedlgeceepaaMrPutM
namespace Go.Proofs.Ythghedlgeceepaa
open Go.ChangeShapes Go.WideShapes Go.ChangeAt Go.RowKit
set_option maxRecDepth 100000

theorem row_list {W : World} {a : Option Addr} {len cap : Nat} {zs : List Int} (h : IsRow .i64 W a len cap zs) : (zs.take len).length = len ∧ (zs.take len = [] ∨ ∃ b off, a = some ⟨b, off, none⟩ ∧ b < W.heap.size ∧ ∀ j, j < (zs.take len).length → W.cell? ⟨b, off + j, none⟩ = some (.int .i64 ((zs.take len).getD j 0))) := by
  have hl : (zs.take len).length = len := by rw [List.length_take]; have := h.len_le; omega
  refine ⟨hl, ?_⟩
  by_cases h0 : len = 0
  · subst h0
    exact .inl rfl
  · obtain ⟨b, off, e, hb, _⟩ := h.at_ (i := 0) (by omega)
    refine .inr ⟨b, off, e, hb, fun j hj => ?_⟩
    rw [hl] at hj
    obtain ⟨b', off', e', _, hc⟩ := h.at_ (i := j) hj
    rw [e] at e'
    injection e' with e'
    injection e' with e1 e2
    subst e1 e2
    rw [hc]
    congr 2
    rw [List.getD_eq_getElem?_getD, List.getD_eq_getElem?_getD, List.getElem?_take, if_pos hj]
theorem row_new {W V : World} {a : Option Addr} {len cap : Nat} {zs : List Int} (h : IsRow .i64 W a len cap zs) (hb : Below W.heap.size W V) : (zs.take len = [] ∨ ∃ b off, a = some ⟨b, off, none⟩ ∧ ∀ j, j < (zs.take len).length → V.cell? ⟨b, off + j, none⟩ = some (.int .i64 ((zs.take len).getD j 0))) := by
  rcases (row_list h).2 with e | ⟨b, off, e, hl, hc⟩
  · exact .inl e
  · exact .inr ⟨b, off, e, fun j hj => (hb.cell (p := ⟨b, off + j, none⟩) hl).trans (hc j hj)⟩
/- Few words have few bytes. -/
theorem vec_few (k : Int) (more : Bool) (l : List Wd) : (vecBytes k more l).length ≤ 12 + l.length := by
  have h1 := vs_le k
  have h2 := sz_le l.length 3 6 (.inl ⟨rfl, rfl⟩)
  simp only [vecBytes, List.length_append, be_length, rows_length]
  omega
theorem vecs_few (k : Int) : ∀ (N : Nat) (more : Bool) (l : List Wd), l.length ≤ N → (vecs k more l).length ≤ 12 + 13 * l.length ∧ (l ≠ [] ∨ more = false → (vecs k more l).length ≤ 13 * l.length) := by
  intro N
  induction N with
  | zero =>
    intro more l h
    have : l = [] := List.eq_nil_of_length_eq_zero (by omega)
    subst this
    rw [vecs_nil]
    cases more with
    | false => exact ⟨by simp, fun _ => by simp⟩
    | true =>
      have := vec_few k true []
      exact ⟨by simpa using this, fun c => c.elim (fun c => absurd rfl c) (fun c => by cases c)⟩
  | succ N ih =>
    intro more l h
    cases l with
    | nil =>
      rw [vecs_nil]
      cases more with
      | false => exact ⟨by simp, fun _ => by simp⟩
      | true =>
        have := vec_few k true []
        exact ⟨by simpa using this, fun c => c.elim (fun c => absurd rfl c) (fun c => by cases c)⟩
    | cons a t =>
      rw [vecs_cons, List.length_append]
      have h1 := rowLen_le (a :: t)
      have h2 : 1 ≤ rowLen (a :: t) := by simp only [rowLen]; omega
      have h3 := (ih false ((a :: t).drop (rowLen (a :: t))) (by rw [List.length_drop]; simp only [List.length_cons] at h ⊢; omega)).2 (.inr rfl)
      have h4 := vec_few k more ((a :: t).take (rowLen (a :: t)))
      rw [List.length_drop] at h3
      rw [List.length_take] at h4
      have h5 : min (rowLen (a :: t)) (a :: t).length = rowLen (a :: t) := Nat.min_eq_left h1.1
      rw [h5] at h4
      exact ⟨by omega, fun _ => by omega⟩
theorem part_few (k : Int) (all : Bool) (l : List Wd) : (partBytes k all l).length ≤ 16 + 13 * l.length := by
  unfold partBytes
  split
  · simp
  · have := (vecs_few k l.length all l (Nat.le_refl _)).1
    simp only [List.length_append, be_length, List.length_cons, List.length_nil]
    omega
theorem ofK_sum (ws : List Wd) : (ofK 1 ws).length + (ofK 2 ws).length + (ofK 3 ws).length ≤ ws.length := by
  induction ws with
  | nil => exact Nat.le_refl _
  | cons w ws ih =>
    unfold ofK at *
    simp only [List.filter_cons, List.length_cons]
    by_cases h1 : w.t = 1
    · have h2 : ¬ w.t = 2 := by omega
      have h3 : ¬ w.t = 3 := by omega
      simp only [h1, decide_true, if_true, List.length_cons]
      simp
      omega
    · by_cases h2 : w.t = 2
      · simp only [h2, decide_true, if_true, List.length_cons]
        simp
        omega
      · by_cases h3 : w.t = 3
        · simp only [h3, decide_true, if_true, List.length_cons]
          simp
          omega
        · simp only [h1, h2, h3, decide_false]
          simp
          omega
theorem bytes_few (m : Msg) (h : m.ws.length ≤ 16) : m.bytes.length ≤ 300 := by
  have h1 := part_few 1 (decide ((1 : Int) ∈ m.all)) (ofK 1 m.ws)
  have h2 := part_few 2 (decide ((2 : Int) ∈ m.all)) (ofK 2 m.ws)
  have h3 := part_few 3 (decide ((3 : Int) ∈ m.all)) (ofK 3 m.ws)
  have h4 := ofK_sum m.ws
  unfold Msg.bytes
  simp only [List.length_append, List.length_cons, List.length_nil]
  omega
/-- What the calls keep. -/
theorem goodMd_cases {m : Int} (h : goodMd m = true) : m = 0 ∨ m = 1 ∨ m = 2 := by
  unfold goodMd at h
  rw [Bool.and_eq_true, decide_eq_true_eq, decide_eq_true_eq] at h
  omega
theorem PyOk.modeQ' {T : Int} {p : Py} (h : PyOk T p) (hT : 0 ≤ T) (t v m : Int) : PyOk T (modeQ p t v m) := by
  unfold modeQ
  split
  · rename_i c
    exact h.mode hT (of_decide_eq_true c.1) (goodMd_cases c.2)
  · exact h
theorem TidyOk.modeQ' {p : Py} (h : TidyOk p) (t v m : Int) : TidyOk (modeQ p t v m) := by
  unfold modeQ
  split
  · exact h.mode t v m
  · exact h
theorem wantW_is {T : Int} {p : Py} (h : PyOk T p) (htd : TidyOk p) (hT : 0 ≤ T) (t v b : Int) (n : Bool) : wantW p t v b n = if attrB t v = true ∧ b ≤ 1048576 then wantP p t v b n else p := by
  unfold wantW
  split
  · rename_i c
    exact want_is h hT htd (of_decide_eq_true c.1) b n
  · rfl
theorem PyOk.wantW' {T : Int} {p : Py} (h : PyOk T p) (htd : TidyOk p) (hT : 0 ≤ T) (t v b : Int) (n : Bool) : PyOk T (wantW p t v b n) ∧ TidyOk (wantW p t v b n) := by
  rw [wantW_is h htd hT]
  split
  · rename_i c
    exact ⟨h.want hT (of_decide_eq_true c.1) c.2, htd.want t v b n⟩
  · exact ⟨h, htd⟩
theorem PyOk.hearQ' {T : Int} {p : Py} (h : PyOk T p) (htd : TidyOk p) (hT : 0 ≤ T) (m : Msg) : PyOk T (hearQ p m T) ∧ TidyOk (hearQ p m T) := by
  unfold hearQ
  split
  · rename_i c
    exact ⟨h.hear hT (of_decide_eq_true c), TidyOk.tidy _⟩
  · exact ⟨h, htd⟩
/-- How a part stands between two steps. -/
def BoundAt (W wr : World) (g : Nat) (jl : List Int) (T : Int) : Prop := ∃ p F, PyF wr W.heap.size g p jl F ∧ PyOk T p ∧ TidyOk p ∧ Below W.heap.size W wr
theorem PyF.low_keep {W wr w' : World} {g : Nat} {p : Py} {jl : List Int} {F : Nat → Prop} (h : PyF wr W.heap.size g p jl F) (hW : Below W.heap.size W wr) (ht : Touch F wr w') : Below W.heap.size W w' :=
  hW.trans (ht.below hW.size fun k hk => by obtain ⟨y, hy⟩ := h; exact (hy.lt k hk).1)
theorem said_odd (jit : Nat → Int) (p : Py) {T : Int} (h : ¬ T % 2 = 0) : saidP jit p T = ⟨[], []⟩ := by
  unfold saidP tellP
  rw [if_neg h]
theorem low_touch {wr V : World} {F : Nat → Prop} {B : Nat} (t : Touch F wr V) (h : ∀ k, F k → ¬ k < B) (hB : B ≤ wr.heap.size) : Below B wr V := t.below hB fun k hk => by have := h k hk; omega
set_option maxHeartbeats 32000000 in
theorem walkPartyBound (a0 : Option Addr) (len0 cap0 : Nat) (z0 : List Int) (a1 : Option Addr) (cap1 : Nat) (l1 : List Sp) (W : World) (w0 : IsRow .i64 W a0 len0 cap0 z0) (w1 : SpAt W W.heap.size a1 l1 ∧ l1.length ≤ maxLen) :
    Calls Try.prog 3 #[.slice a0 len0 cap0, .slice a1 l1.length cap1] W fun e W' => e = .returned (.bool true) ∧ Below W.heap.size W W' := by
  have HAL := Lib.hid (palive_any W)
  have HGR := Lib.hid (fun (V : World) (hV : Below W.heap.size W V) => sgreat_any a1 cap1 l1 V (show SpAt V V.heap.size a1 l1 from (w1.1.below hV).more hV.size) w1.2)
  have HR := Lib.hid w0
  have HDA := Lib.hid w1
  have e0 := (row_list w0).1
  obtain ⟨jl, hjl⟩ : ∃ jl, z0.take len0 = jl := ⟨_, rfl⟩
  rw [hjl] at e0
  have HNW := Lib.hid (fun (V : World) (hV : Below W.heap.size W V) (h30 : len0 ≤ 30) => show Calls Try.prog 8 #[.slice a0 len0 cap0] V _ by
    have := row_new HR.out hV
    rw [hjl] at this
    have h2 := pnew_any a0 cap0 jl V this (by omega)
    rw [e0] at h2
    exact h2)
  obtain ⟨n, hn⟩ : ∃ n, l1.length = n := ⟨_, rfl⟩
  have HN := Lib.hid hn
  rw [hn] at HGR ⊢
  have n0 : (0 : Int) ≤ n := by omega
  clear w0 w1 e0 hjl hn
  go_enter Try.func3, Try.ntmps3
  go_wp2_with fail
  refine HAL.out.mono ?_
  rintro e v1 ⟨rfl, b1⟩
  have HG1 := Lib.hid (HGR.out v1 b1)
  have HB1 := Lib.hid b1
  clear b1
  go_wp2_with fail
  refine HG1.out.mono ?_
  rintro e v2 (⟨rfl, b2⟩ | ⟨rfl, hpl, b2⟩)
  · have HE := Lib.hid (HB1.out.trans (b2.mono HB1.out.size))
    clear b2
    go_wp2_with fail
    go_ret
    exact ⟨rfl, HE.out⟩
  have HB2 := Lib.hid (HB1.out.trans (b2.mono HB1.out.size))
  have HPLD := Lib.hid (show n ≤ 60 ∧ Played l1 n by rw [← HN.out]; rw [← HN.out] at hpl; exact hpl)
  clear b2 hpl
  by_cases d0 : 30 < (len0 : Int)
  · go_wp2_with fail
    go_ret
    exact ⟨rfl, HB2.out⟩
  have d0' : (len0 : Int) ≤ 30 := by omega
  have HNW2 := Lib.hid (HNW.out v2 HB2.out (by omega))
  clear d0
  go_wp2_with fail
  refine HNW2.out.mono ?_
  rintro e v3 ⟨g, F3, rfl, hp3, b3⟩
  have HST := Lib.hid (show BoundAt W v3 g jl 0 from ⟨_, F3, hp3.low HB2.out.size, PyOk.new _ _, fun _ h => absurd h List.not_mem_nil, HB2.out.trans (b3.mono HB2.out.size)⟩)
  clear hp3 b3
  go_wp2_with fail
  go_loopw [6, 26] (fun tv iv wr => ∃ (j : Nat) (T : Int), j ≤ n ∧ iv = .int .i64 j ∧ tv = .int .i64 T ∧ Hid (BoundAt W wr g jl T ∧ 0 ≤ T ∧ T ≤ 300 * (j : Int))) (fun _ iv _ => n - (intOf iv).toNat)
  case atStart => exact ⟨0, 0, Nat.zero_le _, rfl, rfl, Lib.hid ⟨HST.out, Int.le_refl _, by omega⟩⟩
  case round =>
    obtain ⟨j, T, hj, rfl, rfl, hS⟩ := hrel
    by_cases hlt : j < n
    · have j1 : (j : Int) < n := by omega
      have j0 : (0 : Int) ≤ j := by omega
      have HJJ := Lib.hid (show j < 60 by have := HPLD.out.1; omega)
      have HJ := Lib.hid (show wrap64 ((j : Int) + 1) = (j : Int) + 1 from IntWalk.wrap64_in _ (by have := HPLD.out.1; omega))
      obtain ⟨p, F, hp, hok, htd, hbw⟩ := hS.out.1
      obtain ⟨⟨b, off, eA, hbl, hc⟩, hia, hwa⟩ := HDA.out.1 j (by rw [HN.out]; exact hlt)
      have hc := hc.below hbw hbl
      have hpl := HPLD.out.2 j hlt
      obtain ⟨x, hx⟩ : ∃ x, l1.getD j sp0 = x := ⟨_, rfl⟩
      rw [hx] at hc hpl hia hwa
      obtain ⟨k0, k1, k2, k3, k4, k5, k6, k7, k8, k9⟩ := x
      obtain ⟨q0, q1, q2, q3, q4, q5, q6⟩ := hc
      simp only at hpl q0 q1 q2 q3 q4 q5 q6 hia hwa
      obtain ⟨an, han⟩ : ∃ an, k9.all.length = an := ⟨_, rfl⟩
      obtain ⟨wn, hwn⟩ : ∃ wn, k9.ws.length = wn := ⟨_, rfl⟩
      have HAN := Lib.hid (And.intro han hwn)
      rw [han] at q5
      rw [hwn] at q6
      have HDAT := Lib.hid (And.intro hia hwa)
      have HPL := Lib.hid hpl.1
      have HLL := Lib.hid hpl.2
      have HTT := Lib.hid hS.out.2
      have HLT := Lib.hid hlt
      have hbx := bel_alloc wr (.cells #[.int .i64 k0, .int .i64 k1, .int .i64 k2, .int .i64 k3, .bool k4, .slice k5 an k6, .slice k7 wn k8] 34)
      have hp1 := hp.keep (below_touch hbx fun _ => False) fun _ _ => id
      have hbw1 := hbw.trans (hbx.mono hbw.size)
      have HP := Lib.hid (And.intro trivial (And.intro hok (And.intro htd trivial)))
      have HP1 := Lib.hid (And.intro hp1 hbw1)
      have hB1 := hbw1.size
      obtain ⟨y1, hy1⟩ := hp1
      subst eA
      clear hS hx hpl hia hwa han hwn hlt hbx hbw hbw1 hp hok htd hbl hj
      by_cases z0 : k0 = 0
      · subst z0
        have HMD := Lib.hid (mode_any hy1 HP.out.2.1 HTT.out.1 hB1 k1 k2 k3)
        have HQ := Lib.hid (And.intro (HP.out.2.1.modeQ' HTT.out.1 k1 k2 k3) (HP.out.2.2.1.modeQ' k1 k2 k3))
        clear hy1 hB1
        go_wp2_with fail
        refine HMD.out.mono ?_
        rintro e w2 ⟨⟨z, rfl⟩, hp2, t2⟩
        have HB2 := Lib.hid (show BoundAt W w2 g jl T from ⟨_, _, hp2, HQ.out.1, HQ.out.2, HP1.out.1.low_keep HP1.out.2 t2⟩)
        clear hp2 t2
        obtain ⟨p9, F9, ⟨y9, hy9⟩, hok9, htd9, hb9⟩ := HB2.out
        have HAT := Lib.hid (attrs_any hy9 hok9.len)
        have HS9 := Lib.hid (And.intro hy9 (And.intro hok9 (And.intro htd9 hb9)))
        obtain ⟨pl, hpl⟩ : ∃ pl, p9.l.length = pl := ⟨_, rfl⟩
        have hpl2 : (pl : Int) ≤ 16 := by have := hok9.len; omega
        rw [hpl] at HAT
        clear hy9 hok9 htd9 hb9 hpl
        go_wp2_with fail
        refine HAT.out.mono ?_
        rintro e v9 ⟨A9, c9, rfl, b9⟩
        have HE := Lib.hid (show BoundAt W v9 g jl T ∧ 0 ≤ T ∧ T ≤ 300 * ((j + 1 : Nat) : Int) from ⟨⟨p9, F9, ⟨y9, HS9.out.1.below b9⟩, HS9.out.2.1, HS9.out.2.2.1, HS9.out.2.2.2.trans (b9.mono HS9.out.2.2.2.size)⟩, by have := HTT.out.1; omega, by have := HTT.out.2; rw [Int.natCast_add]; omega⟩)
        clear b9
        go_wp2_with fail
        go_roundw
        case rel =>
          try rw [HJ.out]
          exact ⟨j + 1, _, HLT.out, by rw [Int.natCast_add]; rfl, rfl, HE⟩
        case measure =>
          try rw [HJ.out]
          show n - ((j : Int) + 1).toNat < n - ((j : Int)).toNat
          have := HLT.out
          omega
      by_cases z1 : k0 = 1
      · subst z1
        have HWN := Lib.hid (want_any hy1 HP.out.2.1 HTT.out.1 hB1 k1 k2 k3 k4)
        have HQ := Lib.hid (HP.out.2.1.wantW' HP.out.2.2.1 HTT.out.1 k1 k2 k3 k4)
        clear hy1 hB1
        go_wp2_with fail
        refine HWN.out.mono ?_
        rintro e w2 ⟨rfl, hp2, t2⟩
        have HB2 := Lib.hid (show BoundAt W w2 g jl T from ⟨_, _, hp2, HQ.out.1, HQ.out.2, HP1.out.1.low_keep HP1.out.2 t2⟩)
        clear hp2 t2
        obtain ⟨p9, F9, ⟨y9, hy9⟩, hok9, htd9, hb9⟩ := HB2.out
        have HAT := Lib.hid (attrs_any hy9 hok9.len)
        have HS9 := Lib.hid (And.intro hy9 (And.intro hok9 (And.intro htd9 hb9)))
        obtain ⟨pl, hpl⟩ : ∃ pl, p9.l.length = pl := ⟨_, rfl⟩
        have hpl2 : (pl : Int) ≤ 16 := by have := hok9.len; omega
        rw [hpl] at HAT
        clear hy9 hok9 htd9 hb9 hpl
        go_wp2_with fail
        refine HAT.out.mono ?_
        rintro e v9 ⟨A9, c9, rfl, b9⟩
        have HE := Lib.hid (show BoundAt W v9 g jl T ∧ 0 ≤ T ∧ T ≤ 300 * ((j + 1 : Nat) : Int) from ⟨⟨p9, F9, ⟨y9, HS9.out.1.below b9⟩, HS9.out.2.1, HS9.out.2.2.1, HS9.out.2.2.2.trans (b9.mono HS9.out.2.2.2.size)⟩, by have := HTT.out.1; omega, by have := HTT.out.2; rw [Int.natCast_add]; omega⟩)
        clear b9
        go_wp2_with fail
        go_roundw
        case rel =>
          try rw [HJ.out]
          exact ⟨j + 1, _, HLT.out, by rw [Int.natCast_add]; rfl, rfl, HE⟩
        case measure =>
          try rw [HJ.out]
          show n - ((j : Int) + 1).toNat < n - ((j : Int)).toNat
          have := HLT.out
          omega
      by_cases z2 : k0 = 2
      · subst z2
        have hF0 : ∀ k, F k → ¬ k < W.heap.size := fun k hk hc => by have := (hy1.lt k hk).1; omega
        have HHR := Lib.hid (phear_any hy1 HP.out.2.1 (tk_of HTT.out.1 (by have := HTT.out.2; have := HJJ.out; omega)) hB1 k5 k7 k6 k8 k9 (by have := HLL.out; have := HAN.out; omega) (by have := HLL.out; have := HAN.out; omega)
          (fun V tV => ((HDAT.out.1.below HP1.out.2).below (low_touch tV hF0 HP1.out.2.size)).more (by have := HP1.out.2.size; have := tV.size; omega)) (fun V tV => ((HDAT.out.2.below HP1.out.2).below (low_touch tV hF0 HP1.out.2.size)).more (by have := HP1.out.2.size; have := tV.size; omega)))
        have HQ := Lib.hid (HP.out.2.1.hearQ' HP.out.2.2.1 HTT.out.1 k9)
        rw [HAN.out.1, HAN.out.2] at HHR
        clear hy1 hB1 hF0
        go_wp2_with fail
        refine HHR.out.mono ?_
        rintro e w2 ⟨⟨z, rfl⟩, hp2, t2⟩
        have HB2 := Lib.hid (show BoundAt W w2 g jl T from ⟨_, _, hp2, HQ.out.1, HQ.out.2, HP1.out.1.low_keep HP1.out.2 t2⟩)
        clear hp2 t2
        obtain ⟨p9, F9, ⟨y9, hy9⟩, hok9, htd9, hb9⟩ := HB2.out
        have HAT := Lib.hid (attrs_any hy9 hok9.len)
        have HS9 := Lib.hid (And.intro hy9 (And.intro hok9 (And.intro htd9 hb9)))
        obtain ⟨pl, hpl⟩ : ∃ pl, p9.l.length = pl := ⟨_, rfl⟩
        have hpl2 : (pl : Int) ≤ 16 := by have := hok9.len; omega
        rw [hpl] at HAT
        clear hy9 hok9 htd9 hb9 hpl
        go_wp2_with fail
        refine HAT.out.mono ?_
        rintro e v9 ⟨A9, c9, rfl, b9⟩
        have HE := Lib.hid (show BoundAt W v9 g jl T ∧ 0 ≤ T ∧ T ≤ 300 * ((j + 1 : Nat) : Int) from ⟨⟨p9, F9, ⟨y9, HS9.out.1.below b9⟩, HS9.out.2.1, HS9.out.2.2.1, HS9.out.2.2.2.trans (b9.mono HS9.out.2.2.2.size)⟩, by have := HTT.out.1; omega, by have := HTT.out.2; rw [Int.natCast_add]; omega⟩)
        clear b9
        go_wp2_with fail
        go_roundw
        case rel =>
          try rw [HJ.out]
          exact ⟨j + 1, _, HLT.out, by rw [Int.natCast_add]; rfl, rfl, HE⟩
        case measure =>
          try rw [HJ.out]
          show n - ((j : Int) + 1).toNat < n - ((j : Int)).toNat
          have := HLT.out
          omega
      by_cases z3 : k0 = 3
      · subst z3
        have hk3 := HPL.out rfl
        have HK3 := Lib.hid hk3
        obtain ⟨N, hN⟩ : ∃ N : Nat, (N : Int) = k3 := ⟨k3.toNat, by omega⟩
        have HNN := Lib.hid (show N ≤ 300 by omega)
        have HS0 := Lib.hid (show BoundAt W (wr.alloc (.cells #[.int .i64 3, .int .i64 k1, .int .i64 k2, .int .i64 k3, .bool k4, .slice k5 an k6, .slice k7 wn k8] 34)) g jl T from ⟨p, F, HP1.out.1, HP.out.2.1, HP.out.2.2.1, HP1.out.2⟩)
        subst hN
        clear hy1 hB1 hk3
        go_wp2_with fail
        go_loopw [6, 61] (fun tv iv wr2 => ∃ (i : Nat) (S : Int), i ≤ N ∧ iv = .int .i64 i ∧ tv = .int .i64 S ∧ Hid (BoundAt W wr2 g jl S ∧ T ≤ S ∧ S ≤ T + i)) (fun _ iv _ => N - (intOf iv).toNat)
        case atStart => exact ⟨0, T, Nat.zero_le _, rfl, rfl, Lib.hid ⟨HS0.out, Int.le_refl _, by omega⟩⟩
        case round =>
          obtain ⟨i, S, hi, rfl, rfl, hI⟩ := hrel
          by_cases hil : i < N
          · have i1 : (i : Int) < N := by omega
            have i0 : (0 : Int) ≤ i := by omega
            have HJI := Lib.hid (show wrap64 ((i : Int) + 1) = (i : Int) + 1 from IntWalk.wrap64_in _ (by have := HNN.out; omega))
            have hSb : 0 ≤ S ∧ S ≤ 20000 := by have := HTT.out; have := HJJ.out; have := hI.out.2; have := HNN.out; omega
            have HSB := Lib.hid hSb
            have hS1 : wrap64 (S + 1) = S + 1 := IntWalk.wrap64_in _ (by omega)
            obtain ⟨p2, F2, ⟨y2, hy2⟩, hok2, htd2, hb2⟩ := hI.out.1
            have hok2' : PyOk (S + 1) p2 := hok2.more (by omega)
            have hS0 : 0 ≤ S + 1 := by omega
            have HTK := Lib.hid (tick_any hy2 hok2' (tk_of hS0 (by omega)))
            have HG := Lib.hid (said_good hok2' hS0 (jitD jl))
            have HFW := Lib.hid (said_few (jitD jl) hok2' hS0)
            have HQ := Lib.hid (And.intro (hok2'.tick hS0 (jitD jl)) (show TidyOk (tickP (jitD jl) p2 (S + 1)) from TidyOk.tidy _))
            have HP2 := Lib.hid (And.intro (show PyF wr W.heap.size g p2 jl F2 from ⟨y2, hy2⟩) hb2)
            have HILT := Lib.hid (And.intro hil hI.out.2)
            obtain ⟨b2, hb2v⟩ : ∃ b2, decide ((S + 1) % 2 = 0) = b2 := ⟨_, rfl⟩
            have HOD := Lib.hid (show b2 = false → saidP (jitD jl) p2 (S + 1) = ⟨[], []⟩ from fun h => said_odd _ _ (of_decide_eq_false (hb2v.trans h)))
            have m2 : ((S + 1).tmod 2 != 0) = !b2 := by rw [← hb2v, Int.tmod_eq_emod_of_nonneg hS0]; exact Bool.eq_iff_iff.2 (by simp)
            have m2' : ((S + 1) % 2 != 0) = !b2 := by rw [← hb2v]; exact Bool.eq_iff_iff.2 (by simp)
            obtain ⟨m, hm⟩ : ∃ m, saidP (jitD jl) p2 (S + 1) = m := ⟨_, rfl⟩
            obtain ⟨tp, htp⟩ : ∃ tp, tickP (jitD jl) p2 (S + 1) = tp := ⟨_, rfl⟩
            rw [hm] at HTK HG HFW HOD
            rw [htp] at HTK HQ
            clear hy2 hok2 hok2' htd2 hb2 hS0 hSb hil hi hI hm htp hb2v
            go_wp2_with fail
            try rw [hS1]
            refine HTK.out.mono ?_
            rintro e w3 ⟨A3, c3, B3, d3, rfl, ho3, hw3, hp3, t3⟩
            obtain ⟨an3, han3⟩ : ∃ an3, m.all.length = an3 := ⟨_, rfl⟩
            obtain ⟨sn3, hsn3⟩ : ∃ sn3, m.ws.length = sn3 := ⟨_, rfl⟩
            have hfw := HFW.out
            rw [han3, hsn3] at hfw
            have hx4 := bel_alloc w3 (.cells #[.slice A3 an3 c3, .slice B3 sn3 d3] 32)
            have ho4 := ho3.at_.below hx4
            have hw4 := hw3.at_.below hx4
            have hcap : m.ws.length ≤ d3 := (own_cap hw3).1
            have hby := mbytes_good A3 B3 c3 d3 m w3.heap.size (w3.alloc (.cells #[.slice A3 an3 c3, .slice B3 sn3 d3] 32)) hx4.size (by omega) (by omega) ho4 hw4 hcap HG.out
            rw [if_neg (show ¬ 400 < m.bytes.length by have := bytes_few m (by omega); omega), han3, hsn3] at hby
            have HBY := Lib.hid hby
            have HB4 := Lib.hid (show BoundAt W (w3.alloc (.cells #[.slice A3 an3 c3, .slice B3 sn3 d3] 32)) g jl (S + 1) from ⟨tp, F2, hp3.keep (below_touch hx4 fun _ => False) fun _ _ => id, HQ.out.1, HQ.out.2, (HP2.out.1.low_keep HP2.out.2 t3).trans (hx4.mono (HP2.out.1.low_keep HP2.out.2 t3).size)⟩)
            have hmb := Blk.new w3 32 #[.slice A3 an3 c3, .slice B3 sn3 d3]
            have HMB := Lib.hid hmb
            obtain ⟨sb, hsb⟩ : ∃ sb, sayB' m = sb := ⟨_, rfl⟩
            have hsb2 : decide (0 < an3 + sn3) = sb := by rw [← hsb, ← han3, ← hsn3]; rfl
            have hodd : b2 = false → an3 + sn3 = 0 := fun h => by rw [← han3, ← hsn3, HOD.out h]; rfl
            rw [han3, hsn3, hsb]
            have HAS := Lib.hid (And.intro hsb2 (And.intro hodd hfw))
            clear ho3 hw3 hp3 t3 han3 hsn3 hfw hx4 ho4 hw4 hcap hby hmb hsb hsb2 hodd
            go_wp2_with fail
            refine HBY.out.mono ?_
            rintro e w5 ⟨rfl, b5⟩
            have hm5 := HMB.out.below b5 HMB.out.lt
            have x0 := hm5.cell 0
            have x1 := hm5.cell 1
            have HE := Lib.hid (show BoundAt W w5 g jl (S + 1) ∧ T ≤ S + 1 ∧ S + 1 ≤ T + ((i + 1 : Nat) : Int) from by
              obtain ⟨p4, F4, h1, h2, h3, h4⟩ := HB4.out
              refine ⟨⟨p4, F4, h1.keep (below_touch b5 fun _ => False) fun _ _ => id, h2, h3, h4.trans (b5.mono h4.size)⟩, by have := HILT.out.2; omega, by have := HILT.out.2; rw [Int.natCast_add]; omega⟩)
            clear hm5 b5
            cases sb with
            | false =>
              cases b2 with
              | false =>
                go_wp2_with fail
                go_roundw
                case rel =>
                  try rw [HJI.out]
                  exact ⟨i + 1, S + 1, HILT.out.1, by rw [Int.natCast_add]; rfl, rfl, HE⟩
                case measure =>
                  try rw [HJI.out]
                  show N - ((i : Int) + 1).toNat < N - ((i : Int)).toNat
                  have := HILT.out.1
                  omega
              | true =>
                go_wp2_with fail
                go_roundw
                case rel =>
                  try rw [HJI.out]
                  exact ⟨i + 1, S + 1, HILT.out.1, by rw [Int.natCast_add]; rfl, rfl, HE⟩
                case measure =>
                  try rw [HJI.out]
                  show N - ((i : Int) + 1).toNat < N - ((i : Int)).toNat
                  have := HILT.out.1
                  omega
            | true =>
              cases b2 with
              | false =>
                have := HAS.out.2.1 rfl
                have h2 := of_decide_eq_true HAS.out.1
                omega
              | true =>
                have h2 := of_decide_eq_true HAS.out.1
                have h3 := HAS.out.2.2
                have hw : wrap64 ((an3 : Int) + (sn3 : Int)) = (an3 : Int) + (sn3 : Int) := IntWalk.wrap64_in _ (by omega)
                have hz : ((an3 : Int) + (sn3 : Int) == 0) = false := by rw [beq_eq_false_iff_ne]; omega
                clear h2 h3
                go_wp2_with fail
                go_roundw
                case rel =>
                  try rw [HJI.out]
                  exact ⟨i + 1, S + 1, HILT.out.1, by rw [Int.natCast_add]; rfl, rfl, HE⟩
                case measure =>
                  try rw [HJI.out]
                  show N - ((i : Int) + 1).toNat < N - ((i : Int)).toNat
                  have := HILT.out.1
                  omega
          · obtain rfl : i = N := by omega
            have HTS := Lib.hid hI.out.2
            have HB2 := Lib.hid hI.out.1
            clear hi hil hI
            go_wp2_with fail
            obtain ⟨p9, F9, ⟨y9, hy9⟩, hok9, htd9, hb9⟩ := HB2.out
            have HAT := Lib.hid (attrs_any hy9 hok9.len)
            have HS9 := Lib.hid (And.intro hy9 (And.intro hok9 (And.intro htd9 hb9)))
            obtain ⟨pl, hpl⟩ : ∃ pl, p9.l.length = pl := ⟨_, rfl⟩
            have hpl2 : (pl : Int) ≤ 16 := by have := hok9.len; omega
            rw [hpl] at HAT
            clear hy9 hok9 htd9 hb9 hpl
            go_wp2_with fail
            refine HAT.out.mono ?_
            rintro e v9 ⟨A9, c9, rfl, b9⟩
            have HE := Lib.hid (show BoundAt W v9 g jl S ∧ 0 ≤ S ∧ S ≤ 300 * ((j + 1 : Nat) : Int) from ⟨⟨p9, F9, ⟨y9, HS9.out.1.below b9⟩, HS9.out.2.1, HS9.out.2.2.1, HS9.out.2.2.2.trans (b9.mono HS9.out.2.2.2.size)⟩, by have := HTT.out; have := HTS.out; omega, by have := HTT.out; have := HTS.out; have := HNN.out; rw [Int.natCast_add]; omega⟩)
            clear b9
            go_wp2_with fail
            go_roundw
            case rel =>
              try rw [HJ.out]
              exact ⟨j + 1, _, HLT.out, by rw [Int.natCast_add]; rfl, rfl, HE⟩
            case measure =>
              try rw [HJ.out]
              show n - ((j : Int) + 1).toNat < n - ((j : Int)).toNat
              have := HLT.out
              omega
      by_cases z4 : k0 = 4
      · subst z4
        have HFL := Lib.hid (flush_any hy1 HP.out.2.1)
        have HQ := Lib.hid (And.intro (HP.out.2.1.flush HTT.out.1) (show TidyOk (flushP p T) from TidyOk.tidy _))
        clear hy1 hB1
        go_wp2_with fail
        refine HFL.out.mono ?_
        rintro e w2 ⟨rfl, hp2, t2⟩
        have HB2 := Lib.hid (show BoundAt W w2 g jl T from ⟨_, _, hp2, HQ.out.1, HQ.out.2, HP1.out.1.low_keep HP1.out.2 t2⟩)
        clear hp2 t2
        obtain ⟨p9, F9, ⟨y9, hy9⟩, hok9, htd9, hb9⟩ := HB2.out
        have HAT := Lib.hid (attrs_any hy9 hok9.len)
        have HS9 := Lib.hid (And.intro hy9 (And.intro hok9 (And.intro htd9 hb9)))
        obtain ⟨pl, hpl⟩ : ∃ pl, p9.l.length = pl := ⟨_, rfl⟩
        have hpl2 : (pl : Int) ≤ 16 := by have := hok9.len; omega
        rw [hpl] at HAT
        clear hy9 hok9 htd9 hb9 hpl
        go_wp2_with fail
        refine HAT.out.mono ?_
        rintro e v9 ⟨A9, c9, rfl, b9⟩
        have HE := Lib.hid (show BoundAt W v9 g jl T ∧ 0 ≤ T ∧ T ≤ 300 * ((j + 1 : Nat) : Int) from ⟨⟨p9, F9, ⟨y9, HS9.out.1.below b9⟩, HS9.out.2.1, HS9.out.2.2.1, HS9.out.2.2.2.trans (b9.mono HS9.out.2.2.2.size)⟩, by have := HTT.out.1; omega, by have := HTT.out.2; rw [Int.natCast_add]; omega⟩)
        clear b9
        go_wp2_with fail
        go_roundw
        case rel =>
          try rw [HJ.out]
          exact ⟨j + 1, _, HLT.out, by rw [Int.natCast_add]; rfl, rfl, HE⟩
        case measure =>
          try rw [HJ.out]
          show n - ((j : Int) + 1).toNat < n - ((j : Int)).toNat
          have := HLT.out
          omega
      · have f0 : (k0 == 0) = false := by simpa using z0
        have f1 : (k0 == 1) = false := by simpa using z1
        have f2 : (k0 == 2) = false := by simpa using z2
        have f3 : (k0 == 3) = false := by simpa using z3
        have f4 : (k0 == 4) = false := by simpa using z4
        clear z0 z1 z2 z3 z4
        have HB2 := Lib.hid (show BoundAt W (wr.alloc (.cells #[.int .i64 k0, .int .i64 k1, .int .i64 k2, .int .i64 k3, .bool k4, .slice k5 an k6, .slice k7 wn k8] 34)) g jl T from ⟨p, F, HP1.out.1, HP.out.2.1, HP.out.2.2.1, HP1.out.2⟩)
        clear hy1 hB1
        obtain ⟨p9, F9, ⟨y9, hy9⟩, hok9, htd9, hb9⟩ := HB2.out
        have HAT := Lib.hid (attrs_any hy9 hok9.len)
        have HS9 := Lib.hid (And.intro hy9 (And.intro hok9 (And.intro htd9 hb9)))
        obtain ⟨pl, hpl⟩ : ∃ pl, p9.l.length = pl := ⟨_, rfl⟩
        have hpl2 : (pl : Int) ≤ 16 := by have := hok9.len; omega
        rw [hpl] at HAT
        clear hy9 hok9 htd9 hb9 hpl
        go_wp2_with fail
        refine HAT.out.mono ?_
        rintro e v9 ⟨A9, c9, rfl, b9⟩
        have HE := Lib.hid (show BoundAt W v9 g jl T ∧ 0 ≤ T ∧ T ≤ 300 * ((j + 1 : Nat) : Int) from ⟨⟨p9, F9, ⟨y9, HS9.out.1.below b9⟩, HS9.out.2.1, HS9.out.2.2.1, HS9.out.2.2.2.trans (b9.mono HS9.out.2.2.2.size)⟩, by have := HTT.out.1; omega, by have := HTT.out.2; rw [Int.natCast_add]; omega⟩)
        clear b9
        go_wp2_with fail
        go_roundw
        case rel =>
          try rw [HJ.out]
          exact ⟨j + 1, _, HLT.out, by rw [Int.natCast_add]; rfl, rfl, HE⟩
        case measure =>
          try rw [HJ.out]
          show n - ((j : Int) + 1).toNat < n - ((j : Int)).toNat
          have := HLT.out
          omega
    · obtain rfl : j = n := by omega
      obtain ⟨p, F, hp, hok, htd, hbw⟩ := hS.out.1
      have HE := Lib.hid hbw
      clear hS hp hok htd hbw hj hlt
      go_wp2_with fail
      go_ret
      exact ⟨rfl, HE.out⟩
set_option maxRecDepth 100000 in
theorem liftedPartyBound (os : Os) (started : os.Started) (H : Type) (enc : TypeId × Value → H) :
    ReturnsInHanded {} Try.checked os 3 .any (Rows.partyBoundSpec.pre6 enc Try.prog Try.f3 Rows.partyBoundRow.domain false) (Rows.partyBoundSpec.post enc Try.prog Try.f3 false true false false) := by
  refine returnsInHanded_of_change (C := Try.checked) own started (by kernel_rfl) Try.func3
    (ChangeSpec.witness6 (enc := enc) (C := Try.checked) false ⟨#[], #[.slice none 0 0, .slice none 0 0], []⟩ 8 (by kernel_rfl) (by kernel_rfl) (by kernel_rfl) (by kernel_rfl)) ?_
  intro W base args ds gs before hval0 hW hcnd _
  have hval : ∀ (j : Nat) t v, Try.f3.params[j]? = some t → args[j]? = some v → Value.okWide Try.prog W .any base t v := hval0
  have hW' := hW
  obtain ⟨p, q, hA0, hV, rfl, hfz, hnd⟩ := hW
  have hA : DataW.TrodAll enc Try.prog W 0 (fun _ => true) true Try.f3.params.toList args.toList ds p := hA0
  rw [Try.params3] at hA hval
  obtain ⟨v0, vs0, d0, ds0, p0, q0, hargs, rfl, rfl, h0, r0⟩ := trodAll_cons hA
  obtain ⟨v1, vs1, d1, ds1, p1, q1, rfl, rfl, rfl, h1, r1⟩ := trodAll_cons r0
  obtain ⟨rfl, rfl, rfl⟩ := trodAll_nil r1
  obtain rfl : args = #[v0, v1] := by cases args; simp_all
  obtain ⟨rfl, rfl⟩ := trodVars_none hV
  obtain ⟨a0, len0, cap0, rfl⟩ := okWide_slice Try.underlying22 (hval 0 22 v0 rfl rfl)
  have k0 := h0
  have lt0 : ∀ x ∈ p0, x.block < W.heap.size := by obtain ⟨m, hm⟩ := k0; exact DataW.trod_lt m _ _ _ hm
  obtain ⟨z0, w0⟩ : ∃ zs, IsRow .i64 W a0 len0 cap0 zs := by
    obtain ⟨fuel, hf⟩ := h0
    rcases open_ints Try.underlying22 Try.underlying3 (by kernel_rfl) hf with ⟨hcs, _⟩ | ⟨x, l, c, zs, hcs, _, hl, hm, hz, _, hcell, hwz⟩
    · simp [Value.cells] at hcs
      obtain ⟨rfl, rfl, rfl⟩ := hcs
      exact ⟨[], .inl ⟨rfl, rfl, rfl, rfl⟩⟩
    · simp [Value.cells] at hcs
      obtain ⟨rfl, rfl, rfl⟩ := hcs
      exact ⟨zs, .inr ⟨_, rfl, hl, hm, by simpa using hz, cell_lt hcell (by simpa using hz), hcell, hwz⟩⟩
  obtain ⟨a1', len1', cap1', rfl⟩ := okWide_slice Try.underlying23 (hval 1 23 v1 rfl rfl)
  have k1 := h1
  have lt1 : ∀ x ∈ p1, x.block < W.heap.size := by obtain ⟨m, hm⟩ := k1; exact DataW.trod_lt m _ _ _ hm
  obtain ⟨a1, cap1, l1, w1, e1, e2, e3⟩ : ∃ a cap, ∃ l : List Sp, (SpAt W W.heap.size a l ∧ l.length ≤ maxLen) ∧ a1' = a ∧ len1' = l.length ∧ cap1' = cap := by
    obtain ⟨fuel, hf⟩ := h1
    obtain ⟨a, cap, l, hcs, q⟩ := open_steps hf
    simp [Value.cells] at hcs
    obtain ⟨rfl, rfl, rfl⟩ := hcs
    exact ⟨_, _, l, q, rfl, rfl, rfl⟩
  subst e1 e2 e3
  clear hA0 hval0
  refine (walkPartyBound a0 len0 cap0 z0 a1' cap1' l1 W w0 w1).mono fun e W' ⟨he, bel⟩ => ?_
  subst he
  exact ⟨_, rfl, _, _, _, [], _, [], hW', trodAll_mk1 (shut_bool Try.underlying4 _), (trodAll_cons_mk (Below.trod laidOut (by kernel_rfl) (of_decide_eq_true (by kernel_rfl)) k0 bel lt0) (trodAll_cons_mk (Below.trod laidOut (by kernel_rfl) (of_decide_eq_true (by kernel_rfl)) k1 bel lt1) trodAll_mk0)), rfl, bel.frame _, fun h => by cases h⟩

theorem overPartyBound : Rows.partyBoundRow.holds Try.pinned (OpenSpec.ofChange Rows.partyBoundSpec) :=
  OpenClaim.holds_of_wide 3 Try.f3 rfl rfl rfl rfl rfl rfl rfl ⟨rfl, rfl, rfl, rfl, rfl⟩ rfl rfl rfl rfl rfl (by kernel_rfl) Try.func3 (by kernel_rfl)
    (of_decide_eq_true (by kernel_rfl)) (by unfold Func.isWrapper; first | (rw [if_pos (by decide +kernel)]; kernel_rfl) | (rw [if_neg (by decide +kernel)]; exact ⟨rfl, rfl⟩))
    (fun os started H enc _ => liftedPartyBound os started H enc)

/-- The statement. -/
theorem partyBound_holds : Rows.PartyBoundSaid := overPartyBound

#print axioms partyBound_holds
end Go.Proofs.Ythghedlgeceepaa
