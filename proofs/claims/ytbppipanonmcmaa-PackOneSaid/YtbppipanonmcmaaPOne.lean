/- PackOne: lists of one length that are unlike have unlike bytes; the bytes of a list whose length is a whole number of bytes, and of another one behind it, are those of both. No condition. -/
import Derived.Test.YtbppipanonmcmaaPkAlive
import Derived.Laws.AppendOwn
import Derived.Laws.OwnMore
namespace Go.Proofs.Ytbppipanonmcmaa
open Go.ChangeShapes Go.WideShapes Go.ChangeAt Go.RowKit
open Go.ChangeMaps (open_string shut_string)

def intsV (f : Nat → Int) (n : Nat) : List Value := (List.range n).map fun k => Value.int .i64 (f k)
theorem intsV_at (f : Nat → Int) (n k : Nat) (h : k < n) : (intsV f n)[k]? = some (.int .i64 (f k)) := by simp [intsV, h]
theorem intsV_length (f : Nat → Int) (n : Nat) : (intsV f n).length = n := by simp [intsV]

theorem owned_slice {w : World} {base : Nat} {e : TypeId} {size n : Nat} {v : Value} {xs : List Value} (h : w.ownsRow base e size v n xs) : ∃ a c, v = .slice a n c := by
  rcases h.2 with ⟨rfl, rfl⟩ | ⟨g, cap, cur, rfl, _⟩
  · exact ⟨_, _, rfl⟩
  · exact ⟨_, _, rfl⟩
/-- 'append(v, a...)', a a slice of numbers wherever it came from. -/
theorem append_nums (w : World) (base B : Nat) (v : Value) (n : Nat) (xs : List Value) (A : Option Addr) (m c : Nat) (f : Nat → Int) (hown : w.ownsRow base 3 1 v n xs) (hA : Nums w B A m f)
    (hc : A = none → c = 0) (hn : n + m ≤ 1048576) (hb : base ≤ w.heap.size) :
    ∃ a' c' w', (Builtin.append_ #[22, 22] 22 #[v, .slice A m c]).run Try.prog w = .ok (.slice a' (n + m) c') w' ∧ w'.ownsRow base 3 1 (.slice a' (n + m) c') (n + m) (xs ++ intsV f m) ∧ w.grownBy w' v.ownBlock := by
  obtain ⟨i0, hi0, hz0, hz1, hz2⟩ := info_parts int_info
  cases A with
  | none =>
    have hm : m = 0 := by
      rcases Nat.eq_zero_or_pos m with h | h
      · exact h
      · obtain ⟨_, _, e, _⟩ := hA 0 h
        cases e
    subst hm
    obtain rfl := hc rfl
    obtain ⟨a', c', rfl⟩ := owned_slice hown
    refine ⟨a', c', w, run_append_owned_none (P := Try.prog) w base 22 22 3 i0 1 Try.underlying22 hi0 _ n xs hown, ?_, ?_⟩
    · simpa [intsV] using hown
    · exact ⟨rfl, rfl, rfl, Nat.le_refl _, fun _ _ _ => rfl⟩
  | some ad =>
    have hcell : ∀ j u, (intsV f m)[j]? = some u → w.cell? (ad.add j) = some u := by
      intro j u hu
      have hj : j < m := by
        have := (List.getElem?_eq_some_iff.1 hu).1
        rwa [intsV_length] at this
      rw [intsV_at f m j hj] at hu
      obtain ⟨b, off, e, _, hcl⟩ := hA j hj
      injection e with e
      subst e
      rw [Addr.add_lit, hcl]
      exact hu
    obtain ⟨v', w', hr, ho, hg, _⟩ := run_append_own (P := Try.prog) w base 22 22 3 i0 (.int .i64 0) 1 8 Try.underlying22 hi0 hz0 hz1 hz2 rfl (by decide) v n xs hown ad m c (intsV f m) (by rw [intsV_length, Nat.mul_one]) hcell
      (fun u hu => by simp only [intsV, List.mem_map] at hu; obtain ⟨k, _, rfl⟩ := hu; rfl) (by unfold maxLen; omega) (by omega) hb
    obtain ⟨a', c', rfl⟩ := owned_slice ho
    exact ⟨a', c', w', hr, ho, hg⟩
/-- An append whose run is known. -/
theorem wpList_append_run {P : Program} {ops : Array Oper} {rest : List Oper} {o : Oper} {a : Act} {Q : Exit → Act → World → Prop} (w : World) (hgd : o.guard = none) (sl x : Operand) (t ty : TypeId)
    (ho : o.op = .call { callee := .builtin .append, args := #[sl, x], argTypes := #[t, t] }) (hty : o.type = ty) (v s v' : Value) (w' : World) (hs : a.eval sl = v) (hx : a.eval x = s)
    (hr : (Builtin.append_ #[t, t] ty #[v, s]).run P w = .ok v' w') (h : wpList P ops Q rest (a.put o.dst v') w') : wpList P ops Q (o :: rest) a w := by
  refine wpList_plain hgd fun K hK => ?_
  subst hty
  unfold Oper.wp execOp
  simp only [ho, resolve, invoke, builtin, Sem.run_bind, Sem.run_pure, Result.andThen_ok, List.map_toArray, List.map_cons, List.map_nil, hs, hx, hr]
  exact hK _ _ h
/-- One list behind another. -/
def cat (n : Nat) (f g : Nat → Int) (k : Nat) : Int := if k < n then f k else g (k - n)
theorem nums_cat {w : World} {base : Nat} {a : Option Addr} {n m c : Nat} {f g : Nat → Int} (h : w.ownsRow base 3 1 (.slice a (n + m) c) (n + m) ([] ++ intsV f n ++ intsV g m)) : Nums w w.heap.size a (n + m) (cat n f g) := by
  intro k hk
  rcases h.2 with ⟨_, h0⟩ | ⟨b, cap, cur, hv, _⟩
  · omega
  · injection hv with ha
    subst ha
    have hl : b < w.heap.size := (h.lt b rfl).2
    refine ⟨b, 0, rfl, hl, ?_⟩
    have hx : ([] ++ intsV f n ++ intsV g m)[k]? = some (.int .i64 (cat n f g k)) := by
      rw [List.nil_append]
      unfold cat
      by_cases hkn : k < n
      · rw [List.getElem?_append_left (by rw [intsV_length]; exact hkn), intsV_at f n k hkn, if_pos hkn]
      · rw [List.getElem?_append_right (by rw [intsV_length]; omega), intsV_length, intsV_at g m (k - n) (by omega), if_neg hkn]
    have := h.cells (g := b) rfl k _ hx
    rwa [Addr.add_lit] at this
theorem row_none {k : IntKind} {w : World} {a : Option Addr} {len cap : Nat} {zs : List Int} (h : IsRow k w a len cap zs) : a = none → cap = 0 := by
  intro e
  rcases h with ⟨_, _, h0, _⟩ | ⟨x, hx, _⟩
  · exact h0
  · rw [e] at hx; cases hx
set_option maxHeartbeats 8000000 in
set_option maxRecDepth 100000 in
theorem walkPackOne (a0 : Option Addr) (len0 cap0 : Nat) (z0 : List Int) (a1 : Option Addr) (len1 cap1 : Nat) (z1 : List Int) (w : World) (h0 : IsRow .i64 w a0 len0 cap0 z0) (h1 : IsRow .i64 w a1 len1 cap1 z1) :
    Calls Try.prog 6 #[.slice a0 len0 cap0, .slice a1 len1 cap1] w fun e w' => e = .returned (.bool true) ∧ Below w.heap.size w w' := by
  by_cases g0 : len0 ≤ 300
  · have d0 : decide ((300 : Int) < (len0 : Int)) = false := by simp; omega
    by_cases g1 : len1 ≤ 300
    · have d1 : decide ((300 : Int) < (len1 : Int)) = false := by simp; omega
      obtain ⟨f, hA⟩ : ∃ f, Nums w w.heap.size a0 len0 f := ⟨_, Nums.of_row h0⟩
      obtain ⟨g, hB⟩ : ∃ g, Nums w w.heap.size a1 len1 g := ⟨_, Nums.of_row h1⟩
      obtain ⟨p, hp, hgood, hbad⟩ := first_bad 6 f len0
      obtain ⟨q, hq, hgood', hbad'⟩ := first_bad 6 g len1
      obtain ⟨hx, hK⟩ := nat_kinds hgood
      obtain ⟨hx', hK'⟩ := nat_kinds hgood'
      have hA1 : ∀ w1, Below w.heap.size w w1 → Nums w1 w1.heap.size a0 len0 f := fun w1 hb => (hA.below hb).more hb.size
      have hB1 : ∀ w1, Below w.heap.size w w1 → Nums w1 w1.heap.size a1 len1 g := fun w1 hb => (hB.below hb).more hb.size
      have HA := Lib.hid hA1
      have HB := Lib.hid hB1
      have HN0 := Lib.hid (row_none h0)
      have HN1 := Lib.hid (row_none h1)
      have c1 := fun w1 hb => threes_any a0 len0 cap0 f (nat f) p w1 (by omega) (hA1 w1 hb) hp hx hK hbad
      have c2 := fun w1 hb => threes_any a1 len1 cap1 g (nat g) q w1 (by omega) (hB1 w1 hb) hq hx' hK' hbad'
      have C1 := Lib.hid c1
      have C2 := Lib.hid c2
      have HX := Lib.hid hx
      have HX' := Lib.hid hx'
      have HK := Lib.hid hK
      have HK' := Lib.hid hK'
      have HG := Lib.hid hgood
      have HG' := Lib.hid hgood'
      clear c1 c2 hA1 hB1 hA hB hgood hgood' hbad hbad' hx hx' hK hK' h0 h1
      go_enter Try.func6, Try.ntmps6
      go_wp2_with fail
      refine (alive_any _).mono ?_
      rintro e w1 ⟨rfl, b1⟩
      go_wp2_with fail
      refine (C1.out _ b1).mono ?_
      rintro e w2 ⟨hE, b2⟩
      have b2' := b1.trans (b2.mono b1.size)
      rcases hE with ⟨hpn, rfl⟩ | ⟨hpn, rfl⟩
      · subst hpn
        generalize hS : str (rows 3 6 (nat f) p (sz p 3)) = S
        have hSs : S.size ≤ 300 := by rw [← hS, str_size, rows_length]; have := sz_le p 3 6 (by unfold LK; decide); omega
        have HS := Lib.hid hS
        clear b1 b2 hS
        go_wp2_with fail
        refine (C2.out _ b2').mono ?_
        rintro e w3 ⟨hE, b3⟩
        have b3' := b2'.trans (b3.mono b2'.size)
        rcases hE with ⟨hqn, rfl⟩ | ⟨hqn, rfl⟩
        · subst hqn
          generalize hT : str (rows 3 6 (nat g) q (sz q 3)) = T
          have hTs : T.size ≤ 300 := by rw [← hT, str_size, rows_length]; have := sz_le q 3 6 (by unfold LK; decide); omega
          have HT := Lib.hid hT
          clear b2' b3 hT
          by_cases hpq : p = q
          · subst hpq
            have e0 : (p == p) = true := by simp
            have hsb := same_bytes 3 6 (by unfold LK; decide) p f g HX.out HX'.out HK.out HK'.out
            rw [HS.out, HT.out] at hsb
            have hcs := fun B w1 hn hA hC => same_any a0 a1 p p cap0 cap1 f g B w1 hn hA hC
            cases hsm : sameB p p f g
            all_goals
              rw [hsm] at hsb hcs
              have HCS := Lib.hid hcs
              clear hcs hsm
              go_wp2_with fail
              refine (HCS.out _ _ (by omega) (HA.out _ b3') (HB.out _ b3')).mono ?_
              rintro e w4 ⟨rfl, r4, rfl⟩
              have bW := bel_drewN b3' r4
              clear b3' hsb HCS
              generalize hW : w3.drewN r4 = W at *
              clear hW
              have ho0 := World.ownsRow_lit (base := w.heap.size) (e := 3) (size := 1) W #[] 0 bW.size (by unfold maxLen; omega) rfl
              have bW1 := bW.alloc bW.size (.cells #[] 3)
              obtain ⟨u1, k1, W1, r1, o1, gr1⟩ := append_nums _ w.heap.size _ _ 0 [] a0 p cap0 f ho0 (HA.out _ bW1) HN0.out (by omega) bW1.size
              have bW2 : Below w.heap.size w W1 := bW1.grown gr1 bW1.size (fun j hj => (ho0.lt j hj).1)
              rw [Nat.zero_add] at r1 o1
              obtain ⟨u2, k2, W2, r2, o2, gr2⟩ := append_nums _ w.heap.size _ _ p _ a1 p cap1 g o1 (HB.out _ bW2) HN1.out (by omega) bW2.size
              have bW3 : Below w.heap.size w W2 := bW2.grown gr2 bW2.size (fun j hj => (o1.lt j hj).1)
              have hN := nums_cat o2
              have hx3 : ∀ k, k < p + p → cat p f g k = (nat (cat p f g) k : Int) ∧ nat (cat p f g) k < 6 := by
                intro k hk
                unfold nat cat
                split
                · have := HG.out k (by omega); omega
                · have := HG'.out (k - p) (by omega); omega
              have hcall := threes_any u2 (p + p) k2 _ (nat (cat p f g)) (p + p) W2 (by omega) hN (Nat.le_refl _) (fun k hk => (hx3 k hk).1) (fun k hk => (hx3 k hk).2) (fun h => absurd h (Nat.lt_irrefl _))
              have hZ : p % 3 = 0 → str (rows 3 6 (nat (cat p f g)) (p + p) (sz (p + p) 3)) = S ++ T := by
                intro h3
                rw [rows_append 3 6 (nat f) (nat g) (nat (cat p f g)) p p (by unfold LK; decide) h3 (fun k hk => by unfold nat cat; rw [if_pos hk]) (fun k hk => by
                  unfold nat cat; rw [if_neg (by omega), Nat.add_sub_cancel_left]), ← str_append, HS.out, HT.out]
              have HC := Lib.hid hcall
              have HZ := Lib.hid hZ
              have R1 := Lib.hid r1
              have R2 := Lib.hid r2
              clear r1 r2 hcall hZ hx3 hN o1 o2 gr1 gr2 ho0 bW bW1 bW2
              by_cases h3 : p % 3 = 0
              · have d3 : ((p : Int) % 3 != 0) = false := by simp; omega
                have HZ3 := Lib.hid (HZ.out h3)
                clear HZ h3
                go_wp2_with (at_builtin; first | refine wpList_append_run _ rfl (.tmp 52) (.tmp 53) 22 22 rfl rfl _ _ _ _ rfl rfl R1.out ?_ | refine wpList_append_run _ rfl (.tmp 54) (.tmp 55) 22 22 rfl rfl _ _ _ _ rfl rfl R2.out ?_)
                refine HC.out.mono ?_
                rintro e w5 ⟨hE, b5⟩
                rcases hE with ⟨_, rfl⟩ | ⟨hh, _⟩
                · rw [HZ3.out]
                  have b6 := bW3.trans (b5.mono bW3.size)
                  clear b5 bW3
                  go_wp2_with fail
                  go_ret
                  exact ⟨rfl, b6⟩
                · exact absurd hh (Nat.lt_irrefl _)
              · have d3 : ((p : Int) % 3 != 0) = true := by simp; omega
                clear HZ h3
                go_wp2_with (at_builtin; first | refine wpList_append_run _ rfl (.tmp 52) (.tmp 53) 22 22 rfl rfl _ _ _ _ rfl rfl R1.out ?_ | refine wpList_append_run _ rfl (.tmp 54) (.tmp 55) 22 22 rfl rfl _ _ _ _ rfl rfl R2.out ?_)
                refine HC.out.mono ?_
                rintro e w5 ⟨hE, b5⟩
                rcases hE with ⟨_, rfl⟩ | ⟨hh, _⟩
                · generalize str (rows 3 6 (nat (cat p f g)) (p + p) (sz (p + p) 3)) = Z
                  have b6 := bW3.trans (b5.mono bW3.size)
                  clear b5 bW3
                  go_wp2_with fail
                  go_ret
                  exact ⟨rfl, b6⟩
                · exact absurd hh (Nat.lt_irrefl _)
          · have e0 : ((p : Int) == (q : Int)) = false := by simp; omega
            have bW := b3'
            generalize hW : w3 = W at *
            clear hW
            have ho0 := World.ownsRow_lit (base := w.heap.size) (e := 3) (size := 1) W #[] 0 bW.size (by unfold maxLen; omega) rfl
            have bW1 := bW.alloc bW.size (.cells #[] 3)
            obtain ⟨u1, k1, W1, r1, o1, gr1⟩ := append_nums _ w.heap.size _ _ 0 [] a0 p cap0 f ho0 (HA.out _ bW1) HN0.out (by omega) bW1.size
            have bW2 : Below w.heap.size w W1 := bW1.grown gr1 bW1.size (fun j hj => (ho0.lt j hj).1)
            rw [Nat.zero_add] at r1 o1
            obtain ⟨u2, k2, W2, r2, o2, gr2⟩ := append_nums _ w.heap.size _ _ p _ a1 q cap1 g o1 (HB.out _ bW2) HN1.out (by omega) bW2.size
            have bW3 : Below w.heap.size w W2 := bW2.grown gr2 bW2.size (fun j hj => (o1.lt j hj).1)
            have hN := nums_cat o2
            have hx3 : ∀ k, k < p + q → cat p f g k = (nat (cat p f g) k : Int) ∧ nat (cat p f g) k < 6 := by
              intro k hk
              unfold nat cat
              split
              · have := HG.out k (by omega); omega
              · have := HG'.out (k - p) (by omega); omega
            have hcall := threes_any u2 (p + q) k2 _ (nat (cat p f g)) (p + q) W2 (by omega) hN (Nat.le_refl _) (fun k hk => (hx3 k hk).1) (fun k hk => (hx3 k hk).2) (fun h => absurd h (Nat.lt_irrefl _))
            have hZ : p % 3 = 0 → str (rows 3 6 (nat (cat p f g)) (p + q) (sz (p + q) 3)) = S ++ T := by
              intro h3
              rw [rows_append 3 6 (nat f) (nat g) (nat (cat p f g)) p q (by unfold LK; decide) h3 (fun k hk => by unfold nat cat; rw [if_pos hk]) (fun k hk => by
                unfold nat cat; rw [if_neg (by omega), Nat.add_sub_cancel_left]), ← str_append, HS.out, HT.out]
            have HC := Lib.hid hcall
            have HZ := Lib.hid hZ
            have R1 := Lib.hid r1
            have R2 := Lib.hid r2
            clear r1 r2 hcall hZ hx3 hN o1 o2 gr1 gr2 ho0 bW bW1 bW2
            by_cases h3 : p % 3 = 0
            · have d3 : ((p : Int) % 3 != 0) = false := by simp; omega
              have HZ3 := Lib.hid (HZ.out h3)
              clear HZ h3
              go_wp2_with (at_builtin; first | refine wpList_append_run _ rfl (.tmp 52) (.tmp 53) 22 22 rfl rfl _ _ _ _ rfl rfl R1.out ?_ | refine wpList_append_run _ rfl (.tmp 54) (.tmp 55) 22 22 rfl rfl _ _ _ _ rfl rfl R2.out ?_)
              refine HC.out.mono ?_
              rintro e w5 ⟨hE, b5⟩
              rcases hE with ⟨_, rfl⟩ | ⟨hh, _⟩
              · rw [HZ3.out]
                have b6 := bW3.trans (b5.mono bW3.size)
                clear b5 bW3
                go_wp2_with fail
                go_ret
                exact ⟨rfl, b6⟩
              · exact absurd hh (Nat.lt_irrefl _)
            · have d3 : ((p : Int) % 3 != 0) = true := by simp; omega
              clear HZ h3
              go_wp2_with (at_builtin; first | refine wpList_append_run _ rfl (.tmp 52) (.tmp 53) 22 22 rfl rfl _ _ _ _ rfl rfl R1.out ?_ | refine wpList_append_run _ rfl (.tmp 54) (.tmp 55) 22 22 rfl rfl _ _ _ _ rfl rfl R2.out ?_)
              refine HC.out.mono ?_
              rintro e w5 ⟨hE, b5⟩
              rcases hE with ⟨_, rfl⟩ | ⟨hh, _⟩
              · generalize str (rows 3 6 (nat (cat p f g)) (p + q) (sz (p + q) 3)) = Z
                have b6 := bW3.trans (b5.mono bW3.size)
                clear b5 bW3
                go_wp2_with fail
                go_ret
                exact ⟨rfl, b6⟩
              · exact absurd hh (Nat.lt_irrefl _)
        · clear b2' b3
          go_wp2_with fail
          go_ret
          exact ⟨rfl, b3'⟩
      · clear b1 b2
        go_wp2_with fail
        refine (C2.out _ b2').mono ?_
        rintro e w3 ⟨hE, b3⟩
        have b3' := b2'.trans (b3.mono b2'.size)
        clear b2' b3
        rcases hE with ⟨hqn, rfl⟩ | ⟨hqn, rfl⟩
        · have HQ := Lib.hid hqn
          clear hqn
          go_wp2_with fail
          go_ret
          exact ⟨rfl, b3'⟩
        · go_wp2_with fail
          go_ret
          exact ⟨rfl, b3'⟩
    · have d1 : decide ((300 : Int) < (len1 : Int)) = true := by simp; omega
      go_enter Try.func6, Try.ntmps6
      go_wp2_with fail
      refine (alive_any _).mono ?_
      rintro e w1 ⟨rfl, b1⟩
      go_wp2_with fail
      go_ret
      exact ⟨rfl, b1⟩
  · have d0 : decide ((300 : Int) < (len0 : Int)) = true := by simp; omega
    go_enter Try.func6, Try.ntmps6
    go_wp2_with fail
    refine (alive_any _).mono ?_
    rintro e w1 ⟨rfl, b1⟩
    go_wp2_with fail
    go_ret
    exact ⟨rfl, b1⟩
set_option maxRecDepth 100000 in
theorem liftedPackOne (os : Os) (started : os.Started) (H : Type) (enc : TypeId × Value → H) :
    ReturnsInHanded {} Try.checked os 6 .any (Rows.packOneSpec.pre6 enc Try.prog Try.f6 Rows.packOneRow.domain false) (Rows.packOneSpec.post enc Try.prog Try.f6 false true false false) := by
  refine returnsInHanded_of_change (C := Try.checked) own started (by kernel_rfl) Try.func6
    (ChangeSpec.witness6 (enc := enc) (C := Try.checked) false ⟨#[], #[.slice none 0 0, .slice none 0 0], []⟩ 8 (by kernel_rfl) (by kernel_rfl) (by kernel_rfl) (by kernel_rfl)) ?_
  intro W base args ds gs before hval0 hW hcnd _
  have hval : ∀ (j : Nat) t v, Try.f6.params[j]? = some t → args[j]? = some v → Value.okWide Try.prog W .any base t v := hval0
  have hW' := hW
  obtain ⟨p, q, hA0, hV, rfl, hfz, hnd⟩ := hW
  have hA : DataW.TrodAll enc Try.prog W 0 (fun _ => true) true Try.f6.params.toList args.toList ds p := hA0
  rw [Try.params6] at hA hval
  obtain ⟨v0, vs0, d0, ds0, p0, q0, hargs, rfl, rfl, h0, r0⟩ := trodAll_cons hA
  obtain ⟨v1, vs1, d1, ds1, p1, q1, rfl, rfl, rfl, h1, r1⟩ := trodAll_cons r0
  obtain ⟨rfl, rfl, rfl⟩ := trodAll_nil r1
  obtain rfl : args = #[v0, v1] := by cases args; simp_all
  obtain ⟨rfl, rfl⟩ := trodVars_none hV
  obtain ⟨a0, len0, cap0, rfl⟩ := okWide_slice Try.underlying22 (hval 0 22 v0 rfl rfl)
  have k0 := h0
  have lt0 : ∀ x ∈ p0, x.block < W.heap.size := by obtain ⟨m, hm⟩ := k0; exact DataW.trod_lt m _ _ _ hm
  obtain ⟨z0, w0⟩ : ∃ zs, IsRow .i64 W a0 len0 cap0 zs := by
    obtain ⟨fuel, hf⟩ := h0
    rcases open_ints Try.underlying22 Try.underlying3 (by kernel_rfl) hf with ⟨hcs, _⟩ | ⟨x, l, c, zs, hcs, _, hl, hm, hz, _, hcell, hwz⟩
    · simp [Value.cells] at hcs
      obtain ⟨rfl, rfl, rfl⟩ := hcs
      exact ⟨[], .inl ⟨rfl, rfl, rfl, rfl⟩⟩
    · simp [Value.cells] at hcs
      obtain ⟨rfl, rfl, rfl⟩ := hcs
      exact ⟨zs, .inr ⟨_, rfl, hl, hm, by simpa using hz, cell_lt hcell (by simpa using hz), hcell, hwz⟩⟩
  obtain ⟨a1, len1, cap1, rfl⟩ := okWide_slice Try.underlying22 (hval 1 22 v1 rfl rfl)
  have k1 := h1
  have lt1 : ∀ x ∈ p1, x.block < W.heap.size := by obtain ⟨m, hm⟩ := k1; exact DataW.trod_lt m _ _ _ hm
  obtain ⟨z1, w1⟩ : ∃ zs, IsRow .i64 W a1 len1 cap1 zs := by
    obtain ⟨fuel, hf⟩ := h1
    rcases open_ints Try.underlying22 Try.underlying3 (by kernel_rfl) hf with ⟨hcs, _⟩ | ⟨x, l, c, zs, hcs, _, hl, hm, hz, _, hcell, hwz⟩
    · simp [Value.cells] at hcs
      obtain ⟨rfl, rfl, rfl⟩ := hcs
      exact ⟨[], .inl ⟨rfl, rfl, rfl, rfl⟩⟩
    · simp [Value.cells] at hcs
      obtain ⟨rfl, rfl, rfl⟩ := hcs
      exact ⟨zs, .inr ⟨_, rfl, hl, hm, by simpa using hz, cell_lt hcell (by simpa using hz), hcell, hwz⟩⟩
  clear hA0 hval0
  refine (walkPackOne a0 len0 cap0 z0 a1 len1 cap1 z1 W w0 w1).mono fun e W' ⟨he, bel⟩ => ?_
  subst he
  exact ⟨_, rfl, _, _, _, [], _, [], hW', trodAll_mk1 (shut_bool Try.underlying4 _), (trodAll_cons_mk (Below.trod laidOut (by kernel_rfl) (of_decide_eq_true (by kernel_rfl)) k0 bel lt0) (trodAll_cons_mk (Below.trod laidOut (by kernel_rfl) (of_decide_eq_true (by kernel_rfl)) k1 bel lt1) trodAll_mk0)), rfl, bel.frame _, fun h => by cases h⟩

theorem overPackOne : Rows.packOneRow.holds Try.pinned (OpenSpec.ofChange Rows.packOneSpec) :=
  OpenClaim.holds_of_wide 6 Try.f6 rfl rfl rfl rfl rfl rfl rfl ⟨rfl, rfl, rfl, rfl, rfl⟩ rfl rfl rfl rfl rfl (by kernel_rfl) Try.func6 (by kernel_rfl)
    (of_decide_eq_true (by kernel_rfl)) (by unfold Func.isWrapper; first | (rw [if_pos (by decide +kernel)]; kernel_rfl) | (rw [if_neg (by decide +kernel)]; exact ⟨rfl, rfl⟩))
    (fun os started H enc _ => liftedPackOne os started H enc)

/-- The statement. -/
theorem packOne_holds : Rows.PackOneSaid := overPackOne

#print axioms packOne_holds
end Go.Proofs.Ytbppipanonmcmaa
