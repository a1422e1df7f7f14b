/- slices.Compact of attributes, walked. Its condition: at most 2^20 attributes. -/
import Derived.Test.YtaieopejabpegaaSnDed
namespace Go.Proofs.Ytaieopejabpegaa
open Go.RowKit
set_option maxRecDepth 100000

theorem neq_attr (x y : At) (w : World) : (binOp .neq 24 (.agg #[.int .i64 x.t, .int .i64 x.v]) (.agg #[.int .i64 y.t, .int .i64 y.v])).run Try.prog w = .ok (.bool (decide (x ≠ y))) w := by
  obtain ⟨x0, x1⟩ := x
  obtain ⟨y0, y1⟩ := y
  by_cases h0 : x0 = y0
  · subst h0
    by_cases h1 : x1 = y1
    · subst h1
      go_simp
    · go_simp
  · go_simp
theorem ddT_one {l : List At} (h : l.length < 2) : ddT l l.length = l := by
  match l, h with
  | [], _ => rfl
  | [x], _ => rfl
theorem wrap_in {x : Int} (h0 : 0 ≤ x) (h1 : x < 4611686018427387904) : IntKind.i64.wrap x = x := by
  show (if _ then _ else _) = _
  have : x % 2 ^ 64 = x := Int.emod_eq_of_lt (by omega) (by omega)
  simp only [IntKind.bits, IntKind.signed, this]
  rw [if_neg (by simp; omega)]
set_option maxHeartbeats 8000000 in
theorem acompact_any (A : Option Addr) (c : Nat) (l : List At) (base : Nat) (w : World) (h : OwnA w base A c l) (hn : l.length ≤ 1048576) (hbase : base ≤ w.heap.size) :
    Calls Try.prog 22 #[.slice A l.length c] w fun e w' => ∃ A' c', e = .returned (.slice A' (ddT l l.length).length c') ∧ AtsAt w' w'.heap.size A' (ddT l l.length) ∧ Below base w w' := by
  by_cases h2 : l.length < 2
  · rw [ddT_one h2]
    have HA := Lib.hid h.at_
    obtain ⟨n, hnn⟩ : ∃ n, l.length = n := ⟨_, rfl⟩
    have HN := Lib.hid hnn
    rw [hnn] at h2 ⊢
    have h3 : (n : Int) < 2 := by omega
    clear h hn hnn hbase
    go_enter Try.func22, Try.ntmps22
    go_wp2_with fail
    go_ret
    exact ⟨A, c, rfl, HA.out, Below.refl _ _⟩
  · obtain ⟨g, cap, e, hbg, hlg⟩ := h.form (show 0 < l.length by omega)
    injection e with e1 _ e3
    subst e1 e3
    have hcap := (own_cap h).1
    have HR0 := Lib.hid (show RowC w base g c l from ⟨h⟩)
    obtain ⟨n, hnn⟩ : ∃ n, l.length = n := ⟨_, rfl⟩
    have HN := Lib.hid (And.intro hnn hn)
    rw [hnn] at hcap h2 ⊢
    have HC := Lib.hid (And.intro hcap (And.intro hbg (And.intro hlg h2)))
    have h3 : ¬ (n : Int) < 2 := by omega
    clear h hn hnn hbg hlg hcap
    go_enter Try.func22, Try.ntmps22
    go_wp2_with fail
    clear h2 h3
    go_loopw [3] (fun kv wr => ∃ k : Nat, kv = .int .i64 k ∧ 0 < k ∧ k ≤ n ∧ Hid (ddT l k = l.take k ∧ RowC wr base g c l ∧ Touch (· = g) w wr)) (fun kv _ => n - (intOf kv).toNat)
    case atStart => exact ⟨1, rfl, by omega, by have := HC.out.2.2.2; omega, Lib.hid ⟨by rw [dd_take (k := 0) (by rw [HN.out.1]; have := HC.out.2.2.2; omega) rfl (.inl rfl)], HR0.out, Touch.refl _ _⟩⟩
    case round =>
      obtain ⟨k, rfl, hk0, hk, HS⟩ := hrel
      by_cases hlt : k < n
      · have k1 : (k : Int) < n := by omega
        have k0 : (0 : Int) ≤ k := by omega
        obtain ⟨k', hk'⟩ : ∃ k', k - 1 = k' := ⟨_, rfl⟩
        have kw : wrap64 ((k : Int) - 1) = (k' : Int) := (IntWalk.wrap64_in _ (by have := HN.out; omega)).trans (by omega)
        have kw2 : IntKind.i64.wrap ((k : Int) - 1) = (k' : Int) := by rw [show (k : Int) - 1 = k' by omega]; exact wrap_in (by omega) (by have := HN.out; omega)
        have k2 : (0 : Int) ≤ k' := by omega
        have k3 : (k' : Int) < n := by omega
        have HJ := Lib.hid (show wrap64 ((k : Int) + 1) = (k : Int) + 1 from IntWalk.wrap64_in _ (by have := HN.out; omega))
        obtain ⟨p0, p1⟩ := HS.out.2.1.cell k (by rw [HN.out.1]; exact hlt)
        obtain ⟨p2, p3⟩ := HS.out.2.1.cell k' (by rw [HN.out.1]; omega)
        obtain ⟨x, hx⟩ : ∃ x, l.getD k at0 = x := ⟨_, rfl⟩
        obtain ⟨y, hy⟩ : ∃ y, l.getD k' at0 = y := ⟨_, rfl⟩
        rw [hx] at p0 p1
        rw [hy] at p2 p3
        obtain ⟨eq, heq⟩ : ∃ eq, decide (x = y) = eq := ⟨_, rfl⟩
        have HEQ : ∀ w, (binOp .eql 24 (.agg #[.int .i64 x.t, .int .i64 x.v]) (.agg #[.int .i64 y.t, .int .i64 y.v])).run Try.prog w = .ok (.bool eq) w := fun w => by rw [← heq]; exact eql_attr x y w
        have HK := Lib.hid (And.intro hlt (And.intro hk0 (And.intro hk' (And.intro hx (And.intro hy heq)))))
        clear hlt hk0 hk hk' hx hy heq
        cases eq with
        | false =>
          have HD := Lib.hid (show ddT l (k + 1) = l.take (k + 1) from dd_take (by rw [HN.out.1]; exact HK.out.1) HS.out.1 (.inr (by rw [HK.out.2.2.1, HK.out.2.2.2.1, HK.out.2.2.2.2.1]; exact of_decide_eq_false HK.out.2.2.2.2.2)))
          go_wp2_with fail
          go_quiet (fail)
          go_wp2_with fail
          go_roundw
          case rel =>
            rw [HJ.out]
            exact ⟨k + 1, by rw [Int.natCast_add]; rfl, by omega, HK.out.1, Lib.hid ⟨HD.out, HS.out.2.1.drewN nq, HS.out.2.2.drewN nq⟩⟩
          case measure =>
            rw [HJ.out]
            show n - ((k : Int) + 1).toNat < n - ((k : Int)).toNat
            have := HK.out.1
            omega
        | true =>
          have HD := Lib.hid (show Cp l l k (k + 1) from Cp.start (by rw [HN.out.1]; exact HK.out.1) HK.out.2.1 HS.out.1 (by rw [HK.out.2.2.1, HK.out.2.2.2.1, HK.out.2.2.2.2.1]; exact of_decide_eq_true HK.out.2.2.2.2.2))
          have c1 : (k : Int) ≤ n := by omega
          have c2 : (n : Int) ≤ c := by have := HC.out.1; omega
          have c3 : (k : Int) ≤ c := by omega
          have c4 : ¬ (c = k) := by have := HC.out.1; omega
          have c5 : k ≤ n := by omega
          have c6 : n ≤ c := HC.out.1
          go_wp2_with fail
          go_quiet (fail)
          go_wp2_with fail
          go_loopw [3, 5] (fun kv qv wx => ∃ k2 q : Nat, kv = .int .i64 k2 ∧ qv = .int .i64 q ∧ 0 < q ∧ q ≤ n - k ∧ Hid (∃ L, Cp l L k2 (k + q) ∧ RowC wx base g c L ∧ Touch (· = g) w wx)) (fun _ qv _ => n - (intOf qv).toNat)
          case atStart => exact ⟨k, 1, rfl, rfl, by omega, by have := HK.out.1; omega, Lib.hid ⟨l, HD.out, HS.out.2.1.drewN nq, HS.out.2.2.drewN nq⟩⟩
          case round =>
            obtain ⟨j, q, rfl, rfl, hq0, hq, hL⟩ := hrel
            obtain ⟨L, hcp, hrw, ht⟩ := hL.out
            have HST := Lib.hid (And.intro hcp (And.intro hrw ht))
            have hLl : L.length = n := hcp.len.trans HN.out.1
            have HLL := Lib.hid hLl
            clear hL
            by_cases hlt : q < n - k
            · have q1 : (q : Int) < (n - k : Nat) := by omega
              have q1' : (q : Int) < (n : Int) - k := by omega
              have q0 : (0 : Int) ≤ q := by omega
              obtain ⟨q', hq'⟩ : ∃ q', q - 1 = q' := ⟨_, rfl⟩
              have qw : wrap64 ((q : Int) - 1) = (q' : Int) := (IntWalk.wrap64_in _ (by have := HN.out; omega)).trans (by omega)
              have qw2 : IntKind.i64.wrap ((q : Int) - 1) = (q' : Int) := by rw [show (q : Int) - 1 = q' by omega]; exact wrap_in (by omega) (by have := HN.out; omega)
              have q2 : (0 : Int) ≤ q' := by omega
              have q3 : (q' : Int) < (n - k : Nat) := by omega
              have q3' : (q' : Int) < (n : Int) - k := by omega
              have HJ := Lib.hid (show wrap64 ((q : Int) + 1) = (q : Int) + 1 from IntWalk.wrap64_in _ (by have := HN.out; omega))
              have HJ2 := Lib.hid (show wrap64 ((j : Int) + 1) = (j : Int) + 1 from IntWalk.wrap64_in _ (by have := HN.out; have := hcp.kp; omega))
              obtain ⟨p0, p1⟩ := hrw.cell (k + q) (by omega)
              obtain ⟨p2, p3⟩ := hrw.cell (k + q') (by omega)
              obtain ⟨f0, f1⟩ := hrw.cell j (by have := hcp.kp; omega)
              have g0 : wr.frozen? ⟨g, j * 2, none⟩ = false := hrw.own.frozenAt _
              have g1 : wr.frozen? ⟨g, j * 2 + 1, none⟩ = false := hrw.own.frozenAt _
              rw [show (k + q) * 2 = k * 2 + q * 2 by omega] at p0 p1
              rw [show (k + q') * 2 = k * 2 + q' * 2 by omega] at p2 p3
              rw [hcp.rest (k + q) (by omega)] at p0 p1
              rw [hcp.rest (k + q') (by omega)] at p2 p3
              obtain ⟨x, hx⟩ : ∃ x, l.getD (k + q) at0 = x := ⟨_, rfl⟩
              obtain ⟨y, hy⟩ : ∃ y, l.getD (k + q') at0 = y := ⟨_, rfl⟩
              obtain ⟨z, hz⟩ : ∃ z, L.getD j at0 = z := ⟨_, rfl⟩
              rw [hx] at p0 p1
              rw [hy] at p2 p3
              rw [hz] at f0 f1
              obtain ⟨ne, hne⟩ : ∃ ne, decide (x ≠ y) = ne := ⟨_, rfl⟩
              have HNE : ∀ w, (binOp .neq 24 (.agg #[.int .i64 x.t, .int .i64 x.v]) (.agg #[.int .i64 y.t, .int .i64 y.v])).run Try.prog w = .ok (.bool ne) w := fun w => by rw [← hne]; exact neq_attr x y w
              have HQ := Lib.hid (And.intro hlt (And.intro hq0 (And.intro hq' (And.intro hx (And.intro hy hne)))))
              have HXY := Lib.hid (show ne = decide (l.getD (k + q) at0 ≠ l.getD (k + q - 1) at0) from by rw [show k + q - 1 = k + q' by omega, hx, hy]; exact hne.symm)
              have j0 : (0 : Int) ≤ j := by omega
              have j1 : (j : Int) < n := by have := hcp.kp; omega
              clear hlt hq0 hq hq' hx hy hne hz hcp hrw ht hLl
              cases ne with
              | false =>
                have HD2 := Lib.hid (show Cp l L j (k + (q + 1)) from HST.out.1.old (by rw [HN.out.1]; have := HQ.out.1; omega) (Classical.byContradiction (of_decide_eq_false HXY.out.symm)))
                go_wp2_with fail
                go_quiet (fail)
                go_wp2_with fail
                go_roundw
                case rel =>
                  rw [HJ.out]
                  exact ⟨j, q + 1, rfl, by rw [Int.natCast_add]; rfl, by omega, HQ.out.1, Lib.hid ⟨L, HD2.out, HST.out.2.1.drewN nq, HST.out.2.2.drewN nq⟩⟩
                case measure =>
                  rw [HJ.out]
                  show n - ((q : Int) + 1).toNat < n - ((q : Int)).toNat
                  have := HQ.out.1
                  omega
              | true =>
                have HD2 := Lib.hid (show Cp l (L.set j x) (j + 1) (k + (q + 1)) from by
                  have h := HST.out.1.new (by rw [HN.out.1]; have := HQ.out.1; omega) (of_decide_eq_true HXY.out.symm)
                  rw [HQ.out.2.2.2.1] at h
                  exact h)
                have HSE := Lib.hid (fun (qq : Nat) => (HST.out.2.1.drewN qq).set_ j x (by rw [HLL.out]; omega))
                go_wp2_with fail
                go_quiet (fail)
                go_wp2_with fail
                go_roundw
                case rel =>
                  rw [HJ.out, HJ2.out]
                  exact ⟨j + 1, q + 1, by rw [Int.natCast_add]; rfl, by rw [Int.natCast_add]; rfl, by omega, HQ.out.1, Lib.hid ⟨_, HD2.out, HSE.out nq, ((HST.out.2.2.drewN nq).set_ (fun _ => rfl) _).set_ (fun _ => rfl) _⟩⟩
                case measure =>
                  rw [HJ.out]
                  show n - ((q : Int) + 1).toNat < n - ((q : Int)).toNat
                  have := HQ.out.1
                  omega
            · obtain rfl : q = n - k := by omega
              rw [show k + (n - k) = n by have := HK.out.1; omega] at hcp
              have hcut := row_cut hrw (show j ≤ L.length by have := hcp.kp; omega) (List.replicate ((n - j) * 2) (.int .i64 0))
              have htop : L.take j = ddT l n := hcp.top
              rw [htop] at hcut
              have hkl := hcp.kl
              have hjn := hcp.kp
              have hsome : ∀ r, r < (n - j) * 2 → (wr.cell? ⟨g, j * 2 + r, none⟩).isSome = true := fun r hr => by
                have h1 : j * 2 + r = (j * 2 + r) / 2 * 2 + (j * 2 + r) % 2 := by omega
                have h2 := hrw.cell ((j * 2 + r) / 2) (by omega)
                have h3 : (j * 2 + r) % 2 = 0 ∨ (j * 2 + r) % 2 = 1 := by omega
                rcases h3 with h3 | h3
                · rw [h1, h3, Nat.add_zero, h2.1]; rfl
                · rw [h1, h3, h2.2]; rfl
              have hcl : ∀ ty, (Builtin.clear_ #[33] ty #[.slice (some ⟨g, j * 2, none⟩) (n - j) (c - j)]).run Try.prog wr = .ok (.tuple #[]) (wr.setCells g (j * 2) (List.replicate ((n - j) * 2) (.int .i64 0))) := fun ty =>
                run_clear_ats wr ty g (j * 2) (n - j) (c - j) (by omega) hsome (fun r hr => hrw.own.frozenAt (j * 2 + r))
              have HEND := Lib.hid (And.intro hcut (ht.trans (setCells_touch g (List.replicate ((n - j) * 2) (.int .i64 0)) (j * 2) wr)))
              have HKL := Lib.hid hkl
              have b1 : ¬ (c = j) := by have := HC.out.1; omega
              have b2 : (0 : Int) ≤ j := by omega
              have b3 : (j : Int) ≤ n := by omega
              have b4 : (j : Int) ≤ c := by have := HC.out.1; omega
              have b5 : j ≤ c := by have := HC.out.1; omega
              have e9 : ¬ (n - k : Nat) < (n - k : Nat) := by omega
              clear hcp hrw ht hLl hcut htop hkl hjn hsome hlt hq hq0
              go_wp2_with (simp only [hcl])
              go_ret
              exact ⟨some ⟨g, 0, none⟩, c, by rw [HKL.out]; rfl, HEND.out.1.at_, HEND.out.2.below hbase (fun q hq => by rw [hq]; exact HC.out.2.1)⟩
      · obtain rfl : n = k := by omega
        clear hlt hk hk0
        have HE := Lib.hid (show ddT l n = l from by rw [HS.out.1, List.take_of_length_le (by rw [HN.out.1]; exact Nat.le_refl _)])
        have HN1 := Lib.hid HN.out.1
        go_wp2_with fail
        go_ret
        exact ⟨some ⟨g, 0, none⟩, c, by rw [HE.out, HN1.out]; rfl, by rw [HE.out]; exact HS.out.2.1.own.at_, HS.out.2.2.below hbase (fun q hq => by rw [hq]; exact HC.out.2.1)⟩
end Go.Proofs.Ytaieopejabpegaa
