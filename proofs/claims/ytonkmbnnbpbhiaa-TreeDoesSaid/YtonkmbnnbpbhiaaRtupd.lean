/- The document's Update: roles anew. Its conditions: up to six ports, fewer than 50000 turns each. -/
import Derived.Test.YtonkmbnnbpbhiaaRtlist
import Derived.Test.YtonkmbnnbpbhiaaTplay
namespace Go.Proofs.Ytonkmbnnbpbhiaa
open Go.RowKit
set_option maxRecDepth 100000

theorem own_docq {w w' : World} {base b c : Nat} {A : Option Addr} {l : List Hd} (h : OwnH 76 w b A c l) (ht : Touch (DocQ base w) w w') : OwnH 76 w' b A c l :=
  own_heap h fun k hk => by
    rcases h.2 with ⟨e, _⟩ | ⟨g, cap, cur, e, _, hg, _⟩
    · rw [e] at hk
      simp [Value.ownBlock] at hk
    · rw [e] at hk
      have hgk : g = k := by simpa [Value.ownBlock] using hk
      subst hgk
      have hb : Blk w g 76 cur := hg
      exact (docq_keep ht hb (by decide)).trans hb.symm
section
variable {w : World} {base d gp go m cap : Nat} {f : Nat → Pt} {op : Nat → Bool} {id ch : Int} {TU : Nat → List (Int × Int)} {AA : Nat → Option Addr} {CC : Nat → Nat}
theorem blk_type {w : World} {k : Nat} {t t' : TypeId} {cs cs' : Array Value} (h : Blk w k t cs) (h' : Blk w k t' cs') : t = t' := by
  unfold Blk at h h'
  rw [h] at h'
  injection h' with e
  injection e with _ e
theorem DocAt.d_ne (h : DocAt w base d gp go cap id m f TU AA CC op ch) : d ≠ gp := fun e => by
  subst e
  obtain ⟨cs, hb, _⟩ := h.ports
  exact absurd (blk_type h.top hb) (by decide)
theorem DocAt.go_ne (h : DocAt w base d gp go cap id m f TU AA CC op ch) : go ≠ gp := fun e => by
  subst e
  obtain ⟨cs, hb, _⟩ := h.ports
  obtain ⟨cs', hb', _⟩ := h.open_
  exact absurd (blk_type hb' hb) (by decide)
theorem DocAt.dgo_ne (h : DocAt w base d gp go cap id m f TU AA CC op ch) : d ≠ go := fun e => by
  subst e
  obtain ⟨cs', hb', _⟩ := h.open_
  exact absurd (blk_type h.top hb') (by decide)
theorem DocAt.own_ne (h : DocAt w base d gp go cap id m f TU AA CC op ch) {i k : Nat} (hi : i < m) (hk : (slT TU AA CC i).ownBlock = some k) : k ≠ gp ∧ k ≠ d ∧ k ≠ go := by
  obtain ⟨cs, hb⟩ := (h.turns i hi).blk hk
  refine ⟨fun e => ?_, fun e => ?_, fun e => ?_⟩ <;> subst e
  · obtain ⟨cs', hb', _⟩ := h.ports
    exact absurd (blk_type hb hb') (by decide)
  · exact absurd (blk_type hb h.top) (by decide)
  · obtain ⟨cs', hb', _⟩ := h.open_
    exact absurd (blk_type hb hb') (by decide)
theorem DocAt.congr (h : DocAt w base d gp go cap id m f TU AA CC op ch) {f' : Nat → Pt} (hf : ∀ i, i < m → f' i = f i) : DocAt w base d gp go cap id m f' TU AA CC op ch where
  top := h.top
  cap := h.cap
  ports := h.ports.congr fun i hi => by rw [hf i hi]
  open_ := h.open_
  turns := h.turns
  apart := h.apart
  lasts i hi := by rw [hf i hi]; exact h.lasts i hi
  bd := h.bd
  bp := h.bp
  bo := h.bo
set_option maxHeartbeats 4000000 in
theorem rupdate_any (h : DocAt w base d gp go cap id m f TU AA CC op ch) (hm : m ≤ 6) (hok : ∀ i, i < m → (hdOf (f i)).ok) (hlen : ∀ i, (TU i).length ≤ 50000) (hbs : base ≤ w.heap.size) (now : Int) :
    Calls Try.prog 46 #[.pointer (some ⟨d, 0, none⟩), .int .i64 now] w fun e w' => e = .returned (.tuple #[]) ∧ (∃ TU' AA' CC', DocAt w' base d gp go cap id m (anewP id m now f) TU' AA' CC' op ch ∧ ∀ i, (TU' i).length ≤ (TU i).length + 1) ∧ Touch (DocQ base w) w w' := by
  have H := Lib.hid h
  have HN := Lib.hid (And.intro hm (And.intro hok (And.intro hlen hbs)))
  have HL := Lib.hid (rlist_any h hm)
  have hcm : (m : Int) ≤ cap := by have := h.cap; omega
  have hcm' : m ≤ cap := h.cap
  have m0 : (0 : Int) ≤ m := by omega
  clear h hm hok hlen hbs
  go_enter Try.func46, Try.ntmps46
  go_wp2_with fail
  refine HL.out.mono ?_
  rintro e w1 ⟨A, c, rfl, ho, b1⟩
  have h1 := H.out.below b1
  have d1 := h1.d1
  have H1 := Lib.hid (And.intro h1 (And.intro ho (show Touch (DocQ base w) w w1 from bel_docq b1)))
  clear h1 ho b1
  go_wp2_with fail
  go_loopw [14] (fun iv wr => ∃ j : Nat, j ≤ m ∧ iv = .int .i64 j ∧ Hid ((∃ TU' AA' CC', DocAt wr base d gp go cap id m (anewTo id m now f j) TU' AA' CC' op ch ∧ ∀ i, (TU' i).length ≤ (TU i).length + 1 ∧ (j ≤ i → (TU' i).length ≤ (TU i).length)) ∧ OwnH 76 wr w.heap.size A c (hds m f) ∧ Touch (DocQ base w) w wr)) (fun iv _ => m - (intOf iv).toNat)
  case atStart => exact ⟨0, Nat.zero_le _, rfl, Lib.hid ⟨⟨TU, AA, CC, by
    have e : anewTo id m now f 0 = f := funext fun i => if_neg (Nat.not_lt_zero i)
    rw [e]
    exact H1.out.1, fun i => ⟨by omega, fun _ => Nat.le_refl _⟩⟩, H1.out.2⟩⟩
  case round =>
    obtain ⟨j, hj, rfl, hS⟩ := hrel
    obtain ⟨⟨TJ, AJ, CJ, hD, hTL⟩, hOw, hTo⟩ := hS.out
    by_cases hlt : j < m
    · have j1 : (j : Int) < m := by omega
      have j0 : (0 : Int) ≤ j := by omega
      have HJ := Lib.hid (show wrap64 ((j : Int) + 1) = (j : Int) + 1 from IntWalk.wrap64_in _ (by have := HN.out.1; omega))
      have d1 := hD.d1
      have d0 := hD.d0
      have hc := hD.ports.cells hlt
      rw [show anewTo id m now f j j = f j from if_neg (Nat.lt_irrefl j)] at hc
      have c0 := hc.c0
      have c10 : wr.cell? ⟨gp, j * 11 + 10, none⟩ = some (.slice (AJ j) (TJ j).length (CJ j)) := hc.c10
      have HP := Lib.hid (fun (W : World) (hW : DocAt W base d gp go cap id m (anewTo id m now f j) TJ AJ CJ op ch) (hs : base ≤ W.heap.size) => doc_push hW hlt (by have := (hTL j).1; have := HN.out.2.2.1 j; omega) hs)
      have HD := Lib.hid (And.intro hD (And.intro hTL (And.intro hOw hTo)))
      have hro := rrole_any A c id (hds m f) j wr (hOw.at_) (fun x hx => by
        unfold hds at hx
        obtain ⟨i, hi, rfl⟩ := List.mem_map.1 hx
        exact HN.out.2.1 i (List.mem_range.1 hi)) (by rw [hds_len]; have := HN.out.1; omega) (by rw [hds_len]; exact hlt)
      rw [hds_len] at hro
      have HRO := Lib.hid hro
      obtain ⟨tl, htl⟩ : ∃ tl, (TJ j).length = tl := ⟨_, rfl⟩
      obtain ⟨aj, haj⟩ : ∃ aj, AJ j = aj := ⟨_, rfl⟩
      obtain ⟨cj, hcj⟩ : ∃ cj, CJ j = cj := ⟨_, rfl⟩
      rw [htl, haj, hcj] at c10
      obtain ⟨u, hu⟩ : ∃ u, (f j).up = u := ⟨_, rfl⟩
      rw [hu] at c0
      have hrp : roleP id m f j = if u = true then roleAt id (hds m f) j else 0 := by unfold roleP; rw [hu]
      clear hc hD hTL hOw hTo hro hj hS
      have HEND := Lib.hid (fun (w2 w3 : World) (a' : Option Addr) (c' : Nat) (b2 : Below wr.heap.size wr w2) (hD3 : DocAt w3 base d gp go cap id m (anewTo id m now f (j + 1)) (updL TJ j (TJ j ++ [(roleP id m f j, now)])) (updA AJ j a') (updC CJ j c') op ch) (hT3 : Touch (DocQ base w2) w2 w3) =>
        show ∃ j', j' = j + 1 ∧ Hid ((∃ TU' AA' CC', DocAt w3 base d gp go cap id m (anewTo id m now f j') TU' AA' CC' op ch ∧ ∀ i, (TU' i).length ≤ (TU i).length + 1 ∧ (j' ≤ i → (TU' i).length ≤ (TU i).length)) ∧ OwnH 76 w3 w.heap.size A c (hds m f) ∧ Touch (DocQ base w) w w3) from
          ⟨j + 1, rfl, Lib.hid ⟨⟨_, _, _, hD3, fun i => by
            have h2 := HD.out.2.1 i
            unfold updL
            by_cases e : i = j
            · subst e
              rw [if_pos rfl]
              simp only [List.length_append, List.length_singleton]
              have := h2.2 (Nat.le_refl _)
              omega
            · rw [if_neg e]
              exact ⟨h2.1, fun hi => h2.2 (by omega)⟩⟩, own_docq HD.out.2.2.1 (docq_trans (bel_docq b2) hT3), docq_trans HD.out.2.2.2 (docq_trans (bel_docq b2) hT3)⟩⟩)
      have hbs : base ≤ wr.heap.size := Nat.le_trans HN.out.2.2.2 HD.out.2.2.2.size
      cases u
      · have hrp : roleP id m f j = 0 := hrp
        have hdl : d < wr.heap.size := HD.out.1.top.lt
        have hgl : gp < wr.heap.size := HD.out.1.ports.lt
        have ca : ∀ o : Obj, (wr.alloc o).cell? ⟨d, 1, none⟩ = some (.slice (some ⟨gp, 0, none⟩) m cap) := fun o => (World.cell?_of_block (Below.heap_alloc wr o d hdl)).trans d1
        have cb : ∀ o : Obj, (wr.alloc o).cell? ⟨gp, j * 11 + 10, none⟩ = some (.slice aj tl cj) := fun o => (World.cell?_of_block (Below.heap_alloc wr o gp hgl)).trans c10
        obtain ⟨a', c', w3, hr, k3, f3, hD3, hT3⟩ := HP.out wr.drew HD.out.1.drew hbs
        have k1 : w3.cell? ⟨d, 1, none⟩ = some (.slice (some ⟨gp, 0, none⟩) m cap) := (World.cell?_of_block (Below.heap_setCell w3 _ _ d HD.out.1.d_ne)).symm.trans hD3.d1
        have HF := Lib.hid (HEND.out wr.drew _ a' c' ⟨rfl, rfl, rfl, Nat.le_refl _, fun _ _ => rfl⟩ hD3 hT3)
        rw [hrp, htl, haj, hcj] at hr
        rw [htl, haj, hcj] at k3
        rw [htl] at HF
        have HR := Lib.hid hr
        clear hr hD3 hT3 hrp hu haj hcj htl hbs hdl hgl
        go_wp2_with fail
        go_region_law ((refine step_append_run rfl (.tmp 44) (.tmp 48) 77 77 rfl _ _ (by simp [Act.eval]) (by simp [Act.eval]) HR.out ?_))
        all_goals
          go_wp2_with fail
          go_roundw
          case rel =>
            rw [HJ.out]
            obtain ⟨_, rfl, hF⟩ := HF.out
            exact ⟨j + 1, hlt, by rw [Int.natCast_add]; rfl, hF⟩
          case measure =>
            rw [HJ.out]
            show m - ((j : Int) + 1).toNat < m - ((j : Int)).toNat
            omega
      · have hrp : roleP id m f j = roleAt id (hds m f) j := hrp
        go_wp2_with fail
        refine HRO.out.mono ?_
        rintro e w2 ⟨rfl, b2⟩
        have hD2 := HD.out.1.below b2
        have d1 := hD2.d1
        have d0 := hD2.d0
        obtain ⟨a', c', w3, hr, k3, f3, hD3, hT3⟩ := HP.out w2.drew hD2.drew (Nat.le_trans hbs b2.size)
        have k1 : w3.cell? ⟨d, 1, none⟩ = some (.slice (some ⟨gp, 0, none⟩) m cap) := (World.cell?_of_block (Below.heap_setCell w3 _ _ d HD.out.1.d_ne)).symm.trans hD3.d1
        have HF := Lib.hid (HEND.out w2.drew _ a' c' ⟨b2.os, b2.tape, b2.output, b2.size, b2.block⟩ hD3 hT3)
        have c10 : w2.cell? ⟨gp, j * 11 + 10, none⟩ = some (.slice (AJ j) (TJ j).length (CJ j)) := (hD2.ports.cells hlt).c10
        rw [hrp, htl, haj, hcj] at hr
        rw [htl, haj, hcj] at k3 c10
        have hdl : d < w2.heap.size := hD2.top.lt
        have hgl : gp < w2.heap.size := hD2.ports.lt
        have ca : ∀ o : Obj, (w2.alloc o).cell? ⟨d, 1, none⟩ = some (.slice (some ⟨gp, 0, none⟩) m cap) := fun o => (World.cell?_of_block (Below.heap_alloc w2 o d hdl)).trans d1
        have cb : ∀ o : Obj, (w2.alloc o).cell? ⟨gp, j * 11 + 10, none⟩ = some (.slice aj tl cj) := fun o => (World.cell?_of_block (Below.heap_alloc w2 o gp hgl)).trans c10
        rw [htl] at HF
        have HR := Lib.hid hr
        clear hr hD3 hT3 hrp hu haj hcj htl hbs b2 hD2 hdl hgl
        obtain ⟨ro, hro⟩ : ∃ ro, roleAt id (hds m f) j = ro := ⟨_, rfl⟩
        rw [hro] at HR ⊢
        clear hro
        go_wp2_with fail
        go_region_law ((refine step_append_run rfl (.tmp 44) (.tmp 48) 77 77 rfl _ _ (by simp [Act.eval]) (by simp [Act.eval]) HR.out ?_))
        all_goals
          go_wp2_with fail
          go_roundw
          case rel =>
            rw [HJ.out]
            obtain ⟨_, rfl, hF⟩ := HF.out
            exact ⟨j + 1, hlt, by rw [Int.natCast_add]; rfl, hF⟩
          case measure =>
            rw [HJ.out]
            show m - ((j : Int) + 1).toNat < m - ((j : Int)).toNat
            omega
    · obtain rfl : m = j := by omega
      have HF := Lib.hid (And.intro (hD.congr (f' := anewP id m now f) fun i hi => (if_pos hi : anewTo id m now f m i = _).symm) (And.intro (fun i => (hTL i).1) hTo))
      clear hD hTL hOw hTo hS
      go_wp2_with fail
      exact bodyPost_end (results_none rfl _ _ _) rfl ⟨rfl, ⟨TJ, AJ, CJ, HF.out.1, HF.out.2.1⟩, HF.out.2.2⟩
end
end Go.Proofs.Ytonkmbnnbpbhiaa
