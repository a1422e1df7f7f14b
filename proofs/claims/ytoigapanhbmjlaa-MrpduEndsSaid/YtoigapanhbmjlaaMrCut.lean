/- What is read of the beginning of a message's bytes, and of what goes on behind them; how long its bytes are. Its condition: at most 500 words. -/
import Derived.Test.YtoigapanhbmjlaaMrAll
namespace Go.Proofs.Ytoigapanhbmjlaa
open Go.RowKit

theorem vecBytes_80 (k : Int) (more : Bool) (l : List Wd) (h : l.length ≤ 200) : (vecBytes k more l).length ≤ 100 := vecBytes_length k more l h
theorem rowsBytes_100 (k : Int) (more : Bool) (rs : List (List Wd)) (h : ∀ r ∈ rs, r.length ≤ 200) : (rowsBytes k more rs).length ≤ 100 * rs.length := by
  induction rs generalizing more with
  | nil => simp [rowsBytes]
  | cons r rs ih =>
    have h1 := vecBytes_80 k more r (h r (by simp))
    have h2 := ih false (fun r hr => h r (by simp [hr]))
    simp only [rowsBytes, List.length_append, List.length_cons]
    omega
theorem part_100 (k : Int) (all : Bool) (l : List Wd) : (partBytes k all l).length ≤ 104 + 100 * l.length := by
  cases l with
  | nil =>
    cases all
    · rw [part_none]; simp
    · rw [part_mark]
      have := vecBytes_80 k true [] (by simp)
      simp only [List.length_append, be_length, List.length_cons, List.length_nil]
      omega
  | cons a t =>
    rw [part_rows k all _ (by simp)]
    have h1 := rowsBytes_100 k all (rowsOf (a :: t)) (fun r hr => (rowsOf_row _ _ r (Nat.le_refl _) hr).2.1)
    have h2 := rowsOf_length _ (a :: t) (Nat.le_refl _)
    simp only [List.length_append, be_length, List.length_cons, List.length_nil] at *
    omega
theorem ofK_sum (l : List Wd) : (ofK 1 l).length + ((ofK 2 l).length + (ofK 3 l).length) ≤ l.length := by
  induction l with
  | nil => simp [ofK]
  | cons a t ih =>
    simp only [ofK, List.filter_cons, List.length_cons] at *
    by_cases h1 : a.t = 1
    · simp [h1]; omega
    · by_cases h2 : a.t = 2
      · simp [h2]; omega
      · by_cases h3 : a.t = 3
        · simp [h3]; omega
        · simp [h1, h2, h3]; omega
theorem bytes_less (m : Msg) (h : m.ws.length ≤ 500) : m.bytes.length ≤ 60000 := by
  have h1 := part_100 1 (decide ((1 : Int) ∈ m.all)) (ofK 1 m.ws)
  have h2 := part_100 2 (decide ((2 : Int) ∈ m.all)) (ofK 2 m.ws)
  have h3 := part_100 3 (decide ((3 : Int) ∈ m.all)) (ofK 3 m.ws)
  have h4 := ofK_sum m.ws
  unfold Msg.bytes
  simp only [List.length_append, List.length_cons, List.length_nil]
  omega
theorem bytes_ends' (m : Msg) : ∃ t, m.bytes = 0 :: t ∧ True := ⟨_, rfl, trivial⟩
theorem bytes_more (m : Msg) : 3 ≤ m.bytes.length := by
  unfold Msg.bytes
  simp only [List.length_append, List.length_cons, List.length_nil]
  omega
/-- The beginning of a message's bytes. -/
theorem cut_msg {m : Msg} (h : m.Good) {t : List UInt8} (ht : m.bytes = 0 :: t) (k : Nat) (hk : k < t.length) : (msgLoop Msg.none (t.take k)).2 = true ∧ ∃ x, m = (msgLoop Msg.none (t.take k)).1.app x := by
  obtain ⟨t', h1, h2⟩ := bytes_read h []
  rw [List.append_nil, ht] at h1
  injection h1 with _ h1
  subst h1
  have hc := msg_cut (t.take k).length (p := Msg.none) (l := t.take k) (Nat.le_refl _) (t.drop k)
  rw [List.take_append_drop] at hc
  rw [h2] at hc
  have hne : t.drop k ≠ [] := by intro e; have := congrArg List.length e; rw [List.length_drop] at this; simp only [List.length_nil] at this; omega
  refine ⟨?_, hc.1⟩
  cases hb : (msgLoop Msg.none (t.take k)).2 with
  | true => rfl
  | false =>
    have := hc.2 hb hne
    exact absurd (congrArg Prod.snd this) (by simp)
/-- What is read of the beginning. -/
def CutEnd (m : Msg) (k : Nat) (e : Ending) (w' : World) : Prop :=
  ∃ (Q Q' : Option Addr) (q q' a1 b1 : Nat), a1 ≤ m.all.length ∧ b1 ≤ m.ws.length ∧ WordsAt w' w'.heap.size Q' (m.ws.take b1) ∧
    ((k = 0 ∧ b1 = 0 ∧ e = .returned (.tuple #[.agg #[.slice Q a1 q, .slice Q' b1 q'], .bool false, .int .i64 4])) ∨ (0 < k ∧ e = .returned (.tuple #[.agg #[.slice Q a1 q, .slice Q' b1 q'], .bool true, .int .i64 0])))
theorem read_cut (m : Msg) (h : m.Good) (hw : m.ws.length ≤ 500) (k : Nat) (hk : k < m.bytes.length) (w : World) :
    Calls Try.prog 15 #[.string ((str m.bytes).extract 0 k)] w fun e w' => CutEnd m k e w' ∧ Below w.heap.size w w' := by
  have hl := bytes_less m hw
  have hlist : ((str m.bytes).extract 0 k).data.toList = m.bytes.take k := by
    have := ext_list (str m.bytes) 0 k
    rw [Nat.zero_add, str_list, List.drop_zero] at this
    exact this
  have hsz : ((str m.bytes).extract 0 k).size ≤ 100000 := by
    have e : ((str m.bytes).extract 0 k).size = ((str m.bytes).extract 0 k).data.toList.length := by simp
    rw [e, hlist, List.length_take]; omega
  refine (readm_all _ w hsz).mono fun e w' hr => ⟨?_, hr.2⟩
  have hr := hr.1
  rw [hlist] at hr
  obtain ⟨t, ht, _⟩ := bytes_ends' m
  cases k with
  | zero =>
    rw [List.take_zero] at hr
    rcases hr with ⟨_, he⟩ | ⟨t3, _, _, _, _, hl3, _⟩
    · exact ⟨none, none, 0, 0, 0, 0, Nat.zero_le _, Nat.zero_le _, by rw [List.take_zero]; exact WordsAt.nil _ _ _, .inl ⟨rfl, rfl, he⟩⟩
    · cases hl3
  | succ k =>
    rw [ht, List.take_succ_cons] at hr
    obtain ⟨Q, Q', q, q', he, _, hQ'⟩ := read_zero rfl hr
    have htl : t.length + 1 = m.bytes.length := by rw [ht]; rfl
    obtain ⟨hb, x, hx⟩ := cut_msg h ht k (by omega)
    rw [hb] at he
    have e1 : m.all.length = (msgLoop Msg.none (t.take k)).1.all.length + x.all.length := by
      have := congrArg (fun z => z.all.length) hx; simpa [Msg.app] using this
    have e2 : m.ws = (msgLoop Msg.none (t.take k)).1.ws ++ x.ws := congrArg Msg.ws hx
    have e3 : m.ws.take (msgLoop Msg.none (t.take k)).1.ws.length = (msgLoop Msg.none (t.take k)).1.ws := by
      rw [e2, List.take_left]
    refine ⟨Q, Q', q, q', _, _, by omega, by rw [e2]; simp, by rw [e3]; exact hQ', .inr ⟨Nat.succ_pos _, he⟩⟩
end Go.Proofs.Ytoigapanhbmjlaa
