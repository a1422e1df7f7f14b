/- Numbers, so many to a byte, as plain mathematics: a row's byte, the bytes of a list, what they are unpacked to. No program, no condition. -/
import Derived.Test.YtoigapanhbmjlaaRows
namespace Go.Proofs.Ytoigapanhbmjlaa

/-- Three of six kinds, or four of four, to a byte. -/
def LK (L K : Nat) : Prop := (L = 3 ∧ K = 6) ∨ (L = 4 ∧ K = 4)
/-- How many bytes n numbers take. -/
def sz (n L : Nat) : Nat := (n + (L - 1)) / L
/-- The number that the m numbers from place a on tell. -/
def hor (K : Nat) (x : Nat → Nat) (a : Nat) : Nat → Nat
  | 0 => 0
  | m + 1 => hor K x a m * K + x (a + m)
/-- How many of the first i numbers are in row j. -/
def cl (L i j : Nat) : Nat := min L (i - j * L)
/-- Row j's byte, the first i numbers told. -/
def rb (L K : Nat) (x : Nat → Nat) (i j : Nat) : Nat := hor K x (j * L) (cl L i j) * K ^ (L - cl L i j)
/-- The bytes of the first i numbers, in n rows. -/
def rows (L K : Nat) (x : Nat → Nat) (i n : Nat) : List UInt8 := (List.range n).map fun j => UInt8.ofNat (rb L K x i j)
/-- All numbers below i are of K kinds. -/
def Kinds (K : Nat) (x : Nat → Nat) (i : Nat) : Prop := ∀ k, k < i → x k < K

theorem rows_length (L K : Nat) (x : Nat → Nat) (i n : Nat) : (rows L K x i n).length = n := by simp [rows]
theorem rows_at (L K : Nat) (x : Nat → Nat) (i n j : Nat) (h : j < n) : (rows L K x i n)[j]? = some (UInt8.ofNat (rb L K x i j)) := by
  simp [rows, h]

theorem sz_cases (n L K : Nat) (h : LK L K) : sz n L = n / L + (if n % L > 0 then 1 else 0) := by
  unfold sz
  rcases h with ⟨rfl, rfl⟩ | ⟨rfl, rfl⟩ <;> split <;> omega
theorem sz_le (n L K : Nat) (h : LK L K) : sz n L ≤ n := by
  unfold sz
  rcases h with ⟨rfl, rfl⟩ | ⟨rfl, rfl⟩ <;> omega
theorem row_lt (n L K i : Nat) (h : LK L K) (hi : i < n) : i / L < sz n L := by
  unfold sz
  rcases h with ⟨rfl, rfl⟩ | ⟨rfl, rfl⟩ <;> omega

theorem hor_lt (K : Nat) (x : Nat → Nat) (a m : Nat) (h : ∀ r, r < m → x (a + r) < K) : hor K x a m < K ^ m := by
  induction m with
  | zero => simp [hor]
  | succ m ih =>
    have h1 := ih fun r hr => h r (by omega)
    have h2 := h m (by omega)
    simp only [hor, Nat.pow_succ]
    have h3 : (hor K x a m + 1) * K ≤ K ^ m * K := Nat.mul_le_mul_right _ h1
    rw [Nat.add_mul] at h3
    omega
theorem rb_lt (L K : Nat) (x : Nat → Nat) (i j : Nat) (h : Kinds K x i) : rb L K x i j < K ^ L ∨ K = 0 := by
  by_cases hK : K = 0
  · exact .inr hK
  left
  unfold rb
  have h1 : hor K x (j * L) (cl L i j) < K ^ cl L i j := hor_lt K x _ _ fun r hr => h _ (by unfold cl at hr; omega)
  have h2 : cl L i j + (L - cl L i j) = L := by unfold cl; omega
  have h3 : 0 < K ^ (L - cl L i j) := Nat.pow_pos (by omega)
  have h4 := Nat.mul_lt_mul_of_pos_right h1 h3
  rw [← Nat.pow_add, h2] at h4
  exact h4
theorem rb_lt' (L K : Nat) (x : Nat → Nat) (i j : Nat) (hLK : LK L K) (h : Kinds K x i) : rb L K x i j < 256 ∧ (L = 3 → rb L K x i j < 216) := by
  have h1 := rb_lt L K x i j h
  rcases hLK with ⟨rfl, rfl⟩ | ⟨rfl, rfl⟩
  · have h2 : rb 3 6 x i j < 216 := by simpa using h1
    exact ⟨by omega, fun _ => h2⟩
  · have h2 : rb 4 4 x i j < 256 := by simpa using h1
    exact ⟨h2, fun h => absurd h (by decide)⟩

theorem rb_zero (L K : Nat) (x : Nat → Nat) (j : Nat) : rb L K x 0 j = 0 := by simp [rb, cl, hor]
theorem rb_other (L K : Nat) (x : Nat → Nat) (i j : Nat) (h : LK L K) (hj : j ≠ i / L) : rb L K x (i + 1) j = rb L K x i j := by
  have : cl L (i + 1) j = cl L i j := by
    unfold cl
    rcases h with ⟨rfl, rfl⟩ | ⟨rfl, rfl⟩ <;> omega
  unfold rb
  rw [this]
theorem rb_same (L K : Nat) (x : Nat → Nat) (i : Nat) (h : LK L K) : rb L K x (i + 1) (i / L) = rb L K x i (i / L) + x i * K ^ (L - 1 - i % L) := by
  have h0 : cl L i (i / L) = i % L := by
    unfold cl
    rcases h with ⟨rfl, rfl⟩ | ⟨rfl, rfl⟩ <;> omega
  have h1 : cl L (i + 1) (i / L) = i % L + 1 := by
    unfold cl
    rcases h with ⟨rfl, rfl⟩ | ⟨rfl, rfl⟩ <;> omega
  have h2 : i / L * L + i % L = i := by rw [Nat.mul_comm]; exact Nat.div_add_mod i L
  have h3 : L - i % L = L - 1 - i % L + 1 := by
    rcases h with ⟨rfl, rfl⟩ | ⟨rfl, rfl⟩ <;> omega
  have h4 : L - (i % L + 1) = L - 1 - i % L := by omega
  unfold rb
  rw [h0, h1, h4, h3, Nat.pow_succ]
  simp only [hor, h2]
  rw [Nat.add_mul, Nat.mul_assoc, Nat.mul_comm K]
/-- A row that is full, or the last one. -/
theorem rb_full (L K : Nat) (x : Nat → Nat) (i j : Nat) (h : LK L K) (hj : j < i / L) : rb L K x i j = hor K x (j * L) L := by
  have h0 : cl L i j = L := by
    unfold cl
    rcases h with ⟨rfl, rfl⟩ | ⟨rfl, rfl⟩ <;> omega
  unfold rb
  rw [h0]
  simp
theorem rb_last (L K : Nat) (x : Nat → Nat) (i : Nat) (h : LK L K) : rb L K x i (i / L) = hor K x (i / L * L) (i % L) * K ^ (L - i % L) := by
  have h0 : cl L i (i / L) = i % L := by
    unfold cl
    rcases h with ⟨rfl, rfl⟩ | ⟨rfl, rfl⟩ <;> omega
  unfold rb
  rw [h0]
/-- The digits of a row. -/
theorem hor_digit (K : Nat) (x : Nat → Nat) (a m r : Nat) (hK : 0 < K) (h : ∀ r, r < m → x (a + r) < K) (hr : r < m) : hor K x a m / K ^ (m - 1 - r) % K = x (a + r) := by
  induction m with
  | zero => omega
  | succ m ih =>
    by_cases e : r = m
    · subst e
      have := h r (by omega)
      simp only [hor, Nat.add_sub_cancel, Nat.sub_self, Nat.pow_zero, Nat.div_one]
      rw [Nat.add_comm, Nat.add_mul_mod_self_right, Nat.mod_eq_of_lt this]
    · have h1 := ih (fun r hr => h r (by omega)) (by omega)
      have h2 := h m (by omega)
      have e2 : m + 1 - 1 - r = (m - 1 - r) + 1 := by omega
      rw [e2, Nat.pow_succ, Nat.mul_comm, ← Nat.div_div_eq_div_mul]
      simp only [hor]
      have e3 : (hor K x a m * K + x (a + m)) / K = hor K x a m := by
        rw [Nat.add_comm, Nat.add_mul_div_right _ _ hK, Nat.div_eq_of_lt h2, Nat.zero_add]
      rw [e3, h1]
theorem rb_digit (L K : Nat) (x : Nat → Nat) (i k : Nat) (hLK : LK L K) (h : Kinds K x i) (hk : k < i) : rb L K x i (k / L) / K ^ (L - 1 - k % L) % K = x k := by
  have hc : k % L < cl L i (k / L) := by
    unfold cl
    rcases hLK with ⟨rfl, rfl⟩ | ⟨rfl, rfl⟩ <;> omega
  have hl : cl L i (k / L) ≤ L := by unfold cl; omega
  have h2 : k / L * L + k % L = k := by rw [Nat.mul_comm]; exact Nat.div_add_mod k L
  have hK : 0 < K := by rcases hLK with ⟨rfl, rfl⟩ | ⟨rfl, rfl⟩ <;> omega
  have h1 := hor_digit K x (k / L * L) (cl L i (k / L)) (k % L) hK (fun r hr => h _ (by unfold cl at hr; omega)) hc
  rw [h2] at h1
  unfold rb
  have e : L - 1 - k % L = (L - cl L i (k / L)) + (cl L i (k / L) - 1 - k % L) := by omega
  rw [e, Nat.pow_add, ← Nat.div_div_eq_div_mul, Nat.mul_div_cancel _ (Nat.pow_pos hK)]
  exact h1
/-- Unlike lists have unlike bytes. -/
theorem rows_inj (L K : Nat) (x y : Nat → Nat) (n : Nat) (hLK : LK L K) (hx : Kinds K x n) (hy : Kinds K y n) (h : rows L K x n (sz n L) = rows L K y n (sz n L)) : ∀ k, k < n → x k = y k := by
  intro k hk
  have hr := row_lt n L K k hLK hk
  have e := congrArg (fun l => l[k / L]?) h
  simp only [rows_at _ _ _ _ _ _ hr, Option.some.injEq] at e
  have e' := congrArg UInt8.toNat e
  have h1 := (rb_lt' L K x n (k / L) hLK hx).1
  have h2 := (rb_lt' L K y n (k / L) hLK hy).1
  simp only [UInt8.toNat_ofNat'] at e'
  rw [Nat.mod_eq_of_lt h1, Nat.mod_eq_of_lt h2] at e'
  rw [← rb_digit L K x n k hLK hx hk, ← rb_digit L K y n k hLK hy hk, e']
theorem hor_congr (K : Nat) (x y : Nat → Nat) (a b m : Nat) (h : ∀ r, r < m → x (a + r) = y (b + r)) : hor K x a m = hor K y b m := by
  induction m with
  | zero => rfl
  | succ m ih =>
    simp only [hor]
    rw [ih fun r hr => h r (by omega), h m (by omega)]
theorem rows_congr (L K : Nat) (x y : Nat → Nat) (n : Nat) (h : ∀ k, k < n → x k = y k) (m : Nat) : rows L K x n m = rows L K y n m := by
  unfold rows rb
  refine List.map_congr_left fun j _ => ?_
  rw [hor_congr K x y (j * L) (j * L) (cl L n j) fun r hr => h _ (by unfold cl at hr; omega)]
/-- Behind whole rows comes what comes behind. -/
theorem rows_append (L K : Nat) (x y z : Nat → Nat) (a b : Nat) (hLK : LK L K) (ha : a % L = 0) (hx : ∀ k, k < a → z k = x k) (hy : ∀ k, k < b → z (a + k) = y k) :
    rows L K z (a + b) (sz (a + b) L) = rows L K x a (sz a L) ++ rows L K y b (sz b L) := by
  apply List.ext_getElem?
  intro j
  have e1 : sz a L = a / L := by unfold sz; rcases hLK with ⟨rfl, rfl⟩ | ⟨rfl, rfl⟩ <;> omega
  have e2 : sz (a + b) L = a / L + sz b L := by unfold sz; rcases hLK with ⟨rfl, rfl⟩ | ⟨rfl, rfl⟩ <;> omega
  by_cases h1 : j < a / L
  · rw [List.getElem?_append_left (by rw [rows_length]; omega), rows_at _ _ _ _ _ _ (by omega), rows_at _ _ _ _ _ _ (by omega)]
    have c1 : cl L (a + b) j = cl L a j := by unfold cl; rcases hLK with ⟨rfl, rfl⟩ | ⟨rfl, rfl⟩ <;> omega
    unfold rb
    rw [c1, hor_congr K z x (j * L) (j * L) (cl L a j) fun r hr => hx _ (by unfold cl at hr; omega)]
  · rw [List.getElem?_append_right (by rw [rows_length]; omega), rows_length, e1]
    by_cases h2 : j < a / L + sz b L
    · rw [rows_at _ _ _ _ _ _ (by omega), rows_at _ _ _ _ _ _ (by omega)]
      have c1 : cl L (a + b) j = cl L b (j - a / L) := by
        unfold cl
        rcases hLK with ⟨rfl, rfl⟩ | ⟨rfl, rfl⟩ <;> omega
      have c2 : j * L = a + (j - a / L) * L := by
        rcases hLK with ⟨rfl, rfl⟩ | ⟨rfl, rfl⟩ <;> omega
      unfold rb
      rw [c1, hor_congr K z y (j * L) ((j - a / L) * L) (cl L b (j - a / L)) fun r hr => by
        rw [c2, Nat.add_assoc]; exact hy _ (by unfold cl at hr; omega)]
    · rw [List.getElem?_eq_none (by rw [rows_length]; omega), List.getElem?_eq_none (by rw [rows_length]; omega)]
end Go.Proofs.Ytoigapanhbmjlaa
