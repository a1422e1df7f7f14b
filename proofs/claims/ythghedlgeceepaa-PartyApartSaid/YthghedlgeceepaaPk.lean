/- Joined texts. Conditions: those that each names. -/
import Derived.Test.YthghedlgeceepaaRows
import Derived.Test.YthghedlgeceepaaFrame
import Derived.Deep.OwnRows
import Derived.Laws.IdiomStrings
import Derived.Deep.AppendLies
namespace Go.Proofs.Ythghedlgeceepaa
section
/- Numbers, so many to a byte, as plain mathematics: a row's byte, the bytes of a list, what they are unpacked to. No program, no condition. -/
/-- Three of six kinds, or four of four, to a byte. -/
def LK (L K : Nat) : Prop := (L = 3 ∧ K = 6) ∨ (L = 4 ∧ K = 4)
/-- How many bytes n numbers take. -/
def sz (n L : Nat) : Nat := (n + (L - 1)) / L
/-- The number that the m numbers from place a on tell. -/
def hor (K : Nat) (x : Nat → Nat) (a : Nat) : Nat → Nat
  | 0 => 0
  | m + 1 => hor K x a m * K + x (a + m)
/-- How many of the first i numbers are in row j. -/
def cl (L i j : Nat) : Nat := min L (i - j * L)
/-- Row j's byte, the first i numbers told. -/
def rb (L K : Nat) (x : Nat → Nat) (i j : Nat) : Nat := hor K x (j * L) (cl L i j) * K ^ (L - cl L i j)
/-- The bytes of the first i numbers, in n rows. -/
def rows (L K : Nat) (x : Nat → Nat) (i n : Nat) : List UInt8 := (List.range n).map fun j => UInt8.ofNat (rb L K x i j)
/-- All numbers below i are of K kinds. -/
def Kinds (K : Nat) (x : Nat → Nat) (i : Nat) : Prop := ∀ k, k < i → x k < K

theorem rows_length (L K : Nat) (x : Nat → Nat) (i n : Nat) : (rows L K x i n).length = n := by simp [rows]
theorem rows_at (L K : Nat) (x : Nat → Nat) (i n j : Nat) (h : j < n) : (rows L K x i n)[j]? = some (UInt8.ofNat (rb L K x i j)) := by
  simp [rows, h]

theorem sz_cases (n L K : Nat) (h : LK L K) : sz n L = n / L + (if n % L > 0 then 1 else 0) := by
  unfold sz
  rcases h with ⟨rfl, rfl⟩ | ⟨rfl, rfl⟩ <;> split <;> omega
theorem sz_le (n L K : Nat) (h : LK L K) : sz n L ≤ n := by
  unfold sz
  rcases h with ⟨rfl, rfl⟩ | ⟨rfl, rfl⟩ <;> omega
theorem row_lt (n L K i : Nat) (h : LK L K) (hi : i < n) : i / L < sz n L := by
  unfold sz
  rcases h with ⟨rfl, rfl⟩ | ⟨rfl, rfl⟩ <;> omega

theorem hor_lt (K : Nat) (x : Nat → Nat) (a m : Nat) (h : ∀ r, r < m → x (a + r) < K) : hor K x a m < K ^ m := by
  induction m with
  | zero => simp [hor]
  | succ m ih =>
    have h1 := ih fun r hr => h r (by omega)
    have h2 := h m (by omega)
    simp only [hor, Nat.pow_succ]
    have h3 : (hor K x a m + 1) * K ≤ K ^ m * K := Nat.mul_le_mul_right _ h1
    rw [Nat.add_mul] at h3
    omega
theorem rb_lt (L K : Nat) (x : Nat → Nat) (i j : Nat) (h : Kinds K x i) : rb L K x i j < K ^ L ∨ K = 0 := by
  by_cases hK : K = 0
  · exact .inr hK
  left
  unfold rb
  have h1 : hor K x (j * L) (cl L i j) < K ^ cl L i j := hor_lt K x _ _ fun r hr => h _ (by unfold cl at hr; omega)
  have h2 : cl L i j + (L - cl L i j) = L := by unfold cl; omega
  have h3 : 0 < K ^ (L - cl L i j) := Nat.pow_pos (by omega)
  have h4 := Nat.mul_lt_mul_of_pos_right h1 h3
  rw [← Nat.pow_add, h2] at h4
  exact h4
theorem rb_lt' (L K : Nat) (x : Nat → Nat) (i j : Nat) (hLK : LK L K) (h : Kinds K x i) : rb L K x i j < 256 ∧ (L = 3 → rb L K x i j < 216) := by
  have h1 := rb_lt L K x i j h
  rcases hLK with ⟨rfl, rfl⟩ | ⟨rfl, rfl⟩
  · have h2 : rb 3 6 x i j < 216 := by simpa using h1
    exact ⟨by omega, fun _ => h2⟩
  · have h2 : rb 4 4 x i j < 256 := by simpa using h1
    exact ⟨h2, fun h => absurd h (by decide)⟩

theorem rb_zero (L K : Nat) (x : Nat → Nat) (j : Nat) : rb L K x 0 j = 0 := by simp [rb, cl, hor]
theorem rb_other (L K : Nat) (x : Nat → Nat) (i j : Nat) (h : LK L K) (hj : j ≠ i / L) : rb L K x (i + 1) j = rb L K x i j := by
  have : cl L (i + 1) j = cl L i j := by
    unfold cl
    rcases h with ⟨rfl, rfl⟩ | ⟨rfl, rfl⟩ <;> omega
  unfold rb
  rw [this]
theorem rb_same (L K : Nat) (x : Nat → Nat) (i : Nat) (h : LK L K) : rb L K x (i + 1) (i / L) = rb L K x i (i / L) + x i * K ^ (L - 1 - i % L) := by
  have h0 : cl L i (i / L) = i % L := by
    unfold cl
    rcases h with ⟨rfl, rfl⟩ | ⟨rfl, rfl⟩ <;> omega
  have h1 : cl L (i + 1) (i / L) = i % L + 1 := by
    unfold cl
    rcases h with ⟨rfl, rfl⟩ | ⟨rfl, rfl⟩ <;> omega
  have h2 : i / L * L + i % L = i := by rw [Nat.mul_comm]; exact Nat.div_add_mod i L
  have h3 : L - i % L = L - 1 - i % L + 1 := by
    rcases h with ⟨rfl, rfl⟩ | ⟨rfl, rfl⟩ <;> omega
  have h4 : L - (i % L + 1) = L - 1 - i % L := by omega
  unfold rb
  rw [h0, h1, h4, h3, Nat.pow_succ]
  simp only [hor, h2]
  rw [Nat.add_mul, Nat.mul_assoc, Nat.mul_comm K]
/-- A row that is full, or the last one. -/
theorem rb_full (L K : Nat) (x : Nat → Nat) (i j : Nat) (h : LK L K) (hj : j < i / L) : rb L K x i j = hor K x (j * L) L := by
  have h0 : cl L i j = L := by
    unfold cl
    rcases h with ⟨rfl, rfl⟩ | ⟨rfl, rfl⟩ <;> omega
  unfold rb
  rw [h0]
  simp
theorem rb_last (L K : Nat) (x : Nat → Nat) (i : Nat) (h : LK L K) : rb L K x i (i / L) = hor K x (i / L * L) (i % L) * K ^ (L - i % L) := by
  have h0 : cl L i (i / L) = i % L := by
    unfold cl
    rcases h with ⟨rfl, rfl⟩ | ⟨rfl, rfl⟩ <;> omega
  unfold rb
  rw [h0]
/-- The digits of a row. -/
theorem hor_digit (K : Nat) (x : Nat → Nat) (a m r : Nat) (hK : 0 < K) (h : ∀ r, r < m → x (a + r) < K) (hr : r < m) : hor K x a m / K ^ (m - 1 - r) % K = x (a + r) := by
  induction m with
  | zero => omega
  | succ m ih =>
    by_cases e : r = m
    · subst e
      have := h r (by omega)
      simp only [hor, Nat.add_sub_cancel, Nat.sub_self, Nat.pow_zero, Nat.div_one]
      rw [Nat.add_comm, Nat.add_mul_mod_self_right, Nat.mod_eq_of_lt this]
    · have h1 := ih (fun r hr => h r (by omega)) (by omega)
      have h2 := h m (by omega)
      have e2 : m + 1 - 1 - r = (m - 1 - r) + 1 := by omega
      rw [e2, Nat.pow_succ, Nat.mul_comm, ← Nat.div_div_eq_div_mul]
      simp only [hor]
      have e3 : (hor K x a m * K + x (a + m)) / K = hor K x a m := by
        rw [Nat.add_comm, Nat.add_mul_div_right _ _ hK, Nat.div_eq_of_lt h2, Nat.zero_add]
      rw [e3, h1]
theorem rb_digit (L K : Nat) (x : Nat → Nat) (i k : Nat) (hLK : LK L K) (h : Kinds K x i) (hk : k < i) : rb L K x i (k / L) / K ^ (L - 1 - k % L) % K = x k := by
  have hc : k % L < cl L i (k / L) := by
    unfold cl
    rcases hLK with ⟨rfl, rfl⟩ | ⟨rfl, rfl⟩ <;> omega
  have hl : cl L i (k / L) ≤ L := by unfold cl; omega
  have h2 : k / L * L + k % L = k := by rw [Nat.mul_comm]; exact Nat.div_add_mod k L
  have hK : 0 < K := by rcases hLK with ⟨rfl, rfl⟩ | ⟨rfl, rfl⟩ <;> omega
  have h1 := hor_digit K x (k / L * L) (cl L i (k / L)) (k % L) hK (fun r hr => h _ (by unfold cl at hr; omega)) hc
  rw [h2] at h1
  unfold rb
  have e : L - 1 - k % L = (L - cl L i (k / L)) + (cl L i (k / L) - 1 - k % L) := by omega
  rw [e, Nat.pow_add, ← Nat.div_div_eq_div_mul, Nat.mul_div_cancel _ (Nat.pow_pos hK)]
  exact h1
/-- Unlike lists have unlike bytes. -/
theorem rows_inj (L K : Nat) (x y : Nat → Nat) (n : Nat) (hLK : LK L K) (hx : Kinds K x n) (hy : Kinds K y n) (h : rows L K x n (sz n L) = rows L K y n (sz n L)) : ∀ k, k < n → x k = y k := by
  intro k hk
  have hr := row_lt n L K k hLK hk
  have e := congrArg (fun l => l[k / L]?) h
  simp only [rows_at _ _ _ _ _ _ hr, Option.some.injEq] at e
  have e' := congrArg UInt8.toNat e
  have h1 := (rb_lt' L K x n (k / L) hLK hx).1
  have h2 := (rb_lt' L K y n (k / L) hLK hy).1
  simp only [UInt8.toNat_ofNat'] at e'
  rw [Nat.mod_eq_of_lt h1, Nat.mod_eq_of_lt h2] at e'
  rw [← rb_digit L K x n k hLK hx hk, ← rb_digit L K y n k hLK hy hk, e']
theorem hor_congr (K : Nat) (x y : Nat → Nat) (a b m : Nat) (h : ∀ r, r < m → x (a + r) = y (b + r)) : hor K x a m = hor K y b m := by
  induction m with
  | zero => rfl
  | succ m ih =>
    simp only [hor]
    rw [ih fun r hr => h r (by omega), h m (by omega)]
theorem rows_congr (L K : Nat) (x y : Nat → Nat) (n : Nat) (h : ∀ k, k < n → x k = y k) (m : Nat) : rows L K x n m = rows L K y n m := by
  unfold rows rb
  refine List.map_congr_left fun j _ => ?_
  rw [hor_congr K x y (j * L) (j * L) (cl L n j) fun r hr => h _ (by unfold cl at hr; omega)]
/-- Behind whole rows comes what comes behind. -/
theorem rows_append (L K : Nat) (x y z : Nat → Nat) (a b : Nat) (hLK : LK L K) (ha : a % L = 0) (hx : ∀ k, k < a → z k = x k) (hy : ∀ k, k < b → z (a + k) = y k) :
    rows L K z (a + b) (sz (a + b) L) = rows L K x a (sz a L) ++ rows L K y b (sz b L) := by
  apply List.ext_getElem?
  intro j
  have e1 : sz a L = a / L := by unfold sz; rcases hLK with ⟨rfl, rfl⟩ | ⟨rfl, rfl⟩ <;> omega
  have e2 : sz (a + b) L = a / L + sz b L := by unfold sz; rcases hLK with ⟨rfl, rfl⟩ | ⟨rfl, rfl⟩ <;> omega
  by_cases h1 : j < a / L
  · rw [List.getElem?_append_left (by rw [rows_length]; omega), rows_at _ _ _ _ _ _ (by omega), rows_at _ _ _ _ _ _ (by omega)]
    have c1 : cl L (a + b) j = cl L a j := by unfold cl; rcases hLK with ⟨rfl, rfl⟩ | ⟨rfl, rfl⟩ <;> omega
    unfold rb
    rw [c1, hor_congr K z x (j * L) (j * L) (cl L a j) fun r hr => hx _ (by unfold cl at hr; omega)]
  · rw [List.getElem?_append_right (by rw [rows_length]; omega), rows_length, e1]
    by_cases h2 : j < a / L + sz b L
    · rw [rows_at _ _ _ _ _ _ (by omega), rows_at _ _ _ _ _ _ (by omega)]
      have c1 : cl L (a + b) j = cl L b (j - a / L) := by
        unfold cl
        rcases hLK with ⟨rfl, rfl⟩ | ⟨rfl, rfl⟩ <;> omega
      have c2 : j * L = a + (j - a / L) * L := by
        rcases hLK with ⟨rfl, rfl⟩ | ⟨rfl, rfl⟩ <;> omega
      unfold rb
      rw [c1, hor_congr K z y (j * L) ((j - a / L) * L) (cl L b (j - a / L)) fun r hr => by
        rw [c2, Nat.add_assoc]; exact hy _ (by unfold cl at hr; omega)]
    · rw [List.getElem?_eq_none (by rw [rows_length]; omega), List.getElem?_eq_none (by rw [rows_length]; omega)]
end
section
/- What a walk is told of a slice of numbers, wherever it came from; packed and unpacked texts as strings. No condition. -/
open Go.RowKit

/-- The first n numbers of the slice at A are those of f; they lie below block B. -/
def Nums (w : World) (B : Nat) (A : Option Addr) (n : Nat) (f : Nat → Int) : Prop :=
  ∀ k, k < n → ∃ b off, A = some ⟨b, off, none⟩ ∧ b < B ∧ w.cell? ⟨b, off + k, none⟩ = some (.int .i64 (f k))
section
variable {w w' : World} {A : Option Addr} {n B : Nat} {f : Nat → Int}
theorem Nums.of_row {cap : Nat} {zs : List Int} (h : IsRow .i64 w A n cap zs) : Nums w w.heap.size A n (fun k => zs.getD k 0) := fun _ hk => h.at_ hk
theorem Nums.below (h : Nums w B A n f) (hb : Below B w w') : Nums w' B A n f := fun k hk => by
  obtain ⟨b, off, e, hl, hc⟩ := h k hk
  exact ⟨b, off, e, hl, (hb.cell (p := ⟨b, off + k, none⟩) hl).trans hc⟩
theorem Nums.more {B' : Nat} (h : Nums w B A n f) (hB : B ≤ B') : Nums w B' A n f := fun k hk => by
  obtain ⟨b, off, e, hl, hc⟩ := h k hk
  exact ⟨b, off, e, by omega, hc⟩
theorem Nums.congr {g : Nat → Int} (h : Nums w B A n f) (hg : ∀ k, k < n → f k = g k) : Nums w B A n g := fun k hk => by
  rw [← hg k hk]
  exact h k hk
end

/-- A text as a string. -/
def str (l : List UInt8) : ByteArray := ⟨l.toArray⟩
theorem str_size (l : List UInt8) : (str l).size = l.length := by show l.toArray.size = _; simp
theorem str_of (s : ByteArray) : str s.data.toList = s := by
  apply ByteArray.ext
  simp [str]
theorem str_list (l : List UInt8) : (str l).data.toList = l := by simp [str]
theorem str_append (l m : List UInt8) : str l ++ str m = str (l ++ m) := by
  apply ByteArray.ext
  simp [str]



set_option maxHeartbeats 1000000 in
theorem size_any (n L K : Nat) (w : World) (hLK : LK L K) (hn : n ≤ 4611686018427387904) :
    Calls Try.prog 97 #[.int .i64 n, .int .i64 L] w fun e w' => e = .returned (.int .i64 (sz n L)) ∧ w = w' := by
  have hs := sz_cases n L K hLK
  rcases hLK with ⟨rfl, rfl⟩ | ⟨rfl, rfl⟩
  all_goals
    simp only [Int.cast_ofNat_Int]
    split at hs
    all_goals
      have HS := Lib.hid hs
      clear hs
      go_enter Try.func97, Try.ntmps97
      go_wp2
      go_ret
      exact ⟨ret_i64 (by rw [HS.out]; omega), rfl⟩

set_option maxHeartbeats 1000000 in
theorem unlike_any (L K : Nat) (w : World) (hLK : LK L K) :
    Calls Try.prog 98 #[.int .i64 L, .int .i64 K] w fun e w' => e = .returned (.int .i64 ((K ^ L : Nat) : Int)) ∧ w = w' := by
  rcases hLK with ⟨rfl, rfl⟩ | ⟨rfl, rfl⟩
  · simp only [Int.cast_ofNat_Int]
    go_enter Try.func98, Try.ntmps98
    go_wp2
    go_loop [5, 7] (fun u i => (i = .int .i64 0 ∧ u = .int .i64 1) ∨ (i = .int .i64 1 ∧ u = .int .i64 6) ∨ (i = .int .i64 2 ∧ u = .int .i64 36) ∨ (i = .int .i64 3 ∧ u = .int .i64 216)) (fun _ i => 3 - (intOf i).toNat)
    case atStart => exact .inl ⟨rfl, rfl⟩
    case round =>
      rcases hrel with ⟨rfl, rfl⟩ | ⟨rfl, rfl⟩ | ⟨rfl, rfl⟩ | ⟨rfl, rfl⟩
      · go_wp2
        go_round
        case rel => exact .inr (.inl ⟨rfl, rfl⟩)
        case measure => decide
      · go_wp2
        go_round
        case rel => exact .inr (.inr (.inl ⟨rfl, rfl⟩))
        case measure => decide
      · go_wp2
        go_round
        case rel => exact .inr (.inr (.inr (⟨rfl, rfl⟩)))
        case measure => decide
      · go_wp2
        go_ret
        exact ⟨rfl, rfl⟩
  · simp only [Int.cast_ofNat_Int]
    go_enter Try.func98, Try.ntmps98
    go_wp2
    go_loop [5, 7] (fun u i => (i = .int .i64 0 ∧ u = .int .i64 1) ∨ (i = .int .i64 1 ∧ u = .int .i64 4) ∨ (i = .int .i64 2 ∧ u = .int .i64 16) ∨ (i = .int .i64 3 ∧ u = .int .i64 64) ∨ (i = .int .i64 4 ∧ u = .int .i64 256)) (fun _ i => 4 - (intOf i).toNat)
    case atStart => exact .inl ⟨rfl, rfl⟩
    case round =>
      rcases hrel with ⟨rfl, rfl⟩ | ⟨rfl, rfl⟩ | ⟨rfl, rfl⟩ | ⟨rfl, rfl⟩ | ⟨rfl, rfl⟩
      · go_wp2
        go_round
        case rel => exact .inr (.inl ⟨rfl, rfl⟩)
        case measure => decide
      · go_wp2
        go_round
        case rel => exact .inr (.inr (.inl ⟨rfl, rfl⟩))
        case measure => decide
      · go_wp2
        go_round
        case rel => exact .inr (.inr (.inr (.inl ⟨rfl, rfl⟩)))
        case measure => decide
      · go_wp2
        go_round
        case rel => exact .inr (.inr (.inr (.inr (⟨rfl, rfl⟩))))
        case measure => decide
      · go_wp2
        go_ret
        exact ⟨rfl, rfl⟩
theorem unlike3 (w : World) : Calls Try.prog 98 #[.int .i64 3, .int .i64 6] w fun e w' => e = .returned (.int .i64 216) ∧ w = w' := unlike_any 3 6 w (by unfold LK; decide)
theorem unlike4 (w : World) : Calls Try.prog 98 #[.int .i64 4, .int .i64 4] w fun e w' => e = .returned (.int .i64 256) ∧ w = w' := unlike_any 4 4 w (by unfold LK; decide)
theorem unlike3q (w : World) : Calls Try.prog 98 #[.int .i64 3, .int .i64 6] w fun e w' => e = .returned (.int .i64 216) ∧ w' = w := (unlike3 w).mono fun _ _ h => ⟨h.1, h.2.symm⟩
theorem unlike4q (w : World) : Calls Try.prog 98 #[.int .i64 4, .int .i64 4] w fun e w' => e = .returned (.int .i64 256) ∧ w' = w := (unlike4 w).mono fun _ _ h => ⟨h.1, h.2.symm⟩
end
section
/- pack.packed: the bytes of a list, or that one of it is none. Its condition: at most 2^20 numbers. -/
open Go.RowKit

/-- Bytes as cells. -/
def bcells (l : List UInt8) : Array Value := (l.map fun b => Value.int .u8 (b.toNat : Int)).toArray
theorem bcells_size (l : List UInt8) : (bcells l).size = l.length := by simp [bcells]
theorem bcells_at (l : List UInt8) (j : Nat) (b : UInt8) (h : l[j]? = some b) : (bcells l)[j]? = some (.int .u8 (b.toNat : Int)) := by
  simp [bcells, h]
theorem bcells_made (L K : Nat) (x : Nat → Nat) (n : Nat) : madeCells #[Value.int .u8 0] n = bcells (rows L K x 0 n) := by
  apply Array.ext
  · simp [size_madeCells, bcells_size, rows_length]
  · intro j h1 h2
    simp only [size_madeCells] at h1
    simp [madeCells, bcells, rows, rb_zero, Nat.mod_one]
theorem bcells_set (L K : Nat) (x : Nat → Nat) (i n : Nat) (hLK : LK L K) (hx : Kinds K x (i + 1)) (_hi : i / L < n) :
    (bcells (rows L K x i n)).setIfInBounds (i / L) (.int .u8 (rb L K x (i + 1) (i / L) : Nat)) = bcells (rows L K x (i + 1) n) := by
  apply Array.ext
  · simp [bcells_size, rows_length]
  · intro j h1 h2
    simp only [Array.size_setIfInBounds, bcells_size, rows_length] at h1
    rw [Array.getElem_setIfInBounds]
    split
    · rename_i e
      subst e
      have := (rb_lt' L K x (i + 1) (i / L) hLK hx).1
      simp [bcells, rows, UInt8.toNat_ofNat']
      omega
    · rename_i e
      simp [bcells, rows, rb_other L K x i j hLK (by omega)]
    · simpa [bcells_size, rows_length] using h1
theorem bcells_text (w : World) (g cap : Nat) (l : List UInt8) (h : Blk w g 5 (bcells l)) :
    (convert 79 9 (.slice (some ⟨g, 0, none⟩) l.length cap)).run Try.prog w = .ok (.string (str l)) w := by
  refine run_convert_bytes_back w 79 9 5 ⟨g, 0, none⟩ cap l Try.underlying79 Try.underlying5 Try.underlying9 fun j hj => ?_
  have := (h.cell j).trans (bcells_at l j _ (List.getElem?_eq_getElem hj))
  by_cases h0 : j = 0
  · subst h0
    exact this
  · simpa [Addr.add, h0] using this

/-- How packing ends: at the first number that is none, or with all bytes. -/
def PackEnd (L K : Nat) (x : Nat → Nat) (n p : Nat) (e : Ending) : Prop :=
  (p = n ∧ e = .returned (.tuple #[.string (str (rows L K x n (sz n L))), .int .i64 0])) ∨ (p < n ∧ e = .returned (.tuple #[.string ⟨#[]⟩, .int .i64 1]))

set_option maxRecDepth 100000 in
set_option maxHeartbeats 2000000 in
theorem packed_any (L K : Nat) (A : Option Addr) (n cap : Nat) (f : Nat → Int) (x : Nat → Nat) (p : Nat) (w : World) (hLK : LK L K) (hn : n ≤ 1048576) (hA : Nums w w.heap.size A n f)
    (hp : p ≤ n) (hx : ∀ k, k < p → f k = (x k : Int)) (hK : Kinds K x p) (hbad : p < n → f p < 0 ∨ (K : Int) ≤ f p) :
    Calls Try.prog 95 #[.slice A n cap, .int .i64 L, .int .i64 K] w fun e w' => PackEnd L K x n p e ∧ Below w.heap.size w w' := by
  have hsz := sz_le n L K hLK
  go_enter Try.func95, Try.ntmps95
  go_wp2_with fail
  with_reducible refine (size_any n L K _ hLK (by omega)).mono ?_
  rintro e w' ⟨rfl, rfl⟩
  have hmk := run_make_row' (P := Try.prog) 79 5 (.int .u8 0) 1 Try.underlying79 u8_info rfl .i64 .i64 (sz n L) (by omega) (by omega) w
  go_wp2_with fail
  have hb0 : Blk (w.alloc (.cells (madeCells #[.int .u8 0] (sz n L)) 5)) w.heap.size 5 (bcells (rows L K x 0 (sz n L))) := by
    rw [← bcells_made L K x]
    exact Blk.new _ _ _
  go_loopw [9, 19] (fun u i wr => ∃ (k : Nat) (v : Int), k ≤ p ∧ i = .int .i64 k ∧ u = .int .i64 v ∧ (k % L ≠ 0 → v = ((K ^ (L - k % L) : Nat) : Int)) ∧ Blk wr w.heap.size 5 (bcells (rows L K x k (sz n L))) ∧ Below w.heap.size w wr) (fun _ i _ => n - (intOf i).toNat)
  case atStart => exact ⟨0, 0, Nat.zero_le _, rfl, rfl, fun h => absurd (Nat.zero_mod L) h, hb0, (Below.refl _ _).alloc (Nat.le_refl _) _⟩
  case round =>
    obtain ⟨k, v, hk, rfl, rfl, hv, hb, hw⟩ := hrel
    clear hb0
    by_cases hlt : k < p
    · obtain ⟨b, off, rfl, hbl, hc⟩ := hA k (by omega)
      have c0 : wr.cell? ⟨b, off + k, none⟩ = some (.int .i64 (x k : Int)) := (hw.cell (p := ⟨b, off + k, none⟩) hbl).trans (by rw [← hx k hlt]; exact hc)
      have hxk := hK k hlt
      have hrow := row_lt n L K k hLK (by omega)
      have hsame := rb_same L K x k hLK
      have hq := (rb_lt' L K x (k + 1) (k / L) hLK fun r hr => hK r (by omega)).1
      have hq0 := (rb_lt' L K x k (k / L) hLK fun r hr => hK r (by omega)).1
      have hbs := bcells_set L K x k (sz n L) hLK (fun r hr => hK r (by omega)) hrow
      have c1 : wr.cell? ⟨w.heap.size, k / L, none⟩ = some (.int .u8 (rb L K x k (k / L) : Nat)) := by
        refine (hb.cell _).trans ((bcells_at _ _ _ (rows_at L K x k (sz n L) (k / L) hrow)).trans ?_)
        rw [UInt8.toNat_ofNat', Nat.mod_eq_of_lt hq0]
      have f1 := hb.frozen (k / L)
      generalize x k = xk at *
      generalize rb L K x k (k / L) = q0 at *
      generalize rb L K x (k + 1) (k / L) = q1 at *
      clear hc
      rcases hLK with ⟨rfl, rfl⟩ | ⟨rfl, rfl⟩
      · simp only [Int.cast_ofNat_Int] at *
        have hm : k % 3 = 0 ∨ k % 3 = 1 ∨ k % 3 = 2 := by omega
        rcases hm with hm | hm | hm
        · rw [hm] at hsame
          have hq1 : q1 = q0 + xk * 36 := hsame
          have HQ := Lib.hid hq1
          have hfin : ∀ t : Int, t = (q1 : Int) → Blk (wr.setCell ⟨w.heap.size, k / 3, none⟩ (.int .u8 t)) w.heap.size 5 (bcells (rows 3 6 x (k + 1) (sz n 3))) := by
            rintro t rfl
            rw [← hbs]
            exact hb.set_ _ _
          have HF := Lib.hid hfin
          have hnx : (k + 1) % 3 ≠ 0 → ((36 : Int) = ((6 ^ (3 - (k + 1) % 3) : Nat) : Int)) := by
            intro _
            have e : (k + 1) % 3 = 1 := by omega
            rw [e]
            rfl
          have HN := Lib.hid hnx
          have d : ((k : Int) % 3 == 0) = true := by simp; omega
          clear hsame hq1 hv hbs hfin hnx hb hm
          go_wp2_with fail
          with_reducible refine (unlike3 _).mono ?_
          rintro e w' ⟨rfl, rfl⟩
          go_wp2_with fail
          go_roundw
          case rel => exact ⟨k + 1, 36, by omega, by go_num, rfl, HN.out, HF.out _ (by have := HQ.out; omega), hw.setCell (Nat.le_refl _) _⟩
          case measure => simp [intOf]; omega
        · rw [hm] at hsame
          have hq1 : q1 = q0 + xk * 6 := hsame
          have HQ := Lib.hid hq1
          have hfin : ∀ t : Int, t = (q1 : Int) → Blk (wr.setCell ⟨w.heap.size, k / 3, none⟩ (.int .u8 t)) w.heap.size 5 (bcells (rows 3 6 x (k + 1) (sz n 3))) := by
            rintro t rfl
            rw [← hbs]
            exact hb.set_ _ _
          have HF := Lib.hid hfin
          have hnx : (k + 1) % 3 ≠ 0 → ((6 : Int) = ((6 ^ (3 - (k + 1) % 3) : Nat) : Int)) := by
            intro _
            have e : (k + 1) % 3 = 2 := by omega
            rw [e]
            rfl
          have HN := Lib.hid hnx
          have d : ((k : Int) % 3 == 0) = false := by simp; omega
          obtain rfl : (36 : Int) = v := by rw [hv (by omega), hm]; rfl
          clear hsame hq1 hv hbs hfin hnx hb hm
          go_wp2_with fail
          go_roundw
          case rel => exact ⟨k + 1, 6, by omega, by go_num, rfl, HN.out, HF.out _ (by have := HQ.out; omega), hw.setCell (Nat.le_refl _) _⟩
          case measure => simp [intOf]; omega
        · rw [hm] at hsame
          have hq1 : q1 = q0 + xk * 1 := hsame
          have HQ := Lib.hid hq1
          have hfin : ∀ t : Int, t = (q1 : Int) → Blk (wr.setCell ⟨w.heap.size, k / 3, none⟩ (.int .u8 t)) w.heap.size 5 (bcells (rows 3 6 x (k + 1) (sz n 3))) := by
            rintro t rfl
            rw [← hbs]
            exact hb.set_ _ _
          have HF := Lib.hid hfin
          have hnx : (k + 1) % 3 ≠ 0 → ((1 : Int) = ((6 ^ (3 - (k + 1) % 3) : Nat) : Int)) := by
            intro h
            omega
          have HN := Lib.hid hnx
          have d : ((k : Int) % 3 == 0) = false := by simp; omega
          obtain rfl : (6 : Int) = v := by rw [hv (by omega), hm]; rfl
          clear hsame hq1 hv hbs hfin hnx hb hm
          go_wp2_with fail
          go_roundw
          case rel => exact ⟨k + 1, 1, by omega, by go_num, rfl, HN.out, HF.out _ (by have := HQ.out; omega), hw.setCell (Nat.le_refl _) _⟩
          case measure => simp [intOf]; omega
      · simp only [Int.cast_ofNat_Int] at *
        have hm : k % 4 = 0 ∨ k % 4 = 1 ∨ k % 4 = 2 ∨ k % 4 = 3 := by omega
        rcases hm with hm | hm | hm | hm
        · rw [hm] at hsame
          have hq1 : q1 = q0 + xk * 64 := hsame
          have HQ := Lib.hid hq1
          have hfin : ∀ t : Int, t = (q1 : Int) → Blk (wr.setCell ⟨w.heap.size, k / 4, none⟩ (.int .u8 t)) w.heap.size 5 (bcells (rows 4 4 x (k + 1) (sz n 4))) := by
            rintro t rfl
            rw [← hbs]
            exact hb.set_ _ _
          have HF := Lib.hid hfin
          have hnx : (k + 1) % 4 ≠ 0 → ((64 : Int) = ((4 ^ (4 - (k + 1) % 4) : Nat) : Int)) := by
            intro _
            have e : (k + 1) % 4 = 1 := by omega
            rw [e]
            rfl
          have HN := Lib.hid hnx
          have d : ((k : Int) % 4 == 0) = true := by simp; omega
          clear hsame hq1 hv hbs hfin hnx hb hm
          go_wp2_with fail
          with_reducible refine (unlike4 _).mono ?_
          rintro e w' ⟨rfl, rfl⟩
          go_wp2_with fail
          go_roundw
          case rel => exact ⟨k + 1, 64, by omega, by go_num, rfl, HN.out, HF.out _ (by have := HQ.out; omega), hw.setCell (Nat.le_refl _) _⟩
          case measure => simp [intOf]; omega
        · rw [hm] at hsame
          have hq1 : q1 = q0 + xk * 16 := hsame
          have HQ := Lib.hid hq1
          have hfin : ∀ t : Int, t = (q1 : Int) → Blk (wr.setCell ⟨w.heap.size, k / 4, none⟩ (.int .u8 t)) w.heap.size 5 (bcells (rows 4 4 x (k + 1) (sz n 4))) := by
            rintro t rfl
            rw [← hbs]
            exact hb.set_ _ _
          have HF := Lib.hid hfin
          have hnx : (k + 1) % 4 ≠ 0 → ((16 : Int) = ((4 ^ (4 - (k + 1) % 4) : Nat) : Int)) := by
            intro _
            have e : (k + 1) % 4 = 2 := by omega
            rw [e]
            rfl
          have HN := Lib.hid hnx
          have d : ((k : Int) % 4 == 0) = false := by simp; omega
          obtain rfl : (64 : Int) = v := by rw [hv (by omega), hm]; rfl
          clear hsame hq1 hv hbs hfin hnx hb hm
          go_wp2_with fail
          go_roundw
          case rel => exact ⟨k + 1, 16, by omega, by go_num, rfl, HN.out, HF.out _ (by have := HQ.out; omega), hw.setCell (Nat.le_refl _) _⟩
          case measure => simp [intOf]; omega
        · rw [hm] at hsame
          have hq1 : q1 = q0 + xk * 4 := hsame
          have HQ := Lib.hid hq1
          have hfin : ∀ t : Int, t = (q1 : Int) → Blk (wr.setCell ⟨w.heap.size, k / 4, none⟩ (.int .u8 t)) w.heap.size 5 (bcells (rows 4 4 x (k + 1) (sz n 4))) := by
            rintro t rfl
            rw [← hbs]
            exact hb.set_ _ _
          have HF := Lib.hid hfin
          have hnx : (k + 1) % 4 ≠ 0 → ((4 : Int) = ((4 ^ (4 - (k + 1) % 4) : Nat) : Int)) := by
            intro _
            have e : (k + 1) % 4 = 3 := by omega
            rw [e]
            rfl
          have HN := Lib.hid hnx
          have d : ((k : Int) % 4 == 0) = false := by simp; omega
          obtain rfl : (16 : Int) = v := by rw [hv (by omega), hm]; rfl
          clear hsame hq1 hv hbs hfin hnx hb hm
          go_wp2_with fail
          go_roundw
          case rel => exact ⟨k + 1, 4, by omega, by go_num, rfl, HN.out, HF.out _ (by have := HQ.out; omega), hw.setCell (Nat.le_refl _) _⟩
          case measure => simp [intOf]; omega
        · rw [hm] at hsame
          have hq1 : q1 = q0 + xk * 1 := hsame
          have HQ := Lib.hid hq1
          have hfin : ∀ t : Int, t = (q1 : Int) → Blk (wr.setCell ⟨w.heap.size, k / 4, none⟩ (.int .u8 t)) w.heap.size 5 (bcells (rows 4 4 x (k + 1) (sz n 4))) := by
            rintro t rfl
            rw [← hbs]
            exact hb.set_ _ _
          have HF := Lib.hid hfin
          have hnx : (k + 1) % 4 ≠ 0 → ((1 : Int) = ((4 ^ (4 - (k + 1) % 4) : Nat) : Int)) := by
            intro h
            omega
          have HN := Lib.hid hnx
          have d : ((k : Int) % 4 == 0) = false := by simp; omega
          obtain rfl : (4 : Int) = v := by rw [hv (by omega), hm]; rfl
          clear hsame hq1 hv hbs hfin hnx hb hm
          go_wp2_with fail
          go_roundw
          case rel => exact ⟨k + 1, 1, by omega, by go_num, rfl, HN.out, HF.out _ (by have := HQ.out; omega), hw.setCell (Nat.le_refl _) _⟩
          case measure => simp [intOf]; omega
    · obtain rfl : k = p := by omega
      by_cases hpn : k < n
      · obtain ⟨b, off, rfl, hbl, hc⟩ := hA k hpn
        have c0 : wr.cell? ⟨b, off + k, none⟩ = some (.int .i64 (f k)) := (hw.cell (p := ⟨b, off + k, none⟩) hbl).trans hc
        have hbd := hbad hpn
        generalize f k = z at *
        rcases hbd with hz | hz
        · have d1 : decide (z < 0) = true := by simpa using hz
          clear hc hv hb hx hA hK hbad
          go_wp2_with fail
          go_ret2
          exact ⟨.inr ⟨hpn, rfl⟩, hw⟩
        · have d1 : decide (z < 0) = false := by simp; omega
          have d2 : decide ((K : Int) ≤ z) = true := by simpa using hz
          clear hc hv hb hx hA hK hbad
          go_wp2_with fail
          go_ret2
          exact ⟨.inr ⟨hpn, rfl⟩, hw⟩
      · obtain rfl : k = n := by omega
        have hcv := bcells_text wr w.heap.size (sz k L) _ hb
        rw [rows_length] at hcv
        clear hv hb hx hA hK hbad
        go_wp2_with fail
        go_ret2
        exact ⟨.inl ⟨rfl, rfl⟩, hw⟩
end
section
/- pack.unpacked: what was packed is unpacked. Its condition: at most 2^20 numbers, and bytes that are those of numbers. -/
open Go.RowKit

/-- What is left of row j behind r numbers. -/
def tl (L K : Nat) (x : Nat → Nat) (n j r : Nat) : Nat := rb L K x n j % K ^ (L - r)
theorem tl_zero (L K : Nat) (x : Nat → Nat) (n j : Nat) (hLK : LK L K) (h : Kinds K x n) : tl L K x n j 0 = rb L K x n j := by
  have := rb_lt L K x n j h
  unfold tl
  rw [Nat.sub_zero]
  rcases hLK with ⟨rfl, rfl⟩ | ⟨rfl, rfl⟩ <;> exact Nat.mod_eq_of_lt (by simpa using this)
theorem tl_quo (L K : Nat) (x : Nat → Nat) (n k : Nat) (hLK : LK L K) (h : Kinds K x n) (hk : k < n) : tl L K x n (k / L) (k % L) / K ^ (L - 1 - k % L) = x k := by
  have hr : L - k % L = (L - 1 - k % L) + 1 := by rcases hLK with ⟨rfl, rfl⟩ | ⟨rfl, rfl⟩ <;> omega
  unfold tl
  rw [hr, Nat.pow_succ, Nat.mod_mul_right_div_self]
  exact rb_digit L K x n k hLK h hk
theorem tl_rem (L K : Nat) (x : Nat → Nat) (n j r : Nat) (hr : r < L) : tl L K x n j r % K ^ (L - 1 - r) = tl L K x n j (r + 1) := by
  have e : L - r = (L - 1 - r) + 1 := by omega
  have e2 : L - (r + 1) = L - 1 - r := by omega
  unfold tl
  rw [e, Nat.pow_succ, e2, Nat.mod_mul_right_mod]
theorem tl_end (L K : Nat) (x : Nat → Nat) (n j r : Nat) (hr : r ≤ L) (hn : j * L + r = n) : tl L K x n j r = 0 := by
  have hc : cl L n j = r := by unfold cl; omega
  unfold tl rb
  rw [hc, Nat.mul_mod_left]
theorem tl_lt (L K : Nat) (x : Nat → Nat) (n j r : Nat) (hLK : LK L K) : tl L K x n j r < 257 := by
  unfold tl
  have hK : 0 < K := by rcases hLK with ⟨rfl, rfl⟩ | ⟨rfl, rfl⟩ <;> omega
  refine Nat.lt_of_lt_of_le (Nat.mod_lt _ (Nat.pow_pos hK)) (Nat.le_trans (Nat.pow_le_pow_right hK (Nat.sub_le L r)) ?_)
  rcases hLK with ⟨rfl, rfl⟩ | ⟨rfl, rfl⟩ <;> decide

/-- The first k numbers as values. -/
def numsV (x : Nat → Nat) (k : Nat) : List Value := (List.range k).map fun i => Value.int .i64 (x i : Nat)
theorem numsV_length (x : Nat → Nat) (k : Nat) : (numsV x k).length = k := by simp [numsV]
theorem numsV_succ (x : Nat → Nat) (k : Nat) : numsV x (k + 1) = numsV x k ++ [.int .i64 (x k : Nat)] := by simp [numsV, List.range_succ]
theorem numsV_at (x : Nat → Nat) (n k : Nat) (h : k < n) : (numsV x n)[k]? = some (.int .i64 (x k : Nat)) := by simp [numsV, h]
theorem Nums.of_own {w : World} {base g n cap : Nat} {x : Nat → Nat} (h : w.ownsRow base 3 1 (.slice (some ⟨g, 0, none⟩) n cap) n (numsV x n)) : Nums w w.heap.size (some ⟨g, 0, none⟩) n (fun k => (x k : Int)) := fun k hk => by
  have hl : g < w.heap.size := (h.lt g rfl).2
  refine ⟨g, 0, rfl, hl, ?_⟩
  have := h.cells (g := g) rfl k _ (numsV_at x n k hk)
  rwa [Addr.add_lit] at this

/-- How unpacking ends: with the numbers in a new row. -/
def UnpackEnd (x : Nat → Nat) (n : Nat) (e : Ending) (w' : World) : Prop :=
  ∃ g, e = .returned (.tuple #[.slice (some ⟨g, 0, none⟩) n n, .int .i64 0]) ∧ Nums w' w'.heap.size (some ⟨g, 0, none⟩) n (fun k => (x k : Int))

/-- What the rounds over a row know of the numbers got so far. -/
def Got (x : Nat → Nat) (B n k : Nat) (w0 w : World) : Prop :=
  w.ownsRow B 3 1 (.slice (some ⟨B, 0, none⟩) k n) k (numsV x k) ∧ Below B w0 w

theorem got_step {x : Nat → Nat} {B n k : Nat} {w0 w w' : World} {o : Obj} {v : Int} (hown : w'.ownsRow B 3 1 (.slice (some ⟨B, 0, none⟩) (k + 1) n) (k + 1) (numsV x k ++ [.int .i64 v])) (hgrow : (w.alloc o).grownBy w' (some B)) (hbel : Below B w0 w) (hv : v = (x k : Int)) (hB : B ≤ w0.heap.size) : Got x B n (k + 1) w0 w' := by
  subst hv
  refine ⟨by rw [numsV_succ]; exact hown, (hbel.alloc (Nat.le_trans hB hbel.size) o).grown hgrow (by have := hbel.size; simp; omega) ?_⟩
  intro g hg
  injection hg with hg
  omega


end
section
/- The document's own Pack: the bytes of a list, or that one of it is none. Its condition: at most 2^20 numbers. -/
open Go.RowKit

/-- How the document's packing ends. -/
def RefEnd (L K : Nat) (x : Nat → Nat) (n p : Nat) (e : Ending) : Prop :=
  (p = n ∧ e = .returned (.tuple #[.string (str (rows L K x n (sz n L))), .bool true])) ∨ (p < n ∧ e = .returned (.tuple #[.string ⟨#[]⟩, .bool false]))

theorem rows_full (L K : Nat) (x : Nat → Nat) (i i' m : Nat) (hLK : LK L K) (h : m ≤ i / L) (h' : m ≤ i' / L) : rows L K x i m = rows L K x i' m := by
  unfold rows
  refine List.map_congr_left fun j hj => ?_
  have hj' : j < m := by simpa using hj
  rw [rb_full L K x i j hLK (by omega), rb_full L K x i' j hLK (by omega)]
theorem rows_succ (L K : Nat) (x : Nat → Nat) (i m : Nat) : rows L K x i (m + 1) = rows L K x i m ++ [UInt8.ofNat (rb L K x i m)] := by
  simp [rows, List.range_succ]
theorem one_byte (w : World) (c : Nat) (hc : c < 256) : (convert 79 9 (.slice (some ⟨w.heap.size, 0, none⟩) 1 1)).run Try.prog (w.alloc (.cells #[.int .u8 (c : Int)] 5)) = .ok (.string (str [UInt8.ofNat c])) (w.alloc (.cells #[.int .u8 (c : Int)] 5)) := by
  refine run_convert_bytes_back _ 79 9 5 ⟨w.heap.size, 0, none⟩ 1 [UInt8.ofNat c] Try.underlying79 Try.underlying5 Try.underlying9 fun j hj => ?_
  have : j = 0 := by simpa using hj
  subst this
  have e : ((UInt8.ofNat c).toNat : Int) = (c : Int) := by rw [UInt8.toNat_ofNat', Nat.mod_eq_of_lt hc]
  show _ = some (Value.int .u8 ((UInt8.ofNat c).toNat : Int))
  rw [e]
  exact (Blk.new w 5 #[.int .u8 (c : Int)]).cell 0

theorem ret_ref {a b : ByteArray} (h : a = b) : Ending.returned (.tuple #[.string a, .bool true]) = .returned (.tuple #[.string b, .bool true]) := by rw [h]

end
section
/- pack's calls, the document's Same, and what the laws ask first. Their condition: at most 2^20 numbers. -/
open Go.RowKit

/-- The first number that is none, if there is one. -/
theorem first_bad (K : Nat) (f : Nat → Int) (n : Nat) : ∃ p, p ≤ n ∧ (∀ k, k < p → 0 ≤ f k ∧ f k < (K : Int)) ∧ (p < n → f p < 0 ∨ (K : Int) ≤ f p) := by
  induction n with
  | zero => exact ⟨0, Nat.le_refl _, fun k hk => absurd hk (Nat.not_lt_zero _), fun h => absurd h (Nat.not_lt_zero _)⟩
  | succ n ih =>
    obtain ⟨p, h1, h2, h3⟩ := ih
    by_cases hp : p < n
    · exact ⟨p, by omega, h2, fun _ => h3 hp⟩
    · obtain rfl : p = n := by omega
      by_cases hb : f p < 0 ∨ (K : Int) ≤ f p
      · exact ⟨p, by omega, h2, fun _ => hb⟩
      · refine ⟨p + 1, Nat.le_refl _, fun k hk => ?_, fun h => by omega⟩
        by_cases e : k = p
        · subst e; omega
        · exact h2 k (by omega)
/-- The numbers as natural ones. -/
def nat (f : Nat → Int) (k : Nat) : Nat := (f k).toNat
theorem nat_kinds {K : Nat} {f : Nat → Int} {p : Nat} (h : ∀ k, k < p → 0 ≤ f k ∧ f k < (K : Int)) : (∀ k, k < p → f k = (nat f k : Int)) ∧ Kinds K (nat f) p := by
  refine ⟨fun k hk => ?_, fun k hk => ?_⟩ <;> have := h k hk <;> unfold nat <;> omega

theorem packed3 (A : Option Addr) (n cap : Nat) (f : Nat → Int) (x : Nat → Nat) (p : Nat) (w : World) (hn : n ≤ 1048576) (hA : Nums w w.heap.size A n f)
    (hp : p ≤ n) (hx : ∀ k, k < p → f k = (x k : Int)) (hK : Kinds 6 x p) (hbad : p < n → f p < 0 ∨ (6 : Int) ≤ f p) :
    Calls Try.prog 95 #[.slice A n cap, .int .i64 3, .int .i64 6] w fun e w' => PackEnd 3 6 x n p e ∧ Below w.heap.size w w' :=
  packed_any 3 6 A n cap f x p w (by unfold LK; decide) hn hA hp hx hK hbad
theorem packed4 (A : Option Addr) (n cap : Nat) (f : Nat → Int) (x : Nat → Nat) (p : Nat) (w : World) (hn : n ≤ 1048576) (hA : Nums w w.heap.size A n f)
    (hp : p ≤ n) (hx : ∀ k, k < p → f k = (x k : Int)) (hK : Kinds 4 x p) (hbad : p < n → f p < 0 ∨ (4 : Int) ≤ f p) :
    Calls Try.prog 95 #[.slice A n cap, .int .i64 4, .int .i64 4] w fun e w' => PackEnd 4 4 x n p e ∧ Below w.heap.size w w' :=
  packed_any 4 4 A n cap f x p w (by unfold LK; decide) hn hA hp hx hK hbad
theorem size3 (n : Nat) (w : World) (hn : n ≤ 1048576) : Calls Try.prog 97 #[.int .i64 n, .int .i64 3] w fun e w' => e = .returned (.int .i64 (sz n 3)) ∧ w = w' := size_any n 3 6 w (by unfold LK; decide) (by omega)
theorem size4 (n : Nat) (w : World) (hn : n ≤ 1048576) : Calls Try.prog 97 #[.int .i64 n, .int .i64 4] w fun e w' => e = .returned (.int .i64 (sz n 4)) ∧ w = w' := size_any n 4 4 w (by unfold LK; decide) (by omega)

set_option maxHeartbeats 1000000 in
theorem threes_any (A : Option Addr) (n cap : Nat) (f : Nat → Int) (x : Nat → Nat) (p : Nat) (w : World) (hn : n ≤ 1048576) (hA : Nums w w.heap.size A n f)
    (hp : p ≤ n) (hx : ∀ k, k < p → f k = (x k : Int)) (hK : Kinds 6 x p) (hbad : p < n → f p < 0 ∨ (6 : Int) ≤ f p) :
    Calls Try.prog 90 #[.slice A n cap] w fun e w' => PackEnd 3 6 x n p e ∧ Below w.heap.size w w' := by
  have hcall := packed3 A n cap f x p w hn hA hp hx hK hbad
  have HC := Lib.hid hcall
  clear hcall hx hK hbad hA
  go_enter Try.func90, Try.ntmps90
  go_wp2_with fail
  refine HC.out.mono ?_
  rintro e w' ⟨⟨hp, rfl⟩ | ⟨hp, rfl⟩, hb⟩
  · have HP := Lib.hid hp
    clear hp
    generalize hs : str (rows 3 6 x n (sz n 3)) = s
    have HS := Lib.hid hs
    clear hs
    go_wp2_with fail
    go_ret2
    exact ⟨.inl ⟨HP.out, by rw [HS.out]; rfl⟩, hb⟩
  · go_wp2_with fail
    go_ret2
    exact ⟨.inr ⟨hp, rfl⟩, hb⟩

theorem drewN_more {w wr : World} (h : ∃ q, wr = w.drewN q) (n : Nat) : ∃ q, wr.drewN n = w.drewN q := by
  obtain ⟨q, rfl⟩ := h
  exact ⟨q + n, World.drewN_drewN _ _ _⟩
/-- Are two lists the same? -/
def sameB (n m : Nat) (f g : Nat → Int) : Bool := decide (n = m ∧ ∀ k, k < n → f k = g k)
theorem sameB_no {n m : Nat} {f g : Nat → Int} (h : ¬ n = m) : sameB n m f g = false := by simp [sameB, h]
theorem sameB_off {n m k : Nat} {f g : Nat → Int} (hk : k < n) (h : f k ≠ g k) : sameB n m f g = false := by
  simp only [sameB, decide_eq_false_iff_not]
  exact fun hh => h (hh.2 k hk)
theorem sameB_yes {n m : Nat} {f g : Nat → Int} (h : n = m) (hf : ∀ k, k < n → f k = g k) : sameB n m f g = true := by simp only [sameB, decide_eq_true_eq]; exact ⟨h, hf⟩

end
section
/- pack.unpacked at three of six, whatever the bytes are: the events that they tell, or that they tell none. Its condition: at most 2^20 numbers. -/
open Go.RowKit

/-- Byte j of a text, 0 beyond its end. -/
def byt (s : List UInt8) (j : Nat) : Nat := (s.getD j 0).toNat
/-- The k-th event that bytes tell. -/
def evt (s : List UInt8) (k : Nat) : Nat := byt s (k / 3) / 6 ^ (2 - k % 3) % 6
/-- Are these the bytes of n events? -/
def evsOk (s : List UInt8) (n : Nat) : Prop := s.length = sz n 3 ∧ (∀ j, j < sz n 3 → byt s j < 216) ∧ (n % 3 ≠ 0 → byt s (n / 3) % 6 ^ (3 - n % 3) = 0)
/-- How unpacking ends: with the events in a new row, or in an error. -/
def EvsEnd (s : List UInt8) (n : Nat) (e : Ending) (w' : World) : Prop :=
  (evsOk s n ∧ UnpackEnd (evt s) n e w') ∨ (¬ evsOk s n ∧ e = .returned (.tuple #[.slice none 0 0, .int .i64 4]))

theorem evt_lt (s : List UInt8) (k : Nat) : evt s k < 6 := Nat.mod_lt _ (by decide)
theorem evt_quo (s : List UInt8) (k : Nat) : byt s (k / 3) % 6 ^ (3 - k % 3) / 6 ^ (2 - k % 3) = evt s k := by
  unfold evt
  generalize byt s (k / 3) = q
  rcases (show k % 3 = 0 ∨ k % 3 = 1 ∨ k % 3 = 2 from by omega) with h | h | h <;> rw [h]
  · show q % 216 / 36 = q / 36 % 6; omega
  · show q % 36 / 6 = q / 6 % 6; omega
  · show q % 6 / 1 = q / 1 % 6; omega
theorem rem_rem (q r : Nat) (hr : r < 3) : q % 6 ^ (3 - r) % 6 ^ (2 - r) = q % 6 ^ (3 - (r + 1)) := by
  rcases (show r = 0 ∨ r = 1 ∨ r = 2 from by omega) with h | h | h <;> subst h
  · show q % 216 % 36 = q % 36; omega
  · show q % 36 % 6 = q % 6; omega
  · show q % 6 % 1 = q % 1; omega
theorem rem_lt (q r : Nat) : q % 6 ^ (3 - r) < 257 := by
  refine Nat.lt_of_lt_of_le (Nat.mod_lt _ (Nat.pow_pos (by decide))) (Nat.le_trans (Nat.pow_le_pow_right (by decide) (Nat.sub_le 3 r)) (by decide))


end
end Go.Proofs.Ythghedlgeceepaa
