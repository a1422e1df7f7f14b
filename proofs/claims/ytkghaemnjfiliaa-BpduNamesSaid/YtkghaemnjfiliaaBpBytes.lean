/- bpdu.Bytes. Its condition: each number of the message is an int. -/
import Derived.Test.YtkghaemnjfiliaaBpPut
namespace Go.Proofs.Ytkghaemnjfiliaa
open Go.RowKit

/-- In the midst of the bytes' making: the message's box at B, the writer at g behind it, and what is there of it lies behind B. -/
structure BAt (w wk : World) (g : Nat) (b : Bp) (v : Value) (l : List UInt8) : Prop where
  blk : Blk wk w.heap.size 25 b.cells
  isw : IsW wk g v l
  own : OwnFrom g v
  bel : Below w.heap.size w wk
  lt : w.heap.size < g
  size : g ≤ wk.heap.size
theorem BAt.step {w wk w' : World} {g : Nat} {b : Bp} {v v' : Value} {l l' : List UInt8} (h : BAt w wk g b v l) (hw : IsW w' g v' l') (ht : Touch (FootW g v) wk w') (hm : Moved wk v v') : BAt w w' g b v' l' := by
  have hb := h.own.below (Nat.le_refl _) h.size ht
  have := h.lt
  exact ⟨h.blk.below hb (by omega), hw, h.own.moved hm h.size, h.bel.trans (hb.mono (by omega)), h.lt, Nat.le_trans h.size ht.size⟩
theorem BAt.below {w wk w' : World} {g : Nat} {b : Bp} {v : Value} {l : List UInt8} (h : BAt w wk g b v l) (hb : Below wk.heap.size wk w') : BAt w w' g b v l :=
  ⟨h.blk.below hb h.blk.lt, h.isw.touch (Below.touch hb) (fun k hk hp => by rcases hk with rfl | hk; exact absurd h.isw.blk.lt (by omega); exact absurd (World.ownsRow.lt h.isw.own k hk).2 (by omega)), h.own, h.bel.trans (hb.mono h.bel.size), h.lt, Nat.le_trans h.size hb.size⟩
theorem BAt.start {w w1 : World} {b : Bp} (hb : Below (w.alloc (.cells b.cells 25)).heap.size (w.alloc (.cells b.cells 25)) w1) : BAt w (w1.alloc (.cells #[.slice none 0 0] 44)) w1.heap.size b (.slice none 0 0) [] := by
  have e : (w.alloc (.cells b.cells 25)).heap.size = w.heap.size + 1 := by simp
  have hs := hb.size
  refine ⟨((Blk.new w _ _).below hb (by omega)).alloc _, IsW.new w1, OwnFrom.none _ _ _, ?_, by omega, by simp⟩
  exact ((bel_alloc w _).trans (hb.mono (by omega))).alloc (by omega) _

/-- What stands behind the port. -/
def endsL (age : Int) : Nat → List UInt8
  | 0 => []
  | 1 => be (age * 256) 2
  | 2 => be (age * 256) 2 ++ be 2560 2
  | 3 => be (age * 256) 2 ++ be 2560 2 ++ be 512 2
  | _ => be (age * 256) 2 ++ be 2560 2 ++ be 512 2 ++ be 1024 2
theorem endsL_length (age : Int) (k : Nat) : (endsL age k).length ≤ 8 := by
  unfold endsL; split <;> simp [be_length]
theorem ends_at (age : Int) (h0 : 0 ≤ age) (h1 : age ≤ 10) (k : Nat) (hk : k < 4) :
    ∃ n : Int, 0 ≤ n ∧ n ≤ 10 ∧ (#[.int .i64 age, .int .i64 10, .int .i64 2, .int .i64 4] : Array Value)[k]? = some (.int .i64 n) ∧ endsL age (k + 1) = endsL age k ++ be (n * 256) 2 := by
  have : k = 0 ∨ k = 1 ∨ k = 2 ∨ k = 3 := by omega
  rcases this with rfl | rfl | rfl | rfl
  · exact ⟨age, h0, h1, rfl, rfl⟩
  · exact ⟨10, by decide, by decide, rfl, rfl⟩
  · exact ⟨2, by decide, by decide, rfl, rfl⟩
  · exact ⟨4, by decide, by decide, rfl, rfl⟩
theorem BAt.slt {w wk : World} {g : Nat} {b : Bp} {v : Value} {l : List UInt8} (h : BAt w wk g b v l) : g < wk.heap.size := h.isw.blk.lt
theorem BAt.own_ne {w wk : World} {g : Nat} {b : Bp} {v : Value} {l : List UInt8} (h : BAt w wk g b v l) : v.ownBlock ≠ some wk.heap.size := fun e => by have := (World.ownsRow.lt h.isw.own _ e).2; omega

set_option maxHeartbeats 4000000 in
theorem bbytes_good (b : Bp) (hi : b.int) (hg : b.good = true) (w : World) :
    Calls Try.prog 10 #[b.v] w fun e w' => e = .returned (.tuple #[.string ⟨b.raw.toArray⟩, .int .i64 0]) ∧ Below w.heap.size w w' := by
  have HG := Lib.hid hg
  have HI := Lib.hid hi
  have hraw := Lib.hid (show b.raw = be 0 2 ++ be 2 1 ++ be 2 1 ++ be b.flags 1 ++ nameL b.root ++ be b.cost 4 ++ nameL b.bridge ++ be (b.port + 1) 2 ++ be (b.age * 256) 2 ++ be 2560 2 ++ be 512 2 ++ be 1024 2 ++ be 0 1 from rfl)
  have HS : ∀ {w1 : World}, Below (w.alloc (.cells b.cells 25)).heap.size (w.alloc (.cells b.cells 25)) w1 → BAt w (w1.alloc (.cells #[.slice none 0 0] 44)) w1.heap.size b (.slice none 0 0) [] := BAt.start
  have hx := hg
  simp only [Bp.good, vecB, costB, portB, ageB, roleB, Bool.and_eq_true, decide_eq_true_eq] at hx
  obtain ⟨⟨⟨⟨⟨hnr, hng⟩, _⟩, hp⟩, ha⟩, _⟩ := hx
  have HNR := Lib.hid hnr
  have HNG := Lib.hid hng
  clear hg hi hnr hng
  have HGood : ∀ w, Calls Try.prog 11 #[b.v] w fun e w' => e = .returned (.bool true) ∧ Below w.heap.size w w' := by intro w; have := bgood_any b HI.out w; rw [HG.out] at this; exact this
  have HFlags : ∀ w, Calls Try.prog 20 #[b.v] w fun e w' => e = .returned (.int .i64 b.flags) ∧ Below w.heap.size w w' := fun w => flags_any b HG.out w
  obtain ⟨fl, hfl⟩ : ∃ fl, b.flags = fl := ⟨_, rfl⟩
  rw [hfl] at HFlags hraw
  clear hfl
  obtain ⟨root, cost, bridge, port, age, role, change⟩ := b
  simp only [Bp.v, Bp.cells] at HGood HFlags HS hraw HNR HNG hp ha ⊢
  go_enter Try.func10, Try.ntmps10
  go_wp2_with fail
  refine (HGood _).mono ?_
  rintro e w1 ⟨rfl, b1⟩
  have h0 := HS b1
  clear b1 HS
  go_wp2_with fail
  refine (put_any w1.heap.size _ _ _ _ _ h0.isw (by simp )).mono ?_
  rw [near_lit2]
  rintro e u1 ⟨rfl, v1, i1, t1, m1⟩
  have h1 := h0.step i1 t1 m1
  clear h0 i1 t1 m1 
  go_wp2_with fail
  refine (put_any w1.heap.size _ _ _ _ _ h1.isw (by simp [be_length])).mono ?_
  rw [near_lit1]
  rintro e u2 ⟨rfl, v2, i2, t2, m2⟩
  have h2 := h1.step i2 t2 m2
  clear h1 i2 t2 m2 
  go_wp2_with fail
  refine (put_any w1.heap.size _ _ _ _ _ h2.isw (by simp [be_length])).mono ?_
  rw [near_lit1]
  rintro e u3 ⟨rfl, v3, i3, t3, m3⟩
  have h3 := h2.step i3 t3 m3
  clear h2 i3 t3 m3 
  have k0 : u3.cell? ⟨w.heap.size, 0, none⟩ = some (.int .i64 root) := h3.blk.cell 0
  have k1 : u3.cell? ⟨w.heap.size, 1, none⟩ = some (.int .i64 cost) := h3.blk.cell 1
  have k2 : u3.cell? ⟨w.heap.size, 2, none⟩ = some (.int .i64 bridge) := h3.blk.cell 2
  have k3 : u3.cell? ⟨w.heap.size, 3, none⟩ = some (.int .i64 port) := h3.blk.cell 3
  have k4 : u3.cell? ⟨w.heap.size, 4, none⟩ = some (.int .i64 age) := h3.blk.cell 4
  have k5 : u3.cell? ⟨w.heap.size, 5, none⟩ = some (.int .i64 role) := h3.blk.cell 5
  have k6 : u3.cell? ⟨w.heap.size, 6, none⟩ = some (.bool change) := h3.blk.cell 6
  go_wp2_with fail
  refine (HFlags _).mono ?_
  rintro e uf ⟨rfl, bf⟩
  have hf : BAt w uf w1.heap.size _ _ _ := h3.below bf
  clear h3 bf k0 k1 k2 k3 k4 k5 k6 HFlags
  go_wp2_with fail
  refine (put_any w1.heap.size _ _ _ _ _ hf.isw (by simp [be_length])).mono ?_
  rw [near_lit1]
  rintro e u4 ⟨rfl, v4, i4, t4, m4⟩
  have h4 := hf.step i4 t4 m4
  clear hf i4 t4 m4
  have k0 : u4.cell? ⟨w.heap.size, 0, none⟩ = some (.int .i64 root) := h4.blk.cell 0
  go_wp2_with fail
  refine (putName_any w1.heap.size _ _ _ HNR.out _ h4.isw (by simp [be_length])).mono ?_
  rintro e u5 ⟨rfl, v5, i5, t5, m5⟩
  have h5 := h4.step i5 t5 m5
  clear h4 i5 t5 m5 k0
  have k1 : u5.cell? ⟨w.heap.size, 1, none⟩ = some (.int .i64 cost) := h5.blk.cell 1
  go_wp2_with fail
  refine (put_any w1.heap.size _ _ _ _ _ h5.isw (by simp [be_length, nameL_length])).mono ?_
  rw [near_lit4]
  rintro e u6 ⟨rfl, v6, i6, t6, m6⟩
  have h6 := h5.step i6 t6 m6
  clear h5 i6 t6 m6 k1
  have k2 : u6.cell? ⟨w.heap.size, 2, none⟩ = some (.int .i64 bridge) := h6.blk.cell 2
  go_wp2_with fail
  refine (putName_any w1.heap.size _ _ _ HNG.out _ h6.isw (by simp [be_length, nameL_length])).mono ?_
  rintro e u7 ⟨rfl, v7, i7, t7, m7⟩
  have h7 := h6.step i7 t7 m7
  clear h6 i7 t7 m7 k2
  have k3 : u7.cell? ⟨w.heap.size, 3, none⟩ = some (.int .i64 port) := h7.blk.cell 3
  go_wp2_with fail
  refine (put_any w1.heap.size _ _ _ _ _ h7.isw (by simp [be_length, nameL_length])).mono ?_
  rw [near_lit2]
  rintro e u8 ⟨rfl, v8, i8, t8, m8⟩
  have h8 := h7.step i8 t8 m8
  clear h7 i8 t8 m8 k3
  have k4 : u8.cell? ⟨w.heap.size, 4, none⟩ = some (.int .i64 age) := h8.blk.cell 4
  have hsl := h8.slt
  have hown := h8.own_ne
  have hag : 0 ≤ age ∧ age ≤ 10 := ha
  clear ha hp
  obtain ⟨L, hL⟩ : ∃ L, [] ++ be 0 2 ++ be 2 1 ++ be 2 1 ++ be fl 1 ++ nameL root ++ be cost 4 ++ nameL bridge ++ be (port + 1) 2 = L := ⟨_, rfl⟩
  have hLn : L.length = 28 - 1 := by rw [← hL]; simp [be_length, nameL_length]
  rw [hL] at h8
  have HL := Lib.hid hL
  clear hL
  go_wp2_with fail
  go_loopw [47] (fun i wr => ∃ (k : Nat) (v : Value), k ≤ 4 ∧ i = .int .i64 k ∧ BAt w wr w1.heap.size ⟨root, cost, bridge, port, age, role, change⟩ v (L ++ endsL age k) ∧ Blk wr u8.heap.size 3 #[.int .i64 age, .int .i64 10, .int .i64 2, .int .i64 4] ∧ v.ownBlock ≠ some u8.heap.size) (fun i _ => 4 - (intOf i).toNat)
  case atStart => exact ⟨0, v8, Nat.zero_le _, rfl, by rw [show endsL age 0 = [] from rfl, List.append_nil]; exact h8.below (bel_alloc _ _), Blk.new _ _ _, hown⟩
  case round =>
    obtain ⟨k, v, hk, rfl, hB, hbk, hne⟩ := hrel
    by_cases hlt : k < 4
    · obtain ⟨n, hn0, hn1, hnc, hne'⟩ := ends_at age hag.1 hag.2 k hlt
      have ck : wr.cell? ⟨u8.heap.size, k, none⟩ = some (.int .i64 n) := (hbk.cell k).trans hnc
      have hen := endsL_length age k
      have HE := Lib.hid hne'
      have HA := Lib.hid hag
      have HLn := Lib.hid hLn
      clear hne' hnc hag hLn
      go_wp2_with fail
      refine (put_any w1.heap.size _ _ _ _ _ hB.isw (by have := HLn.out; rw [List.length_append]; omega)).mono ?_
      rw [near_lit2]
      rintro e u9 ⟨rfl, v9, i9, t9, m9⟩
      have hB2 := hB.step i9 t9 m9
      have hbk2 : Blk u9 u8.heap.size 3 #[.int .i64 age, .int .i64 10, .int .i64 2, .int .i64 4] := hbk.touch t9 (by rintro (h | h); omega; exact hne h)
      have hne2 : v9.ownBlock ≠ some u8.heap.size := by
        rcases m9 with m9 | ⟨j, hj, m9⟩
        · rw [m9]; exact hne
        · rw [m9]; have := hbk.lt; intro h; injection h with h; omega
      clear hB hbk hne i9 t9 m9 ck
      go_wp2_with fail
      go_roundw
      case rel => exact ⟨k + 1, v9, by omega, by go_num, by rw [HE.out, ← List.append_assoc]; exact hB2, hbk2, hne2⟩
      case measure => simp [intOf]; omega
    · obtain rfl : k = 4 := by omega
      go_wp2_with fail
      refine (put_any w1.heap.size _ _ _ _ _ hB.isw (by have := endsL_length age 4; rw [List.length_append]; omega)).mono ?_
      rw [near_lit1]
      rintro e u9 ⟨rfl, v9, i9, t9, m9⟩
      have hB2 := hB.step i9 t9 m9
      clear hB i9 t9 m9
      go_wp2_with fail
      refine (wtext_any w1.heap.size _ _ _ hB2.isw).mono ?_
      rintro e w' ⟨rfl, rfl⟩
      go_wp2
      go_ret2
      refine ⟨?_, hB2.bel⟩
      rw [hraw.out, ← HL.out]
      simp [endsL]
end Go.Proofs.Ytkghaemnjfiliaa
