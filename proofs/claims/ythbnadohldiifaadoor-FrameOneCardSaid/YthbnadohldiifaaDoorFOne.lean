/- FrameOne: two frames that can be have the same bytes just if they are the same, and these are as many as the document says; of a pair one of which can't be nothing is asked. Condition: the table check.turns reads as the program's text lays it (the card ties that). -/
import Derived.Test.YthbnadohldiifaaDoorLaid
import Derived.Test.YthbnadohldiifaaDoorFalive
import Derived.Test.YthbnadohldiifaaDoorFopen
import Derived.Test.YthbnadohldiifaaDoorTie
import Derived.Test.YthbnadohldiifaaDoorCards
namespace Go.Proofs.YthbnadohldiifaaDoor
open Go.ChangeShapes Go.WideShapes Go.ChangeAt Go.RowKit
open Go.ChangeMaps (open_string shut_string)

theorem bytes_unlike {f g : Fr} (hf : f.good = true) (hg : g.good = true) (h : ¬ f = g) : ¬ str (Crc.sealed f.raw) = str (Crc.sealed g.raw) := by
  intro e
  apply h
  refine raw_inj hf hg ?_
  have e1 : Crc.sealed f.raw = Crc.sealed g.raw := by
    have := congrArg (fun t : ByteArray => t.data.toList) e
    simpa [str_list] using this
  rw [← Crc.take_sealed f.raw, e1, Crc.take_sealed]

def Unlike (f g : Fr) : Prop := ¬ f = g
theorem Unlike.absurd {dst src vid prio typ dst' src' vid' prio' typ' : Int} {tagged tagged' : Bool} {data data' : ByteArray} (h : Unlike ⟨dst, src, tagged, vid, prio, typ, data⟩ ⟨dst', src', tagged', vid', prio', typ', data'⟩)
    (h1 : dst = dst') (h2 : src = src') (h3 : tagged = tagged') (h4 : vid = vid') (h5 : prio = prio') (h6 : typ = typ') (h7 : data.toList = data'.toList) : False := by
  apply h
  rw [ByteArray.toList_eq, ByteArray.toList_eq] at h7
  have h7' : data = data' := ByteArray.ext (Array.ext' h7)
  subst h1 h2 h3 h4 h5 h6 h7'
  rfl

set_option maxHeartbeats 4000000 in
theorem walkFrameOne (f g : Fr) (w : World) (ht : Tab w) :
    Calls Tryd.prog 7 #[f.v, g.v] w fun e w' => e = .returned (.bool true) ∧ Below w.heap.size w w' := by
  obtain ⟨b, HB⟩ : ∃ b, Hid (f.good = b) := ⟨_, Lib.hid rfl⟩
  obtain ⟨c, HC⟩ : ∃ b, Hid (g.good = b) := ⟨_, Lib.hid rfl⟩
  have e1 : (w.alloc (.cells f.cells 23)).heap.size = w.heap.size + 1 := by simp
  have hb0 := bel_alloc2 w (.cells f.cells 23) (.cells g.cells 23)
  have hblk := (Blk.new w 23 f.cells).alloc (.cells g.cells 23)
  have hblq := Blk.new (w.alloc (.cells f.cells 23)) 23 g.cells
  rw [e1] at hblq
  have ht0 := (ht.alloc (.cells f.cells 23)).alloc (.cells g.cells 23)
  clear e1
  obtain ⟨dst, src, tagged, vid, prio, typ, data⟩ := f
  obtain ⟨dst', src', tagged', vid', prio', typ', data'⟩ := g
  simp only [Fr.v, Fr.cells] at hb0 hblk hblq ht0 ⊢
  cases b
  · go_enter Tryd.func7, Tryd.ntmps7
    go_wp2_with fail
    refine (alive_any _ ht0).mono ?_
    rintro e w1 ⟨rfl, b1⟩
    have ht1 := ht0.below b1 ht0.lt
    have k1 := hblk.below b1 hblk.lt
    have q1 := hblq.below b1 hblq.lt
    have hb1 := hb0.trans (b1.mono hb0.size)
    have l0 : w1.cell? ⟨w.heap.size, 0, none⟩ = some (.int .i64 dst) := k1.cell 0
    have l1 : w1.cell? ⟨w.heap.size, 1, none⟩ = some (.int .i64 src) := k1.cell 1
    have l2 : w1.cell? ⟨w.heap.size, 2, none⟩ = some (.bool tagged) := k1.cell 2
    have l3 : w1.cell? ⟨w.heap.size, 3, none⟩ = some (.int .i64 vid) := k1.cell 3
    have l4 : w1.cell? ⟨w.heap.size, 4, none⟩ = some (.int .i64 prio) := k1.cell 4
    have l5 : w1.cell? ⟨w.heap.size, 5, none⟩ = some (.int .i64 typ) := k1.cell 5
    have l6 : w1.cell? ⟨w.heap.size, 6, none⟩ = some (.string data) := k1.cell 6
    have m0 : w1.cell? ⟨w.heap.size + 1, 0, none⟩ = some (.int .i64 dst') := q1.cell 0
    have m1 : w1.cell? ⟨w.heap.size + 1, 1, none⟩ = some (.int .i64 src') := q1.cell 1
    have m2 : w1.cell? ⟨w.heap.size + 1, 2, none⟩ = some (.bool tagged') := q1.cell 2
    have m3 : w1.cell? ⟨w.heap.size + 1, 3, none⟩ = some (.int .i64 vid') := q1.cell 3
    have m4 : w1.cell? ⟨w.heap.size + 1, 4, none⟩ = some (.int .i64 prio') := q1.cell 4
    have m5 : w1.cell? ⟨w.heap.size + 1, 5, none⟩ = some (.int .i64 typ') := q1.cell 5
    have m6 : w1.cell? ⟨w.heap.size + 1, 6, none⟩ = some (.string data') := q1.cell 6
    go_wp2_with fail
    refine (rgood_any ⟨dst, src, tagged, vid, prio, typ, data⟩ _).mono ?_
    rw [HB.out]
    rintro e w2 ⟨rfl, b2⟩
    have ht2 := ht1.below b2 ht1.lt
    have k2 := k1.below b2 k1.lt
    have q2 := q1.below b2 q1.lt
    have hb2 := hb1.trans (b2.mono hb1.size)
    clear l0 l1 l2 l3 l4 l5 l6 m0 m1 m2 m3 m4 m5 m6 k1 q1 hb1 ht1 b2
    go_wp2
    go_ret
    exact ⟨rfl, hb2⟩
  cases c
  · go_enter Tryd.func7, Tryd.ntmps7
    go_wp2_with fail
    refine (alive_any _ ht0).mono ?_
    rintro e w1 ⟨rfl, b1⟩
    have ht1 := ht0.below b1 ht0.lt
    have k1 := hblk.below b1 hblk.lt
    have q1 := hblq.below b1 hblq.lt
    have hb1 := hb0.trans (b1.mono hb0.size)
    have l0 : w1.cell? ⟨w.heap.size, 0, none⟩ = some (.int .i64 dst) := k1.cell 0
    have l1 : w1.cell? ⟨w.heap.size, 1, none⟩ = some (.int .i64 src) := k1.cell 1
    have l2 : w1.cell? ⟨w.heap.size, 2, none⟩ = some (.bool tagged) := k1.cell 2
    have l3 : w1.cell? ⟨w.heap.size, 3, none⟩ = some (.int .i64 vid) := k1.cell 3
    have l4 : w1.cell? ⟨w.heap.size, 4, none⟩ = some (.int .i64 prio) := k1.cell 4
    have l5 : w1.cell? ⟨w.heap.size, 5, none⟩ = some (.int .i64 typ) := k1.cell 5
    have l6 : w1.cell? ⟨w.heap.size, 6, none⟩ = some (.string data) := k1.cell 6
    have m0 : w1.cell? ⟨w.heap.size + 1, 0, none⟩ = some (.int .i64 dst') := q1.cell 0
    have m1 : w1.cell? ⟨w.heap.size + 1, 1, none⟩ = some (.int .i64 src') := q1.cell 1
    have m2 : w1.cell? ⟨w.heap.size + 1, 2, none⟩ = some (.bool tagged') := q1.cell 2
    have m3 : w1.cell? ⟨w.heap.size + 1, 3, none⟩ = some (.int .i64 vid') := q1.cell 3
    have m4 : w1.cell? ⟨w.heap.size + 1, 4, none⟩ = some (.int .i64 prio') := q1.cell 4
    have m5 : w1.cell? ⟨w.heap.size + 1, 5, none⟩ = some (.int .i64 typ') := q1.cell 5
    have m6 : w1.cell? ⟨w.heap.size + 1, 6, none⟩ = some (.string data') := q1.cell 6
    go_wp2_with fail
    refine (rgood_any ⟨dst, src, tagged, vid, prio, typ, data⟩ _).mono ?_
    rw [HB.out]
    rintro e w2 ⟨rfl, b2⟩
    have ht2 := ht1.below b2 ht1.lt
    have k2 := k1.below b2 k1.lt
    have q2 := q1.below b2 q1.lt
    have hb2 := hb1.trans (b2.mono hb1.size)
    clear l0 l1 l2 l3 l4 l5 l6 m0 m1 m2 m3 m4 m5 m6 k1 q1 hb1 ht1 b2
    have l0 : w2.cell? ⟨w.heap.size, 0, none⟩ = some (.int .i64 dst) := k2.cell 0
    have l1 : w2.cell? ⟨w.heap.size, 1, none⟩ = some (.int .i64 src) := k2.cell 1
    have l2 : w2.cell? ⟨w.heap.size, 2, none⟩ = some (.bool tagged) := k2.cell 2
    have l3 : w2.cell? ⟨w.heap.size, 3, none⟩ = some (.int .i64 vid) := k2.cell 3
    have l4 : w2.cell? ⟨w.heap.size, 4, none⟩ = some (.int .i64 prio) := k2.cell 4
    have l5 : w2.cell? ⟨w.heap.size, 5, none⟩ = some (.int .i64 typ) := k2.cell 5
    have l6 : w2.cell? ⟨w.heap.size, 6, none⟩ = some (.string data) := k2.cell 6
    have m0 : w2.cell? ⟨w.heap.size + 1, 0, none⟩ = some (.int .i64 dst') := q2.cell 0
    have m1 : w2.cell? ⟨w.heap.size + 1, 1, none⟩ = some (.int .i64 src') := q2.cell 1
    have m2 : w2.cell? ⟨w.heap.size + 1, 2, none⟩ = some (.bool tagged') := q2.cell 2
    have m3 : w2.cell? ⟨w.heap.size + 1, 3, none⟩ = some (.int .i64 vid') := q2.cell 3
    have m4 : w2.cell? ⟨w.heap.size + 1, 4, none⟩ = some (.int .i64 prio') := q2.cell 4
    have m5 : w2.cell? ⟨w.heap.size + 1, 5, none⟩ = some (.int .i64 typ') := q2.cell 5
    have m6 : w2.cell? ⟨w.heap.size + 1, 6, none⟩ = some (.string data') := q2.cell 6
    go_wp2_with fail
    refine (rgood_any ⟨dst', src', tagged', vid', prio', typ', data'⟩ _).mono ?_
    rw [HC.out]
    rintro e w3 ⟨rfl, b3⟩
    have ht3 := ht2.below b3 ht2.lt
    have k3 := k2.below b3 k2.lt
    have q3 := q2.below b3 q2.lt
    have hb3 := hb2.trans (b3.mono hb2.size)
    clear l0 l1 l2 l3 l4 l5 l6 m0 m1 m2 m3 m4 m5 m6 k2 q2 hb2 ht2 b3
    go_wp2
    go_ret
    exact ⟨rfl, hb3⟩
  have hsm := fr_small HB.out
  obtain ⟨S, HS⟩ : ∃ S, Hid (str (Crc.sealed (Fr.raw ⟨dst, src, tagged, vid, prio, typ, data⟩)) = S) := ⟨_, Lib.hid rfl⟩
  have hsz := sealed_size ⟨dst, src, tagged, vid, prio, typ, data⟩
  rw [raw_length, HS.out] at hsz
  by_cases hq : (⟨dst, src, tagged, vid, prio, typ, data⟩ : Fr) = ⟨dst', src', tagged', vid', prio', typ', data'⟩
  · injection hq with h1 h2 h3 h4 h5 h6 h7
    subst h1 h2 h3 h4 h5 h6 h7
    have HC' := HC
    cases tagged
    · by_cases t0 : typ = 0
      · have hsz2 : ((S.size : Int) == 16 + (data.size : Int) + 3) = true := by rw [beq_iff_eq]; simp [t0] at hsz; omega
        subst t0
        clear hsz
        go_enter Tryd.func7, Tryd.ntmps7
        go_wp2_with fail
        refine (alive_any _ ht0).mono ?_
        rintro e w1 ⟨rfl, b1⟩
        have ht1 := ht0.below b1 ht0.lt
        have k1 := hblk.below b1 hblk.lt
        have q1 := hblq.below b1 hblq.lt
        have hb1 := hb0.trans (b1.mono hb0.size)
        have l0 : w1.cell? ⟨w.heap.size, 0, none⟩ = some (.int .i64 dst) := k1.cell 0
        have l1 : w1.cell? ⟨w.heap.size, 1, none⟩ = some (.int .i64 src) := k1.cell 1
        have l2 : w1.cell? ⟨w.heap.size, 2, none⟩ = some (.bool false) := k1.cell 2
        have l3 : w1.cell? ⟨w.heap.size, 3, none⟩ = some (.int .i64 vid) := k1.cell 3
        have l4 : w1.cell? ⟨w.heap.size, 4, none⟩ = some (.int .i64 prio) := k1.cell 4
        have l5 : w1.cell? ⟨w.heap.size, 5, none⟩ = some (.int .i64 0) := k1.cell 5
        have l6 : w1.cell? ⟨w.heap.size, 6, none⟩ = some (.string data) := k1.cell 6
        have m0 : w1.cell? ⟨w.heap.size + 1, 0, none⟩ = some (.int .i64 dst) := q1.cell 0
        have m1 : w1.cell? ⟨w.heap.size + 1, 1, none⟩ = some (.int .i64 src) := q1.cell 1
        have m2 : w1.cell? ⟨w.heap.size + 1, 2, none⟩ = some (.bool false) := q1.cell 2
        have m3 : w1.cell? ⟨w.heap.size + 1, 3, none⟩ = some (.int .i64 vid) := q1.cell 3
        have m4 : w1.cell? ⟨w.heap.size + 1, 4, none⟩ = some (.int .i64 prio) := q1.cell 4
        have m5 : w1.cell? ⟨w.heap.size + 1, 5, none⟩ = some (.int .i64 0) := q1.cell 5
        have m6 : w1.cell? ⟨w.heap.size + 1, 6, none⟩ = some (.string data) := q1.cell 6
        go_wp2_with fail
        refine (rgood_any ⟨dst, src, false, vid, prio, 0, data⟩ _).mono ?_
        rw [HB.out]
        rintro e w2 ⟨rfl, b2⟩
        have ht2 := ht1.below b2 ht1.lt
        have k2 := k1.below b2 k1.lt
        have q2 := q1.below b2 q1.lt
        have hb2 := hb1.trans (b2.mono hb1.size)
        clear l0 l1 l2 l3 l4 l5 l6 m0 m1 m2 m3 m4 m5 m6 k1 q1 hb1 ht1 b2
        have l0 : w2.cell? ⟨w.heap.size, 0, none⟩ = some (.int .i64 dst) := k2.cell 0
        have l1 : w2.cell? ⟨w.heap.size, 1, none⟩ = some (.int .i64 src) := k2.cell 1
        have l2 : w2.cell? ⟨w.heap.size, 2, none⟩ = some (.bool false) := k2.cell 2
        have l3 : w2.cell? ⟨w.heap.size, 3, none⟩ = some (.int .i64 vid) := k2.cell 3
        have l4 : w2.cell? ⟨w.heap.size, 4, none⟩ = some (.int .i64 prio) := k2.cell 4
        have l5 : w2.cell? ⟨w.heap.size, 5, none⟩ = some (.int .i64 0) := k2.cell 5
        have l6 : w2.cell? ⟨w.heap.size, 6, none⟩ = some (.string data) := k2.cell 6
        have m0 : w2.cell? ⟨w.heap.size + 1, 0, none⟩ = some (.int .i64 dst) := q2.cell 0
        have m1 : w2.cell? ⟨w.heap.size + 1, 1, none⟩ = some (.int .i64 src) := q2.cell 1
        have m2 : w2.cell? ⟨w.heap.size + 1, 2, none⟩ = some (.bool false) := q2.cell 2
        have m3 : w2.cell? ⟨w.heap.size + 1, 3, none⟩ = some (.int .i64 vid) := q2.cell 3
        have m4 : w2.cell? ⟨w.heap.size + 1, 4, none⟩ = some (.int .i64 prio) := q2.cell 4
        have m5 : w2.cell? ⟨w.heap.size + 1, 5, none⟩ = some (.int .i64 0) := q2.cell 5
        have m6 : w2.cell? ⟨w.heap.size + 1, 6, none⟩ = some (.string data) := q2.cell 6
        go_wp2_with fail
        refine (rgood_any ⟨dst, src, false, vid, prio, 0, data⟩ _).mono ?_
        rw [HC.out]
        rintro e w3 ⟨rfl, b3⟩
        have ht3 := ht2.below b3 ht2.lt
        have k3 := k2.below b3 k2.lt
        have q3 := q2.below b3 q2.lt
        have hb3 := hb2.trans (b3.mono hb2.size)
        clear l0 l1 l2 l3 l4 l5 l6 m0 m1 m2 m3 m4 m5 m6 k2 q2 hb2 ht2 b3
        have l0 : w3.cell? ⟨w.heap.size, 0, none⟩ = some (.int .i64 dst) := k3.cell 0
        have l1 : w3.cell? ⟨w.heap.size, 1, none⟩ = some (.int .i64 src) := k3.cell 1
        have l2 : w3.cell? ⟨w.heap.size, 2, none⟩ = some (.bool false) := k3.cell 2
        have l3 : w3.cell? ⟨w.heap.size, 3, none⟩ = some (.int .i64 vid) := k3.cell 3
        have l4 : w3.cell? ⟨w.heap.size, 4, none⟩ = some (.int .i64 prio) := k3.cell 4
        have l5 : w3.cell? ⟨w.heap.size, 5, none⟩ = some (.int .i64 0) := k3.cell 5
        have l6 : w3.cell? ⟨w.heap.size, 6, none⟩ = some (.string data) := k3.cell 6
        have m0 : w3.cell? ⟨w.heap.size + 1, 0, none⟩ = some (.int .i64 dst) := q3.cell 0
        have m1 : w3.cell? ⟨w.heap.size + 1, 1, none⟩ = some (.int .i64 src) := q3.cell 1
        have m2 : w3.cell? ⟨w.heap.size + 1, 2, none⟩ = some (.bool false) := q3.cell 2
        have m3 : w3.cell? ⟨w.heap.size + 1, 3, none⟩ = some (.int .i64 vid) := q3.cell 3
        have m4 : w3.cell? ⟨w.heap.size + 1, 4, none⟩ = some (.int .i64 prio) := q3.cell 4
        have m5 : w3.cell? ⟨w.heap.size + 1, 5, none⟩ = some (.int .i64 0) := q3.cell 5
        have m6 : w3.cell? ⟨w.heap.size + 1, 6, none⟩ = some (.string data) := q3.cell 6
        go_wp2_with fail
        refine (bytes_good ⟨dst, src, false, vid, prio, 0, data⟩ _ HB.out ht3).mono ?_
        rw [HS.out]
        rintro e w4 ⟨rfl, b4⟩
        have ht4 := ht3.below b4 ht3.lt
        have k4 := k3.below b4 k3.lt
        have q4 := q3.below b4 q3.lt
        have hb4 := hb3.trans (b4.mono hb3.size)
        clear l0 l1 l2 l3 l4 l5 l6 m0 m1 m2 m3 m4 m5 m6 k3 q3 hb3 ht3 b4
        have l0 : w4.cell? ⟨w.heap.size, 0, none⟩ = some (.int .i64 dst) := k4.cell 0
        have l1 : w4.cell? ⟨w.heap.size, 1, none⟩ = some (.int .i64 src) := k4.cell 1
        have l2 : w4.cell? ⟨w.heap.size, 2, none⟩ = some (.bool false) := k4.cell 2
        have l3 : w4.cell? ⟨w.heap.size, 3, none⟩ = some (.int .i64 vid) := k4.cell 3
        have l4 : w4.cell? ⟨w.heap.size, 4, none⟩ = some (.int .i64 prio) := k4.cell 4
        have l5 : w4.cell? ⟨w.heap.size, 5, none⟩ = some (.int .i64 0) := k4.cell 5
        have l6 : w4.cell? ⟨w.heap.size, 6, none⟩ = some (.string data) := k4.cell 6
        have m0 : w4.cell? ⟨w.heap.size + 1, 0, none⟩ = some (.int .i64 dst) := q4.cell 0
        have m1 : w4.cell? ⟨w.heap.size + 1, 1, none⟩ = some (.int .i64 src) := q4.cell 1
        have m2 : w4.cell? ⟨w.heap.size + 1, 2, none⟩ = some (.bool false) := q4.cell 2
        have m3 : w4.cell? ⟨w.heap.size + 1, 3, none⟩ = some (.int .i64 vid) := q4.cell 3
        have m4 : w4.cell? ⟨w.heap.size + 1, 4, none⟩ = some (.int .i64 prio) := q4.cell 4
        have m5 : w4.cell? ⟨w.heap.size + 1, 5, none⟩ = some (.int .i64 0) := q4.cell 5
        have m6 : w4.cell? ⟨w.heap.size + 1, 6, none⟩ = some (.string data) := q4.cell 6
        go_wp2_with fail
        refine (bytes_good ⟨dst, src, false, vid, prio, 0, data⟩ _ HC.out ht4).mono ?_
        rw [HS.out]
        rintro e w5 ⟨rfl, b5⟩
        have ht5 := ht4.below b5 ht4.lt
        have k5 := k4.below b5 k4.lt
        have q5 := q4.below b5 q4.lt
        have hb5 := hb4.trans (b5.mono hb4.size)
        clear l0 l1 l2 l3 l4 l5 l6 m0 m1 m2 m3 m4 m5 m6 k4 q4 hb4 ht4 b5
        have l0 : w5.cell? ⟨w.heap.size, 0, none⟩ = some (.int .i64 dst) := k5.cell 0
        have l1 : w5.cell? ⟨w.heap.size, 1, none⟩ = some (.int .i64 src) := k5.cell 1
        have l2 : w5.cell? ⟨w.heap.size, 2, none⟩ = some (.bool false) := k5.cell 2
        have l3 : w5.cell? ⟨w.heap.size, 3, none⟩ = some (.int .i64 vid) := k5.cell 3
        have l4 : w5.cell? ⟨w.heap.size, 4, none⟩ = some (.int .i64 prio) := k5.cell 4
        have l5 : w5.cell? ⟨w.heap.size, 5, none⟩ = some (.int .i64 0) := k5.cell 5
        have l6 : w5.cell? ⟨w.heap.size, 6, none⟩ = some (.string data) := k5.cell 6
        have m0 : w5.cell? ⟨w.heap.size + 1, 0, none⟩ = some (.int .i64 dst) := q5.cell 0
        have m1 : w5.cell? ⟨w.heap.size + 1, 1, none⟩ = some (.int .i64 src) := q5.cell 1
        have m2 : w5.cell? ⟨w.heap.size + 1, 2, none⟩ = some (.bool false) := q5.cell 2
        have m3 : w5.cell? ⟨w.heap.size + 1, 3, none⟩ = some (.int .i64 vid) := q5.cell 3
        have m4 : w5.cell? ⟨w.heap.size + 1, 4, none⟩ = some (.int .i64 prio) := q5.cell 4
        have m5 : w5.cell? ⟨w.heap.size + 1, 5, none⟩ = some (.int .i64 0) := q5.cell 5
        have m6 : w5.cell? ⟨w.heap.size + 1, 6, none⟩ = some (.string data) := q5.cell 6
        go_wp2
        go_ret
        exact ⟨rfl, hb5⟩
      · have hsz2 : ((S.size : Int) == 16 + (data.size : Int)) = true := by rw [beq_iff_eq]; simp [t0] at hsz; omega
        have e0 : (typ == 0) = false := by simpa using t0
        clear hsz t0
        go_enter Tryd.func7, Tryd.ntmps7
        go_wp2_with fail
        refine (alive_any _ ht0).mono ?_
        rintro e w1 ⟨rfl, b1⟩
        have ht1 := ht0.below b1 ht0.lt
        have k1 := hblk.below b1 hblk.lt
        have q1 := hblq.below b1 hblq.lt
        have hb1 := hb0.trans (b1.mono hb0.size)
        have l0 : w1.cell? ⟨w.heap.size, 0, none⟩ = some (.int .i64 dst) := k1.cell 0
        have l1 : w1.cell? ⟨w.heap.size, 1, none⟩ = some (.int .i64 src) := k1.cell 1
        have l2 : w1.cell? ⟨w.heap.size, 2, none⟩ = some (.bool false) := k1.cell 2
        have l3 : w1.cell? ⟨w.heap.size, 3, none⟩ = some (.int .i64 vid) := k1.cell 3
        have l4 : w1.cell? ⟨w.heap.size, 4, none⟩ = some (.int .i64 prio) := k1.cell 4
        have l5 : w1.cell? ⟨w.heap.size, 5, none⟩ = some (.int .i64 typ) := k1.cell 5
        have l6 : w1.cell? ⟨w.heap.size, 6, none⟩ = some (.string data) := k1.cell 6
        have m0 : w1.cell? ⟨w.heap.size + 1, 0, none⟩ = some (.int .i64 dst) := q1.cell 0
        have m1 : w1.cell? ⟨w.heap.size + 1, 1, none⟩ = some (.int .i64 src) := q1.cell 1
        have m2 : w1.cell? ⟨w.heap.size + 1, 2, none⟩ = some (.bool false) := q1.cell 2
        have m3 : w1.cell? ⟨w.heap.size + 1, 3, none⟩ = some (.int .i64 vid) := q1.cell 3
        have m4 : w1.cell? ⟨w.heap.size + 1, 4, none⟩ = some (.int .i64 prio) := q1.cell 4
        have m5 : w1.cell? ⟨w.heap.size + 1, 5, none⟩ = some (.int .i64 typ) := q1.cell 5
        have m6 : w1.cell? ⟨w.heap.size + 1, 6, none⟩ = some (.string data) := q1.cell 6
        go_wp2_with fail
        refine (rgood_any ⟨dst, src, false, vid, prio, typ, data⟩ _).mono ?_
        rw [HB.out]
        rintro e w2 ⟨rfl, b2⟩
        have ht2 := ht1.below b2 ht1.lt
        have k2 := k1.below b2 k1.lt
        have q2 := q1.below b2 q1.lt
        have hb2 := hb1.trans (b2.mono hb1.size)
        clear l0 l1 l2 l3 l4 l5 l6 m0 m1 m2 m3 m4 m5 m6 k1 q1 hb1 ht1 b2
        have l0 : w2.cell? ⟨w.heap.size, 0, none⟩ = some (.int .i64 dst) := k2.cell 0
        have l1 : w2.cell? ⟨w.heap.size, 1, none⟩ = some (.int .i64 src) := k2.cell 1
        have l2 : w2.cell? ⟨w.heap.size, 2, none⟩ = some (.bool false) := k2.cell 2
        have l3 : w2.cell? ⟨w.heap.size, 3, none⟩ = some (.int .i64 vid) := k2.cell 3
        have l4 : w2.cell? ⟨w.heap.size, 4, none⟩ = some (.int .i64 prio) := k2.cell 4
        have l5 : w2.cell? ⟨w.heap.size, 5, none⟩ = some (.int .i64 typ) := k2.cell 5
        have l6 : w2.cell? ⟨w.heap.size, 6, none⟩ = some (.string data) := k2.cell 6
        have m0 : w2.cell? ⟨w.heap.size + 1, 0, none⟩ = some (.int .i64 dst) := q2.cell 0
        have m1 : w2.cell? ⟨w.heap.size + 1, 1, none⟩ = some (.int .i64 src) := q2.cell 1
        have m2 : w2.cell? ⟨w.heap.size + 1, 2, none⟩ = some (.bool false) := q2.cell 2
        have m3 : w2.cell? ⟨w.heap.size + 1, 3, none⟩ = some (.int .i64 vid) := q2.cell 3
        have m4 : w2.cell? ⟨w.heap.size + 1, 4, none⟩ = some (.int .i64 prio) := q2.cell 4
        have m5 : w2.cell? ⟨w.heap.size + 1, 5, none⟩ = some (.int .i64 typ) := q2.cell 5
        have m6 : w2.cell? ⟨w.heap.size + 1, 6, none⟩ = some (.string data) := q2.cell 6
        go_wp2_with fail
        refine (rgood_any ⟨dst, src, false, vid, prio, typ, data⟩ _).mono ?_
        rw [HC.out]
        rintro e w3 ⟨rfl, b3⟩
        have ht3 := ht2.below b3 ht2.lt
        have k3 := k2.below b3 k2.lt
        have q3 := q2.below b3 q2.lt
        have hb3 := hb2.trans (b3.mono hb2.size)
        clear l0 l1 l2 l3 l4 l5 l6 m0 m1 m2 m3 m4 m5 m6 k2 q2 hb2 ht2 b3
        have l0 : w3.cell? ⟨w.heap.size, 0, none⟩ = some (.int .i64 dst) := k3.cell 0
        have l1 : w3.cell? ⟨w.heap.size, 1, none⟩ = some (.int .i64 src) := k3.cell 1
        have l2 : w3.cell? ⟨w.heap.size, 2, none⟩ = some (.bool false) := k3.cell 2
        have l3 : w3.cell? ⟨w.heap.size, 3, none⟩ = some (.int .i64 vid) := k3.cell 3
        have l4 : w3.cell? ⟨w.heap.size, 4, none⟩ = some (.int .i64 prio) := k3.cell 4
        have l5 : w3.cell? ⟨w.heap.size, 5, none⟩ = some (.int .i64 typ) := k3.cell 5
        have l6 : w3.cell? ⟨w.heap.size, 6, none⟩ = some (.string data) := k3.cell 6
        have m0 : w3.cell? ⟨w.heap.size + 1, 0, none⟩ = some (.int .i64 dst) := q3.cell 0
        have m1 : w3.cell? ⟨w.heap.size + 1, 1, none⟩ = some (.int .i64 src) := q3.cell 1
        have m2 : w3.cell? ⟨w.heap.size + 1, 2, none⟩ = some (.bool false) := q3.cell 2
        have m3 : w3.cell? ⟨w.heap.size + 1, 3, none⟩ = some (.int .i64 vid) := q3.cell 3
        have m4 : w3.cell? ⟨w.heap.size + 1, 4, none⟩ = some (.int .i64 prio) := q3.cell 4
        have m5 : w3.cell? ⟨w.heap.size + 1, 5, none⟩ = some (.int .i64 typ) := q3.cell 5
        have m6 : w3.cell? ⟨w.heap.size + 1, 6, none⟩ = some (.string data) := q3.cell 6
        go_wp2_with fail
        refine (bytes_good ⟨dst, src, false, vid, prio, typ, data⟩ _ HB.out ht3).mono ?_
        rw [HS.out]
        rintro e w4 ⟨rfl, b4⟩
        have ht4 := ht3.below b4 ht3.lt
        have k4 := k3.below b4 k3.lt
        have q4 := q3.below b4 q3.lt
        have hb4 := hb3.trans (b4.mono hb3.size)
        clear l0 l1 l2 l3 l4 l5 l6 m0 m1 m2 m3 m4 m5 m6 k3 q3 hb3 ht3 b4
        have l0 : w4.cell? ⟨w.heap.size, 0, none⟩ = some (.int .i64 dst) := k4.cell 0
        have l1 : w4.cell? ⟨w.heap.size, 1, none⟩ = some (.int .i64 src) := k4.cell 1
        have l2 : w4.cell? ⟨w.heap.size, 2, none⟩ = some (.bool false) := k4.cell 2
        have l3 : w4.cell? ⟨w.heap.size, 3, none⟩ = some (.int .i64 vid) := k4.cell 3
        have l4 : w4.cell? ⟨w.heap.size, 4, none⟩ = some (.int .i64 prio) := k4.cell 4
        have l5 : w4.cell? ⟨w.heap.size, 5, none⟩ = some (.int .i64 typ) := k4.cell 5
        have l6 : w4.cell? ⟨w.heap.size, 6, none⟩ = some (.string data) := k4.cell 6
        have m0 : w4.cell? ⟨w.heap.size + 1, 0, none⟩ = some (.int .i64 dst) := q4.cell 0
        have m1 : w4.cell? ⟨w.heap.size + 1, 1, none⟩ = some (.int .i64 src) := q4.cell 1
        have m2 : w4.cell? ⟨w.heap.size + 1, 2, none⟩ = some (.bool false) := q4.cell 2
        have m3 : w4.cell? ⟨w.heap.size + 1, 3, none⟩ = some (.int .i64 vid) := q4.cell 3
        have m4 : w4.cell? ⟨w.heap.size + 1, 4, none⟩ = some (.int .i64 prio) := q4.cell 4
        have m5 : w4.cell? ⟨w.heap.size + 1, 5, none⟩ = some (.int .i64 typ) := q4.cell 5
        have m6 : w4.cell? ⟨w.heap.size + 1, 6, none⟩ = some (.string data) := q4.cell 6
        go_wp2_with fail
        refine (bytes_good ⟨dst, src, false, vid, prio, typ, data⟩ _ HC.out ht4).mono ?_
        rw [HS.out]
        rintro e w5 ⟨rfl, b5⟩
        have ht5 := ht4.below b5 ht4.lt
        have k5 := k4.below b5 k4.lt
        have q5 := q4.below b5 q4.lt
        have hb5 := hb4.trans (b5.mono hb4.size)
        clear l0 l1 l2 l3 l4 l5 l6 m0 m1 m2 m3 m4 m5 m6 k4 q4 hb4 ht4 b5
        have l0 : w5.cell? ⟨w.heap.size, 0, none⟩ = some (.int .i64 dst) := k5.cell 0
        have l1 : w5.cell? ⟨w.heap.size, 1, none⟩ = some (.int .i64 src) := k5.cell 1
        have l2 : w5.cell? ⟨w.heap.size, 2, none⟩ = some (.bool false) := k5.cell 2
        have l3 : w5.cell? ⟨w.heap.size, 3, none⟩ = some (.int .i64 vid) := k5.cell 3
        have l4 : w5.cell? ⟨w.heap.size, 4, none⟩ = some (.int .i64 prio) := k5.cell 4
        have l5 : w5.cell? ⟨w.heap.size, 5, none⟩ = some (.int .i64 typ) := k5.cell 5
        have l6 : w5.cell? ⟨w.heap.size, 6, none⟩ = some (.string data) := k5.cell 6
        have m0 : w5.cell? ⟨w.heap.size + 1, 0, none⟩ = some (.int .i64 dst) := q5.cell 0
        have m1 : w5.cell? ⟨w.heap.size + 1, 1, none⟩ = some (.int .i64 src) := q5.cell 1
        have m2 : w5.cell? ⟨w.heap.size + 1, 2, none⟩ = some (.bool false) := q5.cell 2
        have m3 : w5.cell? ⟨w.heap.size + 1, 3, none⟩ = some (.int .i64 vid) := q5.cell 3
        have m4 : w5.cell? ⟨w.heap.size + 1, 4, none⟩ = some (.int .i64 prio) := q5.cell 4
        have m5 : w5.cell? ⟨w.heap.size + 1, 5, none⟩ = some (.int .i64 typ) := q5.cell 5
        have m6 : w5.cell? ⟨w.heap.size + 1, 6, none⟩ = some (.string data) := q5.cell 6
        go_wp2
        go_ret
        exact ⟨rfl, hb5⟩
    · by_cases t0 : typ = 0
      · have hsz2 : ((S.size : Int) == 16 + (data.size : Int) + 4 + 3) = true := by rw [beq_iff_eq]; simp [t0] at hsz; omega
        subst t0
        clear hsz
        go_enter Tryd.func7, Tryd.ntmps7
        go_wp2_with fail
        refine (alive_any _ ht0).mono ?_
        rintro e w1 ⟨rfl, b1⟩
        have ht1 := ht0.below b1 ht0.lt
        have k1 := hblk.below b1 hblk.lt
        have q1 := hblq.below b1 hblq.lt
        have hb1 := hb0.trans (b1.mono hb0.size)
        have l0 : w1.cell? ⟨w.heap.size, 0, none⟩ = some (.int .i64 dst) := k1.cell 0
        have l1 : w1.cell? ⟨w.heap.size, 1, none⟩ = some (.int .i64 src) := k1.cell 1
        have l2 : w1.cell? ⟨w.heap.size, 2, none⟩ = some (.bool true) := k1.cell 2
        have l3 : w1.cell? ⟨w.heap.size, 3, none⟩ = some (.int .i64 vid) := k1.cell 3
        have l4 : w1.cell? ⟨w.heap.size, 4, none⟩ = some (.int .i64 prio) := k1.cell 4
        have l5 : w1.cell? ⟨w.heap.size, 5, none⟩ = some (.int .i64 0) := k1.cell 5
        have l6 : w1.cell? ⟨w.heap.size, 6, none⟩ = some (.string data) := k1.cell 6
        have m0 : w1.cell? ⟨w.heap.size + 1, 0, none⟩ = some (.int .i64 dst) := q1.cell 0
        have m1 : w1.cell? ⟨w.heap.size + 1, 1, none⟩ = some (.int .i64 src) := q1.cell 1
        have m2 : w1.cell? ⟨w.heap.size + 1, 2, none⟩ = some (.bool true) := q1.cell 2
        have m3 : w1.cell? ⟨w.heap.size + 1, 3, none⟩ = some (.int .i64 vid) := q1.cell 3
        have m4 : w1.cell? ⟨w.heap.size + 1, 4, none⟩ = some (.int .i64 prio) := q1.cell 4
        have m5 : w1.cell? ⟨w.heap.size + 1, 5, none⟩ = some (.int .i64 0) := q1.cell 5
        have m6 : w1.cell? ⟨w.heap.size + 1, 6, none⟩ = some (.string data) := q1.cell 6
        go_wp2_with fail
        refine (rgood_any ⟨dst, src, true, vid, prio, 0, data⟩ _).mono ?_
        rw [HB.out]
        rintro e w2 ⟨rfl, b2⟩
        have ht2 := ht1.below b2 ht1.lt
        have k2 := k1.below b2 k1.lt
        have q2 := q1.below b2 q1.lt
        have hb2 := hb1.trans (b2.mono hb1.size)
        clear l0 l1 l2 l3 l4 l5 l6 m0 m1 m2 m3 m4 m5 m6 k1 q1 hb1 ht1 b2
        have l0 : w2.cell? ⟨w.heap.size, 0, none⟩ = some (.int .i64 dst) := k2.cell 0
        have l1 : w2.cell? ⟨w.heap.size, 1, none⟩ = some (.int .i64 src) := k2.cell 1
        have l2 : w2.cell? ⟨w.heap.size, 2, none⟩ = some (.bool true) := k2.cell 2
        have l3 : w2.cell? ⟨w.heap.size, 3, none⟩ = some (.int .i64 vid) := k2.cell 3
        have l4 : w2.cell? ⟨w.heap.size, 4, none⟩ = some (.int .i64 prio) := k2.cell 4
        have l5 : w2.cell? ⟨w.heap.size, 5, none⟩ = some (.int .i64 0) := k2.cell 5
        have l6 : w2.cell? ⟨w.heap.size, 6, none⟩ = some (.string data) := k2.cell 6
        have m0 : w2.cell? ⟨w.heap.size + 1, 0, none⟩ = some (.int .i64 dst) := q2.cell 0
        have m1 : w2.cell? ⟨w.heap.size + 1, 1, none⟩ = some (.int .i64 src) := q2.cell 1
        have m2 : w2.cell? ⟨w.heap.size + 1, 2, none⟩ = some (.bool true) := q2.cell 2
        have m3 : w2.cell? ⟨w.heap.size + 1, 3, none⟩ = some (.int .i64 vid) := q2.cell 3
        have m4 : w2.cell? ⟨w.heap.size + 1, 4, none⟩ = some (.int .i64 prio) := q2.cell 4
        have m5 : w2.cell? ⟨w.heap.size + 1, 5, none⟩ = some (.int .i64 0) := q2.cell 5
        have m6 : w2.cell? ⟨w.heap.size + 1, 6, none⟩ = some (.string data) := q2.cell 6
        go_wp2_with fail
        refine (rgood_any ⟨dst, src, true, vid, prio, 0, data⟩ _).mono ?_
        rw [HC.out]
        rintro e w3 ⟨rfl, b3⟩
        have ht3 := ht2.below b3 ht2.lt
        have k3 := k2.below b3 k2.lt
        have q3 := q2.below b3 q2.lt
        have hb3 := hb2.trans (b3.mono hb2.size)
        clear l0 l1 l2 l3 l4 l5 l6 m0 m1 m2 m3 m4 m5 m6 k2 q2 hb2 ht2 b3
        have l0 : w3.cell? ⟨w.heap.size, 0, none⟩ = some (.int .i64 dst) := k3.cell 0
        have l1 : w3.cell? ⟨w.heap.size, 1, none⟩ = some (.int .i64 src) := k3.cell 1
        have l2 : w3.cell? ⟨w.heap.size, 2, none⟩ = some (.bool true) := k3.cell 2
        have l3 : w3.cell? ⟨w.heap.size, 3, none⟩ = some (.int .i64 vid) := k3.cell 3
        have l4 : w3.cell? ⟨w.heap.size, 4, none⟩ = some (.int .i64 prio) := k3.cell 4
        have l5 : w3.cell? ⟨w.heap.size, 5, none⟩ = some (.int .i64 0) := k3.cell 5
        have l6 : w3.cell? ⟨w.heap.size, 6, none⟩ = some (.string data) := k3.cell 6
        have m0 : w3.cell? ⟨w.heap.size + 1, 0, none⟩ = some (.int .i64 dst) := q3.cell 0
        have m1 : w3.cell? ⟨w.heap.size + 1, 1, none⟩ = some (.int .i64 src) := q3.cell 1
        have m2 : w3.cell? ⟨w.heap.size + 1, 2, none⟩ = some (.bool true) := q3.cell 2
        have m3 : w3.cell? ⟨w.heap.size + 1, 3, none⟩ = some (.int .i64 vid) := q3.cell 3
        have m4 : w3.cell? ⟨w.heap.size + 1, 4, none⟩ = some (.int .i64 prio) := q3.cell 4
        have m5 : w3.cell? ⟨w.heap.size + 1, 5, none⟩ = some (.int .i64 0) := q3.cell 5
        have m6 : w3.cell? ⟨w.heap.size + 1, 6, none⟩ = some (.string data) := q3.cell 6
        go_wp2_with fail
        refine (bytes_good ⟨dst, src, true, vid, prio, 0, data⟩ _ HB.out ht3).mono ?_
        rw [HS.out]
        rintro e w4 ⟨rfl, b4⟩
        have ht4 := ht3.below b4 ht3.lt
        have k4 := k3.below b4 k3.lt
        have q4 := q3.below b4 q3.lt
        have hb4 := hb3.trans (b4.mono hb3.size)
        clear l0 l1 l2 l3 l4 l5 l6 m0 m1 m2 m3 m4 m5 m6 k3 q3 hb3 ht3 b4
        have l0 : w4.cell? ⟨w.heap.size, 0, none⟩ = some (.int .i64 dst) := k4.cell 0
        have l1 : w4.cell? ⟨w.heap.size, 1, none⟩ = some (.int .i64 src) := k4.cell 1
        have l2 : w4.cell? ⟨w.heap.size, 2, none⟩ = some (.bool true) := k4.cell 2
        have l3 : w4.cell? ⟨w.heap.size, 3, none⟩ = some (.int .i64 vid) := k4.cell 3
        have l4 : w4.cell? ⟨w.heap.size, 4, none⟩ = some (.int .i64 prio) := k4.cell 4
        have l5 : w4.cell? ⟨w.heap.size, 5, none⟩ = some (.int .i64 0) := k4.cell 5
        have l6 : w4.cell? ⟨w.heap.size, 6, none⟩ = some (.string data) := k4.cell 6
        have m0 : w4.cell? ⟨w.heap.size + 1, 0, none⟩ = some (.int .i64 dst) := q4.cell 0
        have m1 : w4.cell? ⟨w.heap.size + 1, 1, none⟩ = some (.int .i64 src) := q4.cell 1
        have m2 : w4.cell? ⟨w.heap.size + 1, 2, none⟩ = some (.bool true) := q4.cell 2
        have m3 : w4.cell? ⟨w.heap.size + 1, 3, none⟩ = some (.int .i64 vid) := q4.cell 3
        have m4 : w4.cell? ⟨w.heap.size + 1, 4, none⟩ = some (.int .i64 prio) := q4.cell 4
        have m5 : w4.cell? ⟨w.heap.size + 1, 5, none⟩ = some (.int .i64 0) := q4.cell 5
        have m6 : w4.cell? ⟨w.heap.size + 1, 6, none⟩ = some (.string data) := q4.cell 6
        go_wp2_with fail
        refine (bytes_good ⟨dst, src, true, vid, prio, 0, data⟩ _ HC.out ht4).mono ?_
        rw [HS.out]
        rintro e w5 ⟨rfl, b5⟩
        have ht5 := ht4.below b5 ht4.lt
        have k5 := k4.below b5 k4.lt
        have q5 := q4.below b5 q4.lt
        have hb5 := hb4.trans (b5.mono hb4.size)
        clear l0 l1 l2 l3 l4 l5 l6 m0 m1 m2 m3 m4 m5 m6 k4 q4 hb4 ht4 b5
        have l0 : w5.cell? ⟨w.heap.size, 0, none⟩ = some (.int .i64 dst) := k5.cell 0
        have l1 : w5.cell? ⟨w.heap.size, 1, none⟩ = some (.int .i64 src) := k5.cell 1
        have l2 : w5.cell? ⟨w.heap.size, 2, none⟩ = some (.bool true) := k5.cell 2
        have l3 : w5.cell? ⟨w.heap.size, 3, none⟩ = some (.int .i64 vid) := k5.cell 3
        have l4 : w5.cell? ⟨w.heap.size, 4, none⟩ = some (.int .i64 prio) := k5.cell 4
        have l5 : w5.cell? ⟨w.heap.size, 5, none⟩ = some (.int .i64 0) := k5.cell 5
        have l6 : w5.cell? ⟨w.heap.size, 6, none⟩ = some (.string data) := k5.cell 6
        have m0 : w5.cell? ⟨w.heap.size + 1, 0, none⟩ = some (.int .i64 dst) := q5.cell 0
        have m1 : w5.cell? ⟨w.heap.size + 1, 1, none⟩ = some (.int .i64 src) := q5.cell 1
        have m2 : w5.cell? ⟨w.heap.size + 1, 2, none⟩ = some (.bool true) := q5.cell 2
        have m3 : w5.cell? ⟨w.heap.size + 1, 3, none⟩ = some (.int .i64 vid) := q5.cell 3
        have m4 : w5.cell? ⟨w.heap.size + 1, 4, none⟩ = some (.int .i64 prio) := q5.cell 4
        have m5 : w5.cell? ⟨w.heap.size + 1, 5, none⟩ = some (.int .i64 0) := q5.cell 5
        have m6 : w5.cell? ⟨w.heap.size + 1, 6, none⟩ = some (.string data) := q5.cell 6
        go_wp2
        go_ret
        exact ⟨rfl, hb5⟩
      · have hsz2 : ((S.size : Int) == 16 + (data.size : Int) + 4) = true := by rw [beq_iff_eq]; simp [t0] at hsz; omega
        have e0 : (typ == 0) = false := by simpa using t0
        clear hsz t0
        go_enter Tryd.func7, Tryd.ntmps7
        go_wp2_with fail
        refine (alive_any _ ht0).mono ?_
        rintro e w1 ⟨rfl, b1⟩
        have ht1 := ht0.below b1 ht0.lt
        have k1 := hblk.below b1 hblk.lt
        have q1 := hblq.below b1 hblq.lt
        have hb1 := hb0.trans (b1.mono hb0.size)
        have l0 : w1.cell? ⟨w.heap.size, 0, none⟩ = some (.int .i64 dst) := k1.cell 0
        have l1 : w1.cell? ⟨w.heap.size, 1, none⟩ = some (.int .i64 src) := k1.cell 1
        have l2 : w1.cell? ⟨w.heap.size, 2, none⟩ = some (.bool true) := k1.cell 2
        have l3 : w1.cell? ⟨w.heap.size, 3, none⟩ = some (.int .i64 vid) := k1.cell 3
        have l4 : w1.cell? ⟨w.heap.size, 4, none⟩ = some (.int .i64 prio) := k1.cell 4
        have l5 : w1.cell? ⟨w.heap.size, 5, none⟩ = some (.int .i64 typ) := k1.cell 5
        have l6 : w1.cell? ⟨w.heap.size, 6, none⟩ = some (.string data) := k1.cell 6
        have m0 : w1.cell? ⟨w.heap.size + 1, 0, none⟩ = some (.int .i64 dst) := q1.cell 0
        have m1 : w1.cell? ⟨w.heap.size + 1, 1, none⟩ = some (.int .i64 src) := q1.cell 1
        have m2 : w1.cell? ⟨w.heap.size + 1, 2, none⟩ = some (.bool true) := q1.cell 2
        have m3 : w1.cell? ⟨w.heap.size + 1, 3, none⟩ = some (.int .i64 vid) := q1.cell 3
        have m4 : w1.cell? ⟨w.heap.size + 1, 4, none⟩ = some (.int .i64 prio) := q1.cell 4
        have m5 : w1.cell? ⟨w.heap.size + 1, 5, none⟩ = some (.int .i64 typ) := q1.cell 5
        have m6 : w1.cell? ⟨w.heap.size + 1, 6, none⟩ = some (.string data) := q1.cell 6
        go_wp2_with fail
        refine (rgood_any ⟨dst, src, true, vid, prio, typ, data⟩ _).mono ?_
        rw [HB.out]
        rintro e w2 ⟨rfl, b2⟩
        have ht2 := ht1.below b2 ht1.lt
        have k2 := k1.below b2 k1.lt
        have q2 := q1.below b2 q1.lt
        have hb2 := hb1.trans (b2.mono hb1.size)
        clear l0 l1 l2 l3 l4 l5 l6 m0 m1 m2 m3 m4 m5 m6 k1 q1 hb1 ht1 b2
        have l0 : w2.cell? ⟨w.heap.size, 0, none⟩ = some (.int .i64 dst) := k2.cell 0
        have l1 : w2.cell? ⟨w.heap.size, 1, none⟩ = some (.int .i64 src) := k2.cell 1
        have l2 : w2.cell? ⟨w.heap.size, 2, none⟩ = some (.bool true) := k2.cell 2
        have l3 : w2.cell? ⟨w.heap.size, 3, none⟩ = some (.int .i64 vid) := k2.cell 3
        have l4 : w2.cell? ⟨w.heap.size, 4, none⟩ = some (.int .i64 prio) := k2.cell 4
        have l5 : w2.cell? ⟨w.heap.size, 5, none⟩ = some (.int .i64 typ) := k2.cell 5
        have l6 : w2.cell? ⟨w.heap.size, 6, none⟩ = some (.string data) := k2.cell 6
        have m0 : w2.cell? ⟨w.heap.size + 1, 0, none⟩ = some (.int .i64 dst) := q2.cell 0
        have m1 : w2.cell? ⟨w.heap.size + 1, 1, none⟩ = some (.int .i64 src) := q2.cell 1
        have m2 : w2.cell? ⟨w.heap.size + 1, 2, none⟩ = some (.bool true) := q2.cell 2
        have m3 : w2.cell? ⟨w.heap.size + 1, 3, none⟩ = some (.int .i64 vid) := q2.cell 3
        have m4 : w2.cell? ⟨w.heap.size + 1, 4, none⟩ = some (.int .i64 prio) := q2.cell 4
        have m5 : w2.cell? ⟨w.heap.size + 1, 5, none⟩ = some (.int .i64 typ) := q2.cell 5
        have m6 : w2.cell? ⟨w.heap.size + 1, 6, none⟩ = some (.string data) := q2.cell 6
        go_wp2_with fail
        refine (rgood_any ⟨dst, src, true, vid, prio, typ, data⟩ _).mono ?_
        rw [HC.out]
        rintro e w3 ⟨rfl, b3⟩
        have ht3 := ht2.below b3 ht2.lt
        have k3 := k2.below b3 k2.lt
        have q3 := q2.below b3 q2.lt
        have hb3 := hb2.trans (b3.mono hb2.size)
        clear l0 l1 l2 l3 l4 l5 l6 m0 m1 m2 m3 m4 m5 m6 k2 q2 hb2 ht2 b3
        have l0 : w3.cell? ⟨w.heap.size, 0, none⟩ = some (.int .i64 dst) := k3.cell 0
        have l1 : w3.cell? ⟨w.heap.size, 1, none⟩ = some (.int .i64 src) := k3.cell 1
        have l2 : w3.cell? ⟨w.heap.size, 2, none⟩ = some (.bool true) := k3.cell 2
        have l3 : w3.cell? ⟨w.heap.size, 3, none⟩ = some (.int .i64 vid) := k3.cell 3
        have l4 : w3.cell? ⟨w.heap.size, 4, none⟩ = some (.int .i64 prio) := k3.cell 4
        have l5 : w3.cell? ⟨w.heap.size, 5, none⟩ = some (.int .i64 typ) := k3.cell 5
        have l6 : w3.cell? ⟨w.heap.size, 6, none⟩ = some (.string data) := k3.cell 6
        have m0 : w3.cell? ⟨w.heap.size + 1, 0, none⟩ = some (.int .i64 dst) := q3.cell 0
        have m1 : w3.cell? ⟨w.heap.size + 1, 1, none⟩ = some (.int .i64 src) := q3.cell 1
        have m2 : w3.cell? ⟨w.heap.size + 1, 2, none⟩ = some (.bool true) := q3.cell 2
        have m3 : w3.cell? ⟨w.heap.size + 1, 3, none⟩ = some (.int .i64 vid) := q3.cell 3
        have m4 : w3.cell? ⟨w.heap.size + 1, 4, none⟩ = some (.int .i64 prio) := q3.cell 4
        have m5 : w3.cell? ⟨w.heap.size + 1, 5, none⟩ = some (.int .i64 typ) := q3.cell 5
        have m6 : w3.cell? ⟨w.heap.size + 1, 6, none⟩ = some (.string data) := q3.cell 6
        go_wp2_with fail
        refine (bytes_good ⟨dst, src, true, vid, prio, typ, data⟩ _ HB.out ht3).mono ?_
        rw [HS.out]
        rintro e w4 ⟨rfl, b4⟩
        have ht4 := ht3.below b4 ht3.lt
        have k4 := k3.below b4 k3.lt
        have q4 := q3.below b4 q3.lt
        have hb4 := hb3.trans (b4.mono hb3.size)
        clear l0 l1 l2 l3 l4 l5 l6 m0 m1 m2 m3 m4 m5 m6 k3 q3 hb3 ht3 b4
        have l0 : w4.cell? ⟨w.heap.size, 0, none⟩ = some (.int .i64 dst) := k4.cell 0
        have l1 : w4.cell? ⟨w.heap.size, 1, none⟩ = some (.int .i64 src) := k4.cell 1
        have l2 : w4.cell? ⟨w.heap.size, 2, none⟩ = some (.bool true) := k4.cell 2
        have l3 : w4.cell? ⟨w.heap.size, 3, none⟩ = some (.int .i64 vid) := k4.cell 3
        have l4 : w4.cell? ⟨w.heap.size, 4, none⟩ = some (.int .i64 prio) := k4.cell 4
        have l5 : w4.cell? ⟨w.heap.size, 5, none⟩ = some (.int .i64 typ) := k4.cell 5
        have l6 : w4.cell? ⟨w.heap.size, 6, none⟩ = some (.string data) := k4.cell 6
        have m0 : w4.cell? ⟨w.heap.size + 1, 0, none⟩ = some (.int .i64 dst) := q4.cell 0
        have m1 : w4.cell? ⟨w.heap.size + 1, 1, none⟩ = some (.int .i64 src) := q4.cell 1
        have m2 : w4.cell? ⟨w.heap.size + 1, 2, none⟩ = some (.bool true) := q4.cell 2
        have m3 : w4.cell? ⟨w.heap.size + 1, 3, none⟩ = some (.int .i64 vid) := q4.cell 3
        have m4 : w4.cell? ⟨w.heap.size + 1, 4, none⟩ = some (.int .i64 prio) := q4.cell 4
        have m5 : w4.cell? ⟨w.heap.size + 1, 5, none⟩ = some (.int .i64 typ) := q4.cell 5
        have m6 : w4.cell? ⟨w.heap.size + 1, 6, none⟩ = some (.string data) := q4.cell 6
        go_wp2_with fail
        refine (bytes_good ⟨dst, src, true, vid, prio, typ, data⟩ _ HC.out ht4).mono ?_
        rw [HS.out]
        rintro e w5 ⟨rfl, b5⟩
        have ht5 := ht4.below b5 ht4.lt
        have k5 := k4.below b5 k4.lt
        have q5 := q4.below b5 q4.lt
        have hb5 := hb4.trans (b5.mono hb4.size)
        clear l0 l1 l2 l3 l4 l5 l6 m0 m1 m2 m3 m4 m5 m6 k4 q4 hb4 ht4 b5
        have l0 : w5.cell? ⟨w.heap.size, 0, none⟩ = some (.int .i64 dst) := k5.cell 0
        have l1 : w5.cell? ⟨w.heap.size, 1, none⟩ = some (.int .i64 src) := k5.cell 1
        have l2 : w5.cell? ⟨w.heap.size, 2, none⟩ = some (.bool true) := k5.cell 2
        have l3 : w5.cell? ⟨w.heap.size, 3, none⟩ = some (.int .i64 vid) := k5.cell 3
        have l4 : w5.cell? ⟨w.heap.size, 4, none⟩ = some (.int .i64 prio) := k5.cell 4
        have l5 : w5.cell? ⟨w.heap.size, 5, none⟩ = some (.int .i64 typ) := k5.cell 5
        have l6 : w5.cell? ⟨w.heap.size, 6, none⟩ = some (.string data) := k5.cell 6
        have m0 : w5.cell? ⟨w.heap.size + 1, 0, none⟩ = some (.int .i64 dst) := q5.cell 0
        have m1 : w5.cell? ⟨w.heap.size + 1, 1, none⟩ = some (.int .i64 src) := q5.cell 1
        have m2 : w5.cell? ⟨w.heap.size + 1, 2, none⟩ = some (.bool true) := q5.cell 2
        have m3 : w5.cell? ⟨w.heap.size + 1, 3, none⟩ = some (.int .i64 vid) := q5.cell 3
        have m4 : w5.cell? ⟨w.heap.size + 1, 4, none⟩ = some (.int .i64 prio) := q5.cell 4
        have m5 : w5.cell? ⟨w.heap.size + 1, 5, none⟩ = some (.int .i64 typ) := q5.cell 5
        have m6 : w5.cell? ⟨w.heap.size + 1, 6, none⟩ = some (.string data) := q5.cell 6
        go_wp2
        go_ret
        exact ⟨rfl, hb5⟩
  · obtain ⟨T, HT⟩ : ∃ T, Hid (str (Crc.sealed (Fr.raw ⟨dst', src', tagged', vid', prio', typ', data'⟩)) = T) := ⟨_, Lib.hid rfl⟩
    have hun := bytes_unlike HB.out HC.out hq
    rw [HS.out, HT.out] at hun
    have hun2 := unlike_lists hun
    have HQ : Unlike _ _ := hq
    clear hun hq
    cases tagged
    · by_cases t0 : typ = 0
      · have hsz2 : ((S.size : Int) == 16 + (data.size : Int) + 3) = true := by rw [beq_iff_eq]; simp [t0] at hsz; omega
        subst t0
        clear hsz
        go_enter Tryd.func7, Tryd.ntmps7
        go_wp2_with fail
        refine (alive_any _ ht0).mono ?_
        rintro e w1 ⟨rfl, b1⟩
        have ht1 := ht0.below b1 ht0.lt
        have k1 := hblk.below b1 hblk.lt
        have q1 := hblq.below b1 hblq.lt
        have hb1 := hb0.trans (b1.mono hb0.size)
        have l0 : w1.cell? ⟨w.heap.size, 0, none⟩ = some (.int .i64 dst) := k1.cell 0
        have l1 : w1.cell? ⟨w.heap.size, 1, none⟩ = some (.int .i64 src) := k1.cell 1
        have l2 : w1.cell? ⟨w.heap.size, 2, none⟩ = some (.bool false) := k1.cell 2
        have l3 : w1.cell? ⟨w.heap.size, 3, none⟩ = some (.int .i64 vid) := k1.cell 3
        have l4 : w1.cell? ⟨w.heap.size, 4, none⟩ = some (.int .i64 prio) := k1.cell 4
        have l5 : w1.cell? ⟨w.heap.size, 5, none⟩ = some (.int .i64 0) := k1.cell 5
        have l6 : w1.cell? ⟨w.heap.size, 6, none⟩ = some (.string data) := k1.cell 6
        have m0 : w1.cell? ⟨w.heap.size + 1, 0, none⟩ = some (.int .i64 dst') := q1.cell 0
        have m1 : w1.cell? ⟨w.heap.size + 1, 1, none⟩ = some (.int .i64 src') := q1.cell 1
        have m2 : w1.cell? ⟨w.heap.size + 1, 2, none⟩ = some (.bool tagged') := q1.cell 2
        have m3 : w1.cell? ⟨w.heap.size + 1, 3, none⟩ = some (.int .i64 vid') := q1.cell 3
        have m4 : w1.cell? ⟨w.heap.size + 1, 4, none⟩ = some (.int .i64 prio') := q1.cell 4
        have m5 : w1.cell? ⟨w.heap.size + 1, 5, none⟩ = some (.int .i64 typ') := q1.cell 5
        have m6 : w1.cell? ⟨w.heap.size + 1, 6, none⟩ = some (.string data') := q1.cell 6
        go_wp2_with fail
        refine (rgood_any ⟨dst, src, false, vid, prio, 0, data⟩ _).mono ?_
        rw [HB.out]
        rintro e w2 ⟨rfl, b2⟩
        have ht2 := ht1.below b2 ht1.lt
        have k2 := k1.below b2 k1.lt
        have q2 := q1.below b2 q1.lt
        have hb2 := hb1.trans (b2.mono hb1.size)
        clear l0 l1 l2 l3 l4 l5 l6 m0 m1 m2 m3 m4 m5 m6 k1 q1 hb1 ht1 b2
        have l0 : w2.cell? ⟨w.heap.size, 0, none⟩ = some (.int .i64 dst) := k2.cell 0
        have l1 : w2.cell? ⟨w.heap.size, 1, none⟩ = some (.int .i64 src) := k2.cell 1
        have l2 : w2.cell? ⟨w.heap.size, 2, none⟩ = some (.bool false) := k2.cell 2
        have l3 : w2.cell? ⟨w.heap.size, 3, none⟩ = some (.int .i64 vid) := k2.cell 3
        have l4 : w2.cell? ⟨w.heap.size, 4, none⟩ = some (.int .i64 prio) := k2.cell 4
        have l5 : w2.cell? ⟨w.heap.size, 5, none⟩ = some (.int .i64 0) := k2.cell 5
        have l6 : w2.cell? ⟨w.heap.size, 6, none⟩ = some (.string data) := k2.cell 6
        have m0 : w2.cell? ⟨w.heap.size + 1, 0, none⟩ = some (.int .i64 dst') := q2.cell 0
        have m1 : w2.cell? ⟨w.heap.size + 1, 1, none⟩ = some (.int .i64 src') := q2.cell 1
        have m2 : w2.cell? ⟨w.heap.size + 1, 2, none⟩ = some (.bool tagged') := q2.cell 2
        have m3 : w2.cell? ⟨w.heap.size + 1, 3, none⟩ = some (.int .i64 vid') := q2.cell 3
        have m4 : w2.cell? ⟨w.heap.size + 1, 4, none⟩ = some (.int .i64 prio') := q2.cell 4
        have m5 : w2.cell? ⟨w.heap.size + 1, 5, none⟩ = some (.int .i64 typ') := q2.cell 5
        have m6 : w2.cell? ⟨w.heap.size + 1, 6, none⟩ = some (.string data') := q2.cell 6
        go_wp2_with fail
        refine (rgood_any ⟨dst', src', tagged', vid', prio', typ', data'⟩ _).mono ?_
        rw [HC.out]
        rintro e w3 ⟨rfl, b3⟩
        have ht3 := ht2.below b3 ht2.lt
        have k3 := k2.below b3 k2.lt
        have q3 := q2.below b3 q2.lt
        have hb3 := hb2.trans (b3.mono hb2.size)
        clear l0 l1 l2 l3 l4 l5 l6 m0 m1 m2 m3 m4 m5 m6 k2 q2 hb2 ht2 b3
        have l0 : w3.cell? ⟨w.heap.size, 0, none⟩ = some (.int .i64 dst) := k3.cell 0
        have l1 : w3.cell? ⟨w.heap.size, 1, none⟩ = some (.int .i64 src) := k3.cell 1
        have l2 : w3.cell? ⟨w.heap.size, 2, none⟩ = some (.bool false) := k3.cell 2
        have l3 : w3.cell? ⟨w.heap.size, 3, none⟩ = some (.int .i64 vid) := k3.cell 3
        have l4 : w3.cell? ⟨w.heap.size, 4, none⟩ = some (.int .i64 prio) := k3.cell 4
        have l5 : w3.cell? ⟨w.heap.size, 5, none⟩ = some (.int .i64 0) := k3.cell 5
        have l6 : w3.cell? ⟨w.heap.size, 6, none⟩ = some (.string data) := k3.cell 6
        have m0 : w3.cell? ⟨w.heap.size + 1, 0, none⟩ = some (.int .i64 dst') := q3.cell 0
        have m1 : w3.cell? ⟨w.heap.size + 1, 1, none⟩ = some (.int .i64 src') := q3.cell 1
        have m2 : w3.cell? ⟨w.heap.size + 1, 2, none⟩ = some (.bool tagged') := q3.cell 2
        have m3 : w3.cell? ⟨w.heap.size + 1, 3, none⟩ = some (.int .i64 vid') := q3.cell 3
        have m4 : w3.cell? ⟨w.heap.size + 1, 4, none⟩ = some (.int .i64 prio') := q3.cell 4
        have m5 : w3.cell? ⟨w.heap.size + 1, 5, none⟩ = some (.int .i64 typ') := q3.cell 5
        have m6 : w3.cell? ⟨w.heap.size + 1, 6, none⟩ = some (.string data') := q3.cell 6
        go_wp2_with fail
        refine (bytes_good ⟨dst, src, false, vid, prio, 0, data⟩ _ HB.out ht3).mono ?_
        rw [HS.out]
        rintro e w4 ⟨rfl, b4⟩
        have ht4 := ht3.below b4 ht3.lt
        have k4 := k3.below b4 k3.lt
        have q4 := q3.below b4 q3.lt
        have hb4 := hb3.trans (b4.mono hb3.size)
        clear l0 l1 l2 l3 l4 l5 l6 m0 m1 m2 m3 m4 m5 m6 k3 q3 hb3 ht3 b4
        have l0 : w4.cell? ⟨w.heap.size, 0, none⟩ = some (.int .i64 dst) := k4.cell 0
        have l1 : w4.cell? ⟨w.heap.size, 1, none⟩ = some (.int .i64 src) := k4.cell 1
        have l2 : w4.cell? ⟨w.heap.size, 2, none⟩ = some (.bool false) := k4.cell 2
        have l3 : w4.cell? ⟨w.heap.size, 3, none⟩ = some (.int .i64 vid) := k4.cell 3
        have l4 : w4.cell? ⟨w.heap.size, 4, none⟩ = some (.int .i64 prio) := k4.cell 4
        have l5 : w4.cell? ⟨w.heap.size, 5, none⟩ = some (.int .i64 0) := k4.cell 5
        have l6 : w4.cell? ⟨w.heap.size, 6, none⟩ = some (.string data) := k4.cell 6
        have m0 : w4.cell? ⟨w.heap.size + 1, 0, none⟩ = some (.int .i64 dst') := q4.cell 0
        have m1 : w4.cell? ⟨w.heap.size + 1, 1, none⟩ = some (.int .i64 src') := q4.cell 1
        have m2 : w4.cell? ⟨w.heap.size + 1, 2, none⟩ = some (.bool tagged') := q4.cell 2
        have m3 : w4.cell? ⟨w.heap.size + 1, 3, none⟩ = some (.int .i64 vid') := q4.cell 3
        have m4 : w4.cell? ⟨w.heap.size + 1, 4, none⟩ = some (.int .i64 prio') := q4.cell 4
        have m5 : w4.cell? ⟨w.heap.size + 1, 5, none⟩ = some (.int .i64 typ') := q4.cell 5
        have m6 : w4.cell? ⟨w.heap.size + 1, 6, none⟩ = some (.string data') := q4.cell 6
        go_wp2_with fail
        refine (bytes_good ⟨dst', src', tagged', vid', prio', typ', data'⟩ _ HC.out ht4).mono ?_
        rw [HT.out]
        rintro e w5 ⟨rfl, b5⟩
        have ht5 := ht4.below b5 ht4.lt
        have k5 := k4.below b5 k4.lt
        have q5 := q4.below b5 q4.lt
        have hb5 := hb4.trans (b5.mono hb4.size)
        clear l0 l1 l2 l3 l4 l5 l6 m0 m1 m2 m3 m4 m5 m6 k4 q4 hb4 ht4 b5
        have l0 : w5.cell? ⟨w.heap.size, 0, none⟩ = some (.int .i64 dst) := k5.cell 0
        have l1 : w5.cell? ⟨w.heap.size, 1, none⟩ = some (.int .i64 src) := k5.cell 1
        have l2 : w5.cell? ⟨w.heap.size, 2, none⟩ = some (.bool false) := k5.cell 2
        have l3 : w5.cell? ⟨w.heap.size, 3, none⟩ = some (.int .i64 vid) := k5.cell 3
        have l4 : w5.cell? ⟨w.heap.size, 4, none⟩ = some (.int .i64 prio) := k5.cell 4
        have l5 : w5.cell? ⟨w.heap.size, 5, none⟩ = some (.int .i64 0) := k5.cell 5
        have l6 : w5.cell? ⟨w.heap.size, 6, none⟩ = some (.string data) := k5.cell 6
        have m0 : w5.cell? ⟨w.heap.size + 1, 0, none⟩ = some (.int .i64 dst') := q5.cell 0
        have m1 : w5.cell? ⟨w.heap.size + 1, 1, none⟩ = some (.int .i64 src') := q5.cell 1
        have m2 : w5.cell? ⟨w.heap.size + 1, 2, none⟩ = some (.bool tagged') := q5.cell 2
        have m3 : w5.cell? ⟨w.heap.size + 1, 3, none⟩ = some (.int .i64 vid') := q5.cell 3
        have m4 : w5.cell? ⟨w.heap.size + 1, 4, none⟩ = some (.int .i64 prio') := q5.cell 4
        have m5 : w5.cell? ⟨w.heap.size + 1, 5, none⟩ = some (.int .i64 typ') := q5.cell 5
        have m6 : w5.cell? ⟨w.heap.size + 1, 6, none⟩ = some (.string data') := q5.cell 6
        go_wp2
        all_goals first
          | (go_ret; exact ⟨rfl, hb5⟩)
          | (exfalso; rename_i a1 a2 a3 a4 a5 a6 a7; exact HQ.absurd a1 a2 (by revert a3; cases tagged' <;> simp) a4 a5 a6 a7)
      · have hsz2 : ((S.size : Int) == 16 + (data.size : Int)) = true := by rw [beq_iff_eq]; simp [t0] at hsz; omega
        have e0 : (typ == 0) = false := by simpa using t0
        clear hsz t0
        go_enter Tryd.func7, Tryd.ntmps7
        go_wp2_with fail
        refine (alive_any _ ht0).mono ?_
        rintro e w1 ⟨rfl, b1⟩
        have ht1 := ht0.below b1 ht0.lt
        have k1 := hblk.below b1 hblk.lt
        have q1 := hblq.below b1 hblq.lt
        have hb1 := hb0.trans (b1.mono hb0.size)
        have l0 : w1.cell? ⟨w.heap.size, 0, none⟩ = some (.int .i64 dst) := k1.cell 0
        have l1 : w1.cell? ⟨w.heap.size, 1, none⟩ = some (.int .i64 src) := k1.cell 1
        have l2 : w1.cell? ⟨w.heap.size, 2, none⟩ = some (.bool false) := k1.cell 2
        have l3 : w1.cell? ⟨w.heap.size, 3, none⟩ = some (.int .i64 vid) := k1.cell 3
        have l4 : w1.cell? ⟨w.heap.size, 4, none⟩ = some (.int .i64 prio) := k1.cell 4
        have l5 : w1.cell? ⟨w.heap.size, 5, none⟩ = some (.int .i64 typ) := k1.cell 5
        have l6 : w1.cell? ⟨w.heap.size, 6, none⟩ = some (.string data) := k1.cell 6
        have m0 : w1.cell? ⟨w.heap.size + 1, 0, none⟩ = some (.int .i64 dst') := q1.cell 0
        have m1 : w1.cell? ⟨w.heap.size + 1, 1, none⟩ = some (.int .i64 src') := q1.cell 1
        have m2 : w1.cell? ⟨w.heap.size + 1, 2, none⟩ = some (.bool tagged') := q1.cell 2
        have m3 : w1.cell? ⟨w.heap.size + 1, 3, none⟩ = some (.int .i64 vid') := q1.cell 3
        have m4 : w1.cell? ⟨w.heap.size + 1, 4, none⟩ = some (.int .i64 prio') := q1.cell 4
        have m5 : w1.cell? ⟨w.heap.size + 1, 5, none⟩ = some (.int .i64 typ') := q1.cell 5
        have m6 : w1.cell? ⟨w.heap.size + 1, 6, none⟩ = some (.string data') := q1.cell 6
        go_wp2_with fail
        refine (rgood_any ⟨dst, src, false, vid, prio, typ, data⟩ _).mono ?_
        rw [HB.out]
        rintro e w2 ⟨rfl, b2⟩
        have ht2 := ht1.below b2 ht1.lt
        have k2 := k1.below b2 k1.lt
        have q2 := q1.below b2 q1.lt
        have hb2 := hb1.trans (b2.mono hb1.size)
        clear l0 l1 l2 l3 l4 l5 l6 m0 m1 m2 m3 m4 m5 m6 k1 q1 hb1 ht1 b2
        have l0 : w2.cell? ⟨w.heap.size, 0, none⟩ = some (.int .i64 dst) := k2.cell 0
        have l1 : w2.cell? ⟨w.heap.size, 1, none⟩ = some (.int .i64 src) := k2.cell 1
        have l2 : w2.cell? ⟨w.heap.size, 2, none⟩ = some (.bool false) := k2.cell 2
        have l3 : w2.cell? ⟨w.heap.size, 3, none⟩ = some (.int .i64 vid) := k2.cell 3
        have l4 : w2.cell? ⟨w.heap.size, 4, none⟩ = some (.int .i64 prio) := k2.cell 4
        have l5 : w2.cell? ⟨w.heap.size, 5, none⟩ = some (.int .i64 typ) := k2.cell 5
        have l6 : w2.cell? ⟨w.heap.size, 6, none⟩ = some (.string data) := k2.cell 6
        have m0 : w2.cell? ⟨w.heap.size + 1, 0, none⟩ = some (.int .i64 dst') := q2.cell 0
        have m1 : w2.cell? ⟨w.heap.size + 1, 1, none⟩ = some (.int .i64 src') := q2.cell 1
        have m2 : w2.cell? ⟨w.heap.size + 1, 2, none⟩ = some (.bool tagged') := q2.cell 2
        have m3 : w2.cell? ⟨w.heap.size + 1, 3, none⟩ = some (.int .i64 vid') := q2.cell 3
        have m4 : w2.cell? ⟨w.heap.size + 1, 4, none⟩ = some (.int .i64 prio') := q2.cell 4
        have m5 : w2.cell? ⟨w.heap.size + 1, 5, none⟩ = some (.int .i64 typ') := q2.cell 5
        have m6 : w2.cell? ⟨w.heap.size + 1, 6, none⟩ = some (.string data') := q2.cell 6
        go_wp2_with fail
        refine (rgood_any ⟨dst', src', tagged', vid', prio', typ', data'⟩ _).mono ?_
        rw [HC.out]
        rintro e w3 ⟨rfl, b3⟩
        have ht3 := ht2.below b3 ht2.lt
        have k3 := k2.below b3 k2.lt
        have q3 := q2.below b3 q2.lt
        have hb3 := hb2.trans (b3.mono hb2.size)
        clear l0 l1 l2 l3 l4 l5 l6 m0 m1 m2 m3 m4 m5 m6 k2 q2 hb2 ht2 b3
        have l0 : w3.cell? ⟨w.heap.size, 0, none⟩ = some (.int .i64 dst) := k3.cell 0
        have l1 : w3.cell? ⟨w.heap.size, 1, none⟩ = some (.int .i64 src) := k3.cell 1
        have l2 : w3.cell? ⟨w.heap.size, 2, none⟩ = some (.bool false) := k3.cell 2
        have l3 : w3.cell? ⟨w.heap.size, 3, none⟩ = some (.int .i64 vid) := k3.cell 3
        have l4 : w3.cell? ⟨w.heap.size, 4, none⟩ = some (.int .i64 prio) := k3.cell 4
        have l5 : w3.cell? ⟨w.heap.size, 5, none⟩ = some (.int .i64 typ) := k3.cell 5
        have l6 : w3.cell? ⟨w.heap.size, 6, none⟩ = some (.string data) := k3.cell 6
        have m0 : w3.cell? ⟨w.heap.size + 1, 0, none⟩ = some (.int .i64 dst') := q3.cell 0
        have m1 : w3.cell? ⟨w.heap.size + 1, 1, none⟩ = some (.int .i64 src') := q3.cell 1
        have m2 : w3.cell? ⟨w.heap.size + 1, 2, none⟩ = some (.bool tagged') := q3.cell 2
        have m3 : w3.cell? ⟨w.heap.size + 1, 3, none⟩ = some (.int .i64 vid') := q3.cell 3
        have m4 : w3.cell? ⟨w.heap.size + 1, 4, none⟩ = some (.int .i64 prio') := q3.cell 4
        have m5 : w3.cell? ⟨w.heap.size + 1, 5, none⟩ = some (.int .i64 typ') := q3.cell 5
        have m6 : w3.cell? ⟨w.heap.size + 1, 6, none⟩ = some (.string data') := q3.cell 6
        go_wp2_with fail
        refine (bytes_good ⟨dst, src, false, vid, prio, typ, data⟩ _ HB.out ht3).mono ?_
        rw [HS.out]
        rintro e w4 ⟨rfl, b4⟩
        have ht4 := ht3.below b4 ht3.lt
        have k4 := k3.below b4 k3.lt
        have q4 := q3.below b4 q3.lt
        have hb4 := hb3.trans (b4.mono hb3.size)
        clear l0 l1 l2 l3 l4 l5 l6 m0 m1 m2 m3 m4 m5 m6 k3 q3 hb3 ht3 b4
        have l0 : w4.cell? ⟨w.heap.size, 0, none⟩ = some (.int .i64 dst) := k4.cell 0
        have l1 : w4.cell? ⟨w.heap.size, 1, none⟩ = some (.int .i64 src) := k4.cell 1
        have l2 : w4.cell? ⟨w.heap.size, 2, none⟩ = some (.bool false) := k4.cell 2
        have l3 : w4.cell? ⟨w.heap.size, 3, none⟩ = some (.int .i64 vid) := k4.cell 3
        have l4 : w4.cell? ⟨w.heap.size, 4, none⟩ = some (.int .i64 prio) := k4.cell 4
        have l5 : w4.cell? ⟨w.heap.size, 5, none⟩ = some (.int .i64 typ) := k4.cell 5
        have l6 : w4.cell? ⟨w.heap.size, 6, none⟩ = some (.string data) := k4.cell 6
        have m0 : w4.cell? ⟨w.heap.size + 1, 0, none⟩ = some (.int .i64 dst') := q4.cell 0
        have m1 : w4.cell? ⟨w.heap.size + 1, 1, none⟩ = some (.int .i64 src') := q4.cell 1
        have m2 : w4.cell? ⟨w.heap.size + 1, 2, none⟩ = some (.bool tagged') := q4.cell 2
        have m3 : w4.cell? ⟨w.heap.size + 1, 3, none⟩ = some (.int .i64 vid') := q4.cell 3
        have m4 : w4.cell? ⟨w.heap.size + 1, 4, none⟩ = some (.int .i64 prio') := q4.cell 4
        have m5 : w4.cell? ⟨w.heap.size + 1, 5, none⟩ = some (.int .i64 typ') := q4.cell 5
        have m6 : w4.cell? ⟨w.heap.size + 1, 6, none⟩ = some (.string data') := q4.cell 6
        go_wp2_with fail
        refine (bytes_good ⟨dst', src', tagged', vid', prio', typ', data'⟩ _ HC.out ht4).mono ?_
        rw [HT.out]
        rintro e w5 ⟨rfl, b5⟩
        have ht5 := ht4.below b5 ht4.lt
        have k5 := k4.below b5 k4.lt
        have q5 := q4.below b5 q4.lt
        have hb5 := hb4.trans (b5.mono hb4.size)
        clear l0 l1 l2 l3 l4 l5 l6 m0 m1 m2 m3 m4 m5 m6 k4 q4 hb4 ht4 b5
        have l0 : w5.cell? ⟨w.heap.size, 0, none⟩ = some (.int .i64 dst) := k5.cell 0
        have l1 : w5.cell? ⟨w.heap.size, 1, none⟩ = some (.int .i64 src) := k5.cell 1
        have l2 : w5.cell? ⟨w.heap.size, 2, none⟩ = some (.bool false) := k5.cell 2
        have l3 : w5.cell? ⟨w.heap.size, 3, none⟩ = some (.int .i64 vid) := k5.cell 3
        have l4 : w5.cell? ⟨w.heap.size, 4, none⟩ = some (.int .i64 prio) := k5.cell 4
        have l5 : w5.cell? ⟨w.heap.size, 5, none⟩ = some (.int .i64 typ) := k5.cell 5
        have l6 : w5.cell? ⟨w.heap.size, 6, none⟩ = some (.string data) := k5.cell 6
        have m0 : w5.cell? ⟨w.heap.size + 1, 0, none⟩ = some (.int .i64 dst') := q5.cell 0
        have m1 : w5.cell? ⟨w.heap.size + 1, 1, none⟩ = some (.int .i64 src') := q5.cell 1
        have m2 : w5.cell? ⟨w.heap.size + 1, 2, none⟩ = some (.bool tagged') := q5.cell 2
        have m3 : w5.cell? ⟨w.heap.size + 1, 3, none⟩ = some (.int .i64 vid') := q5.cell 3
        have m4 : w5.cell? ⟨w.heap.size + 1, 4, none⟩ = some (.int .i64 prio') := q5.cell 4
        have m5 : w5.cell? ⟨w.heap.size + 1, 5, none⟩ = some (.int .i64 typ') := q5.cell 5
        have m6 : w5.cell? ⟨w.heap.size + 1, 6, none⟩ = some (.string data') := q5.cell 6
        go_wp2
        all_goals first
          | (go_ret; exact ⟨rfl, hb5⟩)
          | (exfalso; rename_i a1 a2 a3 a4 a5 a6 a7; exact HQ.absurd a1 a2 (by revert a3; cases tagged' <;> simp) a4 a5 a6 a7)
    · by_cases t0 : typ = 0
      · have hsz2 : ((S.size : Int) == 16 + (data.size : Int) + 4 + 3) = true := by rw [beq_iff_eq]; simp [t0] at hsz; omega
        subst t0
        clear hsz
        go_enter Tryd.func7, Tryd.ntmps7
        go_wp2_with fail
        refine (alive_any _ ht0).mono ?_
        rintro e w1 ⟨rfl, b1⟩
        have ht1 := ht0.below b1 ht0.lt
        have k1 := hblk.below b1 hblk.lt
        have q1 := hblq.below b1 hblq.lt
        have hb1 := hb0.trans (b1.mono hb0.size)
        have l0 : w1.cell? ⟨w.heap.size, 0, none⟩ = some (.int .i64 dst) := k1.cell 0
        have l1 : w1.cell? ⟨w.heap.size, 1, none⟩ = some (.int .i64 src) := k1.cell 1
        have l2 : w1.cell? ⟨w.heap.size, 2, none⟩ = some (.bool true) := k1.cell 2
        have l3 : w1.cell? ⟨w.heap.size, 3, none⟩ = some (.int .i64 vid) := k1.cell 3
        have l4 : w1.cell? ⟨w.heap.size, 4, none⟩ = some (.int .i64 prio) := k1.cell 4
        have l5 : w1.cell? ⟨w.heap.size, 5, none⟩ = some (.int .i64 0) := k1.cell 5
        have l6 : w1.cell? ⟨w.heap.size, 6, none⟩ = some (.string data) := k1.cell 6
        have m0 : w1.cell? ⟨w.heap.size + 1, 0, none⟩ = some (.int .i64 dst') := q1.cell 0
        have m1 : w1.cell? ⟨w.heap.size + 1, 1, none⟩ = some (.int .i64 src') := q1.cell 1
        have m2 : w1.cell? ⟨w.heap.size + 1, 2, none⟩ = some (.bool tagged') := q1.cell 2
        have m3 : w1.cell? ⟨w.heap.size + 1, 3, none⟩ = some (.int .i64 vid') := q1.cell 3
        have m4 : w1.cell? ⟨w.heap.size + 1, 4, none⟩ = some (.int .i64 prio') := q1.cell 4
        have m5 : w1.cell? ⟨w.heap.size + 1, 5, none⟩ = some (.int .i64 typ') := q1.cell 5
        have m6 : w1.cell? ⟨w.heap.size + 1, 6, none⟩ = some (.string data') := q1.cell 6
        go_wp2_with fail
        refine (rgood_any ⟨dst, src, true, vid, prio, 0, data⟩ _).mono ?_
        rw [HB.out]
        rintro e w2 ⟨rfl, b2⟩
        have ht2 := ht1.below b2 ht1.lt
        have k2 := k1.below b2 k1.lt
        have q2 := q1.below b2 q1.lt
        have hb2 := hb1.trans (b2.mono hb1.size)
        clear l0 l1 l2 l3 l4 l5 l6 m0 m1 m2 m3 m4 m5 m6 k1 q1 hb1 ht1 b2
        have l0 : w2.cell? ⟨w.heap.size, 0, none⟩ = some (.int .i64 dst) := k2.cell 0
        have l1 : w2.cell? ⟨w.heap.size, 1, none⟩ = some (.int .i64 src) := k2.cell 1
        have l2 : w2.cell? ⟨w.heap.size, 2, none⟩ = some (.bool true) := k2.cell 2
        have l3 : w2.cell? ⟨w.heap.size, 3, none⟩ = some (.int .i64 vid) := k2.cell 3
        have l4 : w2.cell? ⟨w.heap.size, 4, none⟩ = some (.int .i64 prio) := k2.cell 4
        have l5 : w2.cell? ⟨w.heap.size, 5, none⟩ = some (.int .i64 0) := k2.cell 5
        have l6 : w2.cell? ⟨w.heap.size, 6, none⟩ = some (.string data) := k2.cell 6
        have m0 : w2.cell? ⟨w.heap.size + 1, 0, none⟩ = some (.int .i64 dst') := q2.cell 0
        have m1 : w2.cell? ⟨w.heap.size + 1, 1, none⟩ = some (.int .i64 src') := q2.cell 1
        have m2 : w2.cell? ⟨w.heap.size + 1, 2, none⟩ = some (.bool tagged') := q2.cell 2
        have m3 : w2.cell? ⟨w.heap.size + 1, 3, none⟩ = some (.int .i64 vid') := q2.cell 3
        have m4 : w2.cell? ⟨w.heap.size + 1, 4, none⟩ = some (.int .i64 prio') := q2.cell 4
        have m5 : w2.cell? ⟨w.heap.size + 1, 5, none⟩ = some (.int .i64 typ') := q2.cell 5
        have m6 : w2.cell? ⟨w.heap.size + 1, 6, none⟩ = some (.string data') := q2.cell 6
        go_wp2_with fail
        refine (rgood_any ⟨dst', src', tagged', vid', prio', typ', data'⟩ _).mono ?_
        rw [HC.out]
        rintro e w3 ⟨rfl, b3⟩
        have ht3 := ht2.below b3 ht2.lt
        have k3 := k2.below b3 k2.lt
        have q3 := q2.below b3 q2.lt
        have hb3 := hb2.trans (b3.mono hb2.size)
        clear l0 l1 l2 l3 l4 l5 l6 m0 m1 m2 m3 m4 m5 m6 k2 q2 hb2 ht2 b3
        have l0 : w3.cell? ⟨w.heap.size, 0, none⟩ = some (.int .i64 dst) := k3.cell 0
        have l1 : w3.cell? ⟨w.heap.size, 1, none⟩ = some (.int .i64 src) := k3.cell 1
        have l2 : w3.cell? ⟨w.heap.size, 2, none⟩ = some (.bool true) := k3.cell 2
        have l3 : w3.cell? ⟨w.heap.size, 3, none⟩ = some (.int .i64 vid) := k3.cell 3
        have l4 : w3.cell? ⟨w.heap.size, 4, none⟩ = some (.int .i64 prio) := k3.cell 4
        have l5 : w3.cell? ⟨w.heap.size, 5, none⟩ = some (.int .i64 0) := k3.cell 5
        have l6 : w3.cell? ⟨w.heap.size, 6, none⟩ = some (.string data) := k3.cell 6
        have m0 : w3.cell? ⟨w.heap.size + 1, 0, none⟩ = some (.int .i64 dst') := q3.cell 0
        have m1 : w3.cell? ⟨w.heap.size + 1, 1, none⟩ = some (.int .i64 src') := q3.cell 1
        have m2 : w3.cell? ⟨w.heap.size + 1, 2, none⟩ = some (.bool tagged') := q3.cell 2
        have m3 : w3.cell? ⟨w.heap.size + 1, 3, none⟩ = some (.int .i64 vid') := q3.cell 3
        have m4 : w3.cell? ⟨w.heap.size + 1, 4, none⟩ = some (.int .i64 prio') := q3.cell 4
        have m5 : w3.cell? ⟨w.heap.size + 1, 5, none⟩ = some (.int .i64 typ') := q3.cell 5
        have m6 : w3.cell? ⟨w.heap.size + 1, 6, none⟩ = some (.string data') := q3.cell 6
        go_wp2_with fail
        refine (bytes_good ⟨dst, src, true, vid, prio, 0, data⟩ _ HB.out ht3).mono ?_
        rw [HS.out]
        rintro e w4 ⟨rfl, b4⟩
        have ht4 := ht3.below b4 ht3.lt
        have k4 := k3.below b4 k3.lt
        have q4 := q3.below b4 q3.lt
        have hb4 := hb3.trans (b4.mono hb3.size)
        clear l0 l1 l2 l3 l4 l5 l6 m0 m1 m2 m3 m4 m5 m6 k3 q3 hb3 ht3 b4
        have l0 : w4.cell? ⟨w.heap.size, 0, none⟩ = some (.int .i64 dst) := k4.cell 0
        have l1 : w4.cell? ⟨w.heap.size, 1, none⟩ = some (.int .i64 src) := k4.cell 1
        have l2 : w4.cell? ⟨w.heap.size, 2, none⟩ = some (.bool true) := k4.cell 2
        have l3 : w4.cell? ⟨w.heap.size, 3, none⟩ = some (.int .i64 vid) := k4.cell 3
        have l4 : w4.cell? ⟨w.heap.size, 4, none⟩ = some (.int .i64 prio) := k4.cell 4
        have l5 : w4.cell? ⟨w.heap.size, 5, none⟩ = some (.int .i64 0) := k4.cell 5
        have l6 : w4.cell? ⟨w.heap.size, 6, none⟩ = some (.string data) := k4.cell 6
        have m0 : w4.cell? ⟨w.heap.size + 1, 0, none⟩ = some (.int .i64 dst') := q4.cell 0
        have m1 : w4.cell? ⟨w.heap.size + 1, 1, none⟩ = some (.int .i64 src') := q4.cell 1
        have m2 : w4.cell? ⟨w.heap.size + 1, 2, none⟩ = some (.bool tagged') := q4.cell 2
        have m3 : w4.cell? ⟨w.heap.size + 1, 3, none⟩ = some (.int .i64 vid') := q4.cell 3
        have m4 : w4.cell? ⟨w.heap.size + 1, 4, none⟩ = some (.int .i64 prio') := q4.cell 4
        have m5 : w4.cell? ⟨w.heap.size + 1, 5, none⟩ = some (.int .i64 typ') := q4.cell 5
        have m6 : w4.cell? ⟨w.heap.size + 1, 6, none⟩ = some (.string data') := q4.cell 6
        go_wp2_with fail
        refine (bytes_good ⟨dst', src', tagged', vid', prio', typ', data'⟩ _ HC.out ht4).mono ?_
        rw [HT.out]
        rintro e w5 ⟨rfl, b5⟩
        have ht5 := ht4.below b5 ht4.lt
        have k5 := k4.below b5 k4.lt
        have q5 := q4.below b5 q4.lt
        have hb5 := hb4.trans (b5.mono hb4.size)
        clear l0 l1 l2 l3 l4 l5 l6 m0 m1 m2 m3 m4 m5 m6 k4 q4 hb4 ht4 b5
        have l0 : w5.cell? ⟨w.heap.size, 0, none⟩ = some (.int .i64 dst) := k5.cell 0
        have l1 : w5.cell? ⟨w.heap.size, 1, none⟩ = some (.int .i64 src) := k5.cell 1
        have l2 : w5.cell? ⟨w.heap.size, 2, none⟩ = some (.bool true) := k5.cell 2
        have l3 : w5.cell? ⟨w.heap.size, 3, none⟩ = some (.int .i64 vid) := k5.cell 3
        have l4 : w5.cell? ⟨w.heap.size, 4, none⟩ = some (.int .i64 prio) := k5.cell 4
        have l5 : w5.cell? ⟨w.heap.size, 5, none⟩ = some (.int .i64 0) := k5.cell 5
        have l6 : w5.cell? ⟨w.heap.size, 6, none⟩ = some (.string data) := k5.cell 6
        have m0 : w5.cell? ⟨w.heap.size + 1, 0, none⟩ = some (.int .i64 dst') := q5.cell 0
        have m1 : w5.cell? ⟨w.heap.size + 1, 1, none⟩ = some (.int .i64 src') := q5.cell 1
        have m2 : w5.cell? ⟨w.heap.size + 1, 2, none⟩ = some (.bool tagged') := q5.cell 2
        have m3 : w5.cell? ⟨w.heap.size + 1, 3, none⟩ = some (.int .i64 vid') := q5.cell 3
        have m4 : w5.cell? ⟨w.heap.size + 1, 4, none⟩ = some (.int .i64 prio') := q5.cell 4
        have m5 : w5.cell? ⟨w.heap.size + 1, 5, none⟩ = some (.int .i64 typ') := q5.cell 5
        have m6 : w5.cell? ⟨w.heap.size + 1, 6, none⟩ = some (.string data') := q5.cell 6
        go_wp2
        all_goals first
          | (go_ret; exact ⟨rfl, hb5⟩)
          | (exfalso; rename_i a1 a2 a3 a4 a5 a6 a7; exact HQ.absurd a1 a2 (by revert a3; cases tagged' <;> simp) a4 a5 a6 a7)
      · have hsz2 : ((S.size : Int) == 16 + (data.size : Int) + 4) = true := by rw [beq_iff_eq]; simp [t0] at hsz; omega
        have e0 : (typ == 0) = false := by simpa using t0
        clear hsz t0
        go_enter Tryd.func7, Tryd.ntmps7
        go_wp2_with fail
        refine (alive_any _ ht0).mono ?_
        rintro e w1 ⟨rfl, b1⟩
        have ht1 := ht0.below b1 ht0.lt
        have k1 := hblk.below b1 hblk.lt
        have q1 := hblq.below b1 hblq.lt
        have hb1 := hb0.trans (b1.mono hb0.size)
        have l0 : w1.cell? ⟨w.heap.size, 0, none⟩ = some (.int .i64 dst) := k1.cell 0
        have l1 : w1.cell? ⟨w.heap.size, 1, none⟩ = some (.int .i64 src) := k1.cell 1
        have l2 : w1.cell? ⟨w.heap.size, 2, none⟩ = some (.bool true) := k1.cell 2
        have l3 : w1.cell? ⟨w.heap.size, 3, none⟩ = some (.int .i64 vid) := k1.cell 3
        have l4 : w1.cell? ⟨w.heap.size, 4, none⟩ = some (.int .i64 prio) := k1.cell 4
        have l5 : w1.cell? ⟨w.heap.size, 5, none⟩ = some (.int .i64 typ) := k1.cell 5
        have l6 : w1.cell? ⟨w.heap.size, 6, none⟩ = some (.string data) := k1.cell 6
        have m0 : w1.cell? ⟨w.heap.size + 1, 0, none⟩ = some (.int .i64 dst') := q1.cell 0
        have m1 : w1.cell? ⟨w.heap.size + 1, 1, none⟩ = some (.int .i64 src') := q1.cell 1
        have m2 : w1.cell? ⟨w.heap.size + 1, 2, none⟩ = some (.bool tagged') := q1.cell 2
        have m3 : w1.cell? ⟨w.heap.size + 1, 3, none⟩ = some (.int .i64 vid') := q1.cell 3
        have m4 : w1.cell? ⟨w.heap.size + 1, 4, none⟩ = some (.int .i64 prio') := q1.cell 4
        have m5 : w1.cell? ⟨w.heap.size + 1, 5, none⟩ = some (.int .i64 typ') := q1.cell 5
        have m6 : w1.cell? ⟨w.heap.size + 1, 6, none⟩ = some (.string data') := q1.cell 6
        go_wp2_with fail
        refine (rgood_any ⟨dst, src, true, vid, prio, typ, data⟩ _).mono ?_
        rw [HB.out]
        rintro e w2 ⟨rfl, b2⟩
        have ht2 := ht1.below b2 ht1.lt
        have k2 := k1.below b2 k1.lt
        have q2 := q1.below b2 q1.lt
        have hb2 := hb1.trans (b2.mono hb1.size)
        clear l0 l1 l2 l3 l4 l5 l6 m0 m1 m2 m3 m4 m5 m6 k1 q1 hb1 ht1 b2
        have l0 : w2.cell? ⟨w.heap.size, 0, none⟩ = some (.int .i64 dst) := k2.cell 0
        have l1 : w2.cell? ⟨w.heap.size, 1, none⟩ = some (.int .i64 src) := k2.cell 1
        have l2 : w2.cell? ⟨w.heap.size, 2, none⟩ = some (.bool true) := k2.cell 2
        have l3 : w2.cell? ⟨w.heap.size, 3, none⟩ = some (.int .i64 vid) := k2.cell 3
        have l4 : w2.cell? ⟨w.heap.size, 4, none⟩ = some (.int .i64 prio) := k2.cell 4
        have l5 : w2.cell? ⟨w.heap.size, 5, none⟩ = some (.int .i64 typ) := k2.cell 5
        have l6 : w2.cell? ⟨w.heap.size, 6, none⟩ = some (.string data) := k2.cell 6
        have m0 : w2.cell? ⟨w.heap.size + 1, 0, none⟩ = some (.int .i64 dst') := q2.cell 0
        have m1 : w2.cell? ⟨w.heap.size + 1, 1, none⟩ = some (.int .i64 src') := q2.cell 1
        have m2 : w2.cell? ⟨w.heap.size + 1, 2, none⟩ = some (.bool tagged') := q2.cell 2
        have m3 : w2.cell? ⟨w.heap.size + 1, 3, none⟩ = some (.int .i64 vid') := q2.cell 3
        have m4 : w2.cell? ⟨w.heap.size + 1, 4, none⟩ = some (.int .i64 prio') := q2.cell 4
        have m5 : w2.cell? ⟨w.heap.size + 1, 5, none⟩ = some (.int .i64 typ') := q2.cell 5
        have m6 : w2.cell? ⟨w.heap.size + 1, 6, none⟩ = some (.string data') := q2.cell 6
        go_wp2_with fail
        refine (rgood_any ⟨dst', src', tagged', vid', prio', typ', data'⟩ _).mono ?_
        rw [HC.out]
        rintro e w3 ⟨rfl, b3⟩
        have ht3 := ht2.below b3 ht2.lt
        have k3 := k2.below b3 k2.lt
        have q3 := q2.below b3 q2.lt
        have hb3 := hb2.trans (b3.mono hb2.size)
        clear l0 l1 l2 l3 l4 l5 l6 m0 m1 m2 m3 m4 m5 m6 k2 q2 hb2 ht2 b3
        have l0 : w3.cell? ⟨w.heap.size, 0, none⟩ = some (.int .i64 dst) := k3.cell 0
        have l1 : w3.cell? ⟨w.heap.size, 1, none⟩ = some (.int .i64 src) := k3.cell 1
        have l2 : w3.cell? ⟨w.heap.size, 2, none⟩ = some (.bool true) := k3.cell 2
        have l3 : w3.cell? ⟨w.heap.size, 3, none⟩ = some (.int .i64 vid) := k3.cell 3
        have l4 : w3.cell? ⟨w.heap.size, 4, none⟩ = some (.int .i64 prio) := k3.cell 4
        have l5 : w3.cell? ⟨w.heap.size, 5, none⟩ = some (.int .i64 typ) := k3.cell 5
        have l6 : w3.cell? ⟨w.heap.size, 6, none⟩ = some (.string data) := k3.cell 6
        have m0 : w3.cell? ⟨w.heap.size + 1, 0, none⟩ = some (.int .i64 dst') := q3.cell 0
        have m1 : w3.cell? ⟨w.heap.size + 1, 1, none⟩ = some (.int .i64 src') := q3.cell 1
        have m2 : w3.cell? ⟨w.heap.size + 1, 2, none⟩ = some (.bool tagged') := q3.cell 2
        have m3 : w3.cell? ⟨w.heap.size + 1, 3, none⟩ = some (.int .i64 vid') := q3.cell 3
        have m4 : w3.cell? ⟨w.heap.size + 1, 4, none⟩ = some (.int .i64 prio') := q3.cell 4
        have m5 : w3.cell? ⟨w.heap.size + 1, 5, none⟩ = some (.int .i64 typ') := q3.cell 5
        have m6 : w3.cell? ⟨w.heap.size + 1, 6, none⟩ = some (.string data') := q3.cell 6
        go_wp2_with fail
        refine (bytes_good ⟨dst, src, true, vid, prio, typ, data⟩ _ HB.out ht3).mono ?_
        rw [HS.out]
        rintro e w4 ⟨rfl, b4⟩
        have ht4 := ht3.below b4 ht3.lt
        have k4 := k3.below b4 k3.lt
        have q4 := q3.below b4 q3.lt
        have hb4 := hb3.trans (b4.mono hb3.size)
        clear l0 l1 l2 l3 l4 l5 l6 m0 m1 m2 m3 m4 m5 m6 k3 q3 hb3 ht3 b4
        have l0 : w4.cell? ⟨w.heap.size, 0, none⟩ = some (.int .i64 dst) := k4.cell 0
        have l1 : w4.cell? ⟨w.heap.size, 1, none⟩ = some (.int .i64 src) := k4.cell 1
        have l2 : w4.cell? ⟨w.heap.size, 2, none⟩ = some (.bool true) := k4.cell 2
        have l3 : w4.cell? ⟨w.heap.size, 3, none⟩ = some (.int .i64 vid) := k4.cell 3
        have l4 : w4.cell? ⟨w.heap.size, 4, none⟩ = some (.int .i64 prio) := k4.cell 4
        have l5 : w4.cell? ⟨w.heap.size, 5, none⟩ = some (.int .i64 typ) := k4.cell 5
        have l6 : w4.cell? ⟨w.heap.size, 6, none⟩ = some (.string data) := k4.cell 6
        have m0 : w4.cell? ⟨w.heap.size + 1, 0, none⟩ = some (.int .i64 dst') := q4.cell 0
        have m1 : w4.cell? ⟨w.heap.size + 1, 1, none⟩ = some (.int .i64 src') := q4.cell 1
        have m2 : w4.cell? ⟨w.heap.size + 1, 2, none⟩ = some (.bool tagged') := q4.cell 2
        have m3 : w4.cell? ⟨w.heap.size + 1, 3, none⟩ = some (.int .i64 vid') := q4.cell 3
        have m4 : w4.cell? ⟨w.heap.size + 1, 4, none⟩ = some (.int .i64 prio') := q4.cell 4
        have m5 : w4.cell? ⟨w.heap.size + 1, 5, none⟩ = some (.int .i64 typ') := q4.cell 5
        have m6 : w4.cell? ⟨w.heap.size + 1, 6, none⟩ = some (.string data') := q4.cell 6
        go_wp2_with fail
        refine (bytes_good ⟨dst', src', tagged', vid', prio', typ', data'⟩ _ HC.out ht4).mono ?_
        rw [HT.out]
        rintro e w5 ⟨rfl, b5⟩
        have ht5 := ht4.below b5 ht4.lt
        have k5 := k4.below b5 k4.lt
        have q5 := q4.below b5 q4.lt
        have hb5 := hb4.trans (b5.mono hb4.size)
        clear l0 l1 l2 l3 l4 l5 l6 m0 m1 m2 m3 m4 m5 m6 k4 q4 hb4 ht4 b5
        have l0 : w5.cell? ⟨w.heap.size, 0, none⟩ = some (.int .i64 dst) := k5.cell 0
        have l1 : w5.cell? ⟨w.heap.size, 1, none⟩ = some (.int .i64 src) := k5.cell 1
        have l2 : w5.cell? ⟨w.heap.size, 2, none⟩ = some (.bool true) := k5.cell 2
        have l3 : w5.cell? ⟨w.heap.size, 3, none⟩ = some (.int .i64 vid) := k5.cell 3
        have l4 : w5.cell? ⟨w.heap.size, 4, none⟩ = some (.int .i64 prio) := k5.cell 4
        have l5 : w5.cell? ⟨w.heap.size, 5, none⟩ = some (.int .i64 typ) := k5.cell 5
        have l6 : w5.cell? ⟨w.heap.size, 6, none⟩ = some (.string data) := k5.cell 6
        have m0 : w5.cell? ⟨w.heap.size + 1, 0, none⟩ = some (.int .i64 dst') := q5.cell 0
        have m1 : w5.cell? ⟨w.heap.size + 1, 1, none⟩ = some (.int .i64 src') := q5.cell 1
        have m2 : w5.cell? ⟨w.heap.size + 1, 2, none⟩ = some (.bool tagged') := q5.cell 2
        have m3 : w5.cell? ⟨w.heap.size + 1, 3, none⟩ = some (.int .i64 vid') := q5.cell 3
        have m4 : w5.cell? ⟨w.heap.size + 1, 4, none⟩ = some (.int .i64 prio') := q5.cell 4
        have m5 : w5.cell? ⟨w.heap.size + 1, 5, none⟩ = some (.int .i64 typ') := q5.cell 5
        have m6 : w5.cell? ⟨w.heap.size + 1, 6, none⟩ = some (.string data') := q5.cell 6
        go_wp2
        all_goals first
          | (go_ret; exact ⟨rfl, hb5⟩)
          | (exfalso; rename_i a1 a2 a3 a4 a5 a6 a7; exact HQ.absurd a1 a2 (by revert a3; cases tagged' <;> simp) a4 a5 a6 a7)

set_option maxRecDepth 100000 in
theorem liftedFrameOne (os : Os) (started : os.Started) (H : Type) (enc : TypeId × Value → H) :
    ReturnsInHanded {} Tryd.checked os 7 .any (fun w args => (Rows.frameOneSpec.pre enc Tryd.prog Tryd.f7 [] false w args ∧ laidMetH Tryd.prog laidL w) ∧ sizedMet enc Tryd.prog Tryd.f7 (OpenSpec.ofChange Rows.frameOneSpec) false w args) (Rows.frameOneSpec.post enc Tryd.prog Tryd.f7 false true false false) := by
  refine returnsInHanded_of_change_and (C := Tryd.checked) (X := fun w _ => laidMetH Tryd.prog laidL w) (fun _ _ _ hh h => h.of_heap hh) own started (by kernel_rfl) Tryd.func7
    (ChangeSpec.witness_shaped (enc := enc) (C := Tryd.checked) (os := os) (X := fun w _ => laidMetH Tryd.prog laidL w) false (World.doorLaid Tryd.prog 400 os) #[.agg #[.int .i64 0, .int .i64 0, .bool false, .int .i64 0, .int .i64 0, .int .i64 0, .string ⟨#[]⟩], .agg #[.int .i64 0, .int .i64 0, .bool false, .int .i64 0, .int .i64 0, .int .i64 0, .string ⟨#[]⟩]] 8 rfl (World.shaped_of_RefB (by kernel_rfl) (by kernel_rfl)) (by kernel_rfl) (by kernel_rfl) (by kernel_rfl) (door_met os _)) ?_
  intro W base args ds gs before hval0 hW _ hsz0 hL _
  have hval : ∀ (j : Nat) t v, Tryd.f7.params[j]? = some t → args[j]? = some v → Value.okWide Tryd.prog W .any base t v := hval0
  have hsz : (DataW.weightsEach Tryd.prog (Tryd.f7.params.toList ++ Rows.frameOneSpec.plain.varTypes Tryd.prog) (ds ++ gs)).all (· ≤ reachBytes) = true := hsz0
  clear hsz0
  have hW' := hW
  obtain ⟨p, q, hA0, hV, rfl, hfz, hnd⟩ := hW
  have hA : DataW.TrodAll enc Tryd.prog W 0 (fun _ => true) true Tryd.f7.params.toList args.toList ds p := hA0
  rw [Tryd.params7] at hA hval hsz
  obtain ⟨v0, vs0, d0, ds0, p0, q0, hargs, rfl, rfl, h0, r0⟩ := trodAll_cons hA
  obtain ⟨v1, vs1, d1, ds1, p1, q1, rfl, rfl, rfl, h1, r1⟩ := trodAll_cons r0
  obtain ⟨rfl, rfl, rfl⟩ := trodAll_nil r1
  obtain rfl : args = #[v0, v1] := by cases args; simp_all
  obtain ⟨rfl, rfl⟩ := trodVars_none hV
  have k0 := h0
  have lt0 : ∀ x ∈ p0, x.block < W.heap.size := by obtain ⟨m, hm⟩ := k0; exact DataW.trod_lt m _ _ _ hm
  obtain ⟨f0, rfl⟩ := open_fr (hval 0 23 v0 rfl rfl) h0
  have k1 := h1
  have lt1 : ∀ x ∈ p1, x.block < W.heap.size := by obtain ⟨m, hm⟩ := k1; exact DataW.trod_lt m _ _ _ hm
  obtain ⟨f1, rfl⟩ := open_fr (hval 1 23 v1 rfl rfl) h1
  clear hA0 hval0
  refine (walkFrameOne f0 f1 W (tab_of_laid hL) ).mono fun e W' ⟨he, bel⟩ => ?_
  subst he
  exact ⟨_, rfl, _, _, _, [], _, [], hW', trodAll_mk1 (shut_bool Tryd.underlying4 _), (trodAll_cons_mk (Below.trod laidOut (by kernel_rfl) (of_decide_eq_true (by kernel_rfl)) k0 bel lt0) (trodAll_cons_mk (Below.trod laidOut (by kernel_rfl) (of_decide_eq_true (by kernel_rfl)) k1 bel lt1) trodAll_mk0)), rfl, bel.frame _, fun h => by cases h⟩

theorem overFrameOne : Rows.frameOneRow.holds Tryd.pinned (OpenSpec.ofChange Rows.frameOneSpec) :=
  OpenClaim.holds_of_wide 7 Tryd.f7 rfl rfl rfl rfl rfl rfl rfl ⟨rfl, rfl, rfl, rfl, rfl⟩ rfl rfl rfl rfl rfl (by kernel_rfl) Tryd.func7 (by kernel_rfl)
    (of_decide_eq_true (by kernel_rfl)) (by unfold Func.isWrapper; first | (rw [if_pos (by decide +kernel)]; kernel_rfl) | (rw [if_neg (by decide +kernel)]; exact ⟨rfl, rfl⟩))
    (fun os started H enc _ => liftedFrameOne os started H enc)

theorem frameOne_said : Rows.FrameOneSaid := overFrameOne

/-- The statement: the card. -/
theorem frameOne_holds : Rows.FrameOneCardSaid :=
  Claim7.holds_tied_plain_at .later [] [.data] true Rows.frameOneCard.stood.harness false
    frameOne_said (fun _ h => by cases h) (by kernel_rfl) (fun _ h => by cases h) frameOne_row_tie rfl ⟨rfl, rfl⟩ (by kernel_rfl) rfl
    (fun f fn hf hfn => by
      obtain rfl : f = 7 := Option.some.inj ((show Tryd.prog.funcNamed "kissgate/kissgatelaw05.FrameOne" = some 7 by kernel_rfl).symm.trans hf) |>.symm
      obtain rfl : fn = Tryd.f7 := (Option.some.inj (Tryd.func7.symm.trans hfn)).symm
      exact ⟨by kernel_rfl, fun j t ht => by
        rw [Tryd.params7] at ht
        have hm : t ∈ [23, 23] := by simpa using Array.mem_of_getElem? ht
        have hall : ([23, 23].all fun u => !Tryd.prog.wantsStandIn u) = true := by kernel_rfl
        exact (show Tryd.prog.wantsStandIn t = false by simpa using List.all_eq_true.1 hall t hm)⟩)
    (by kernel_rfl)

#print axioms frameOne_holds
end Go.Proofs.YthbnadohldiifaaDoor
