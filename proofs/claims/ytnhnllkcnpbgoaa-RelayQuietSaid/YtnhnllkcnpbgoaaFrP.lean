/- Frames as plain data: when one can be. No program's call, no condition. -/
import Derived.Test.YtnhnllkcnpbgoaaAddr
namespace Go.Proofs.Ytnhnllkcnpbgoaa
open Go.RowKit

structure Fr where
  dst : Int
  src : Int
  tagged : Bool
  vid : Int
  prio : Int
  typ : Int
  data : ByteArray
def Fr.cells (f : Fr) : Array Value := #[.int .i64 f.dst, .int .i64 f.src, .bool f.tagged, .int .i64 f.vid, .int .i64 f.prio, .int .i64 f.typ, .string f.data]
def Fr.v (f : Fr) : Value := .agg f.cells
def Fr.zero : Fr := ⟨0, 0, false, 0, 0, 0, ⟨#[]⟩⟩
def tagB (f : Fr) : Bool := if f.tagged then decide (0 ≤ f.vid ∧ f.vid ≤ 4094 ∧ 0 ≤ f.prio ∧ f.prio ≤ 7) else decide (f.vid = 0 ∧ f.prio = 0)
def ftypeB (t : Int) : Bool := decide (t = 0 ∨ (1536 ≤ t ∧ t ≤ 65535 ∧ t ≠ 33024))
/-- It can be. -/
def Fr.good (f : Fr) : Bool := goodB f.dst && goodB f.src && !manyB f.src && tagB f && ftypeB f.typ && decide ((f.data.size : Int) ≤ 400)
def Fr.tag (f : Fr) (vid prio : Int) : Fr := { f with tagged := true, vid := vid, prio := prio }
def Fr.untag (f : Fr) : Fr := { f with tagged := false, vid := 0, prio := 0 }

end Go.Proofs.Ytnhnllkcnpbgoaa
