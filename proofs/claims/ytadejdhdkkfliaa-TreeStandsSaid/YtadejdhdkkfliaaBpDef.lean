/- Messages about the tree as plain data, and when one can be (split off BpPlain). Plain definitions, no condition, no program's call. -/
import Derived.Test.YtadejdhdkkfliaaBpNm
namespace Go.Proofs.Ytadejdhdkkfliaa
open Go.RowKit

structure Bp where
  root : Int
  cost : Int
  bridge : Int
  port : Int
  age : Int
  role : Int
  change : Bool
def Bp.cells (b : Bp) : Array Value := #[.int .i64 b.root, .int .i64 b.cost, .int .i64 b.bridge, .int .i64 b.port, .int .i64 b.age, .int .i64 b.role, .bool b.change]
def Bp.v (b : Bp) : Value := .agg b.cells
def Bp.zero : Bp := ⟨0, 0, 0, 0, 0, 0, false⟩
def costB (a : Int) : Bool := decide (0 ≤ a ∧ a ≤ 2147483647)
def portB (a : Int) : Bool := decide (0 ≤ a ∧ a ≤ 5)
def ageB (a : Int) : Bool := decide (0 ≤ a ∧ a ≤ 10)
def roleB (a : Int) : Bool := decide (0 ≤ a ∧ a ≤ 3)
def vecB (root cost bridge port : Int) : Bool := nameB root && nameB bridge && costB cost && portB port
/-- It can be. -/
def Bp.good (b : Bp) : Bool := vecB b.root b.cost b.bridge b.port && ageB b.age && roleB b.role
end Go.Proofs.Ytadejdhdkkfliaa
