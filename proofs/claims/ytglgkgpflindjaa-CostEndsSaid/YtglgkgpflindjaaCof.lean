/- Contracts of cost.Of, of the document's Of, of Better and of the library's small questions about floats: each answers what the plain function says, and leaves the world alone. Condition: what comes in is a word of 64 bits. -/
import Derived.Test.YtglgkgpflindjaaMem
import Derived.Test.YtglgkgpflindjaaFlAny
import Derived.Laws.FloatArith
import Derived.Laws.Externs
namespace Go.Proofs.Ytglgkgpflindjaa
open Go.RowKit

theorem call_bits (b : Nat) (w : World) : (callFunc 26 #[.float .f64 b]).run Try.prog w = .ok (.value (.int .u64 b)) w :=
  run_callFunc_extern Try.func26 (by kernel_rfl) (by kernel_rfl) (by kernel_rfl) (e := Extern.MathFloatBits.float64bits) (by kernel_rfl) _ w
theorem call_from (n : Int) (w : World) : (callFunc 23 #[.int .u64 n]).run Try.prog w = .ok (.value (.float .f64 n.toNat)) w :=
  run_callFunc_extern Try.func23 (by kernel_rfl) (by kernel_rfl) (by kernel_rfl) (e := Extern.MathFloatBits.float64frombits) (by kernel_rfl) _ w
theorem call_floor (a x : Nat) (ha : a ≤ Fl.infR) (h : Ieee.double.write ((Ieee.double.read a).integral .down) = x) (w : World) : (callFunc 27 #[.float .f64 a]).run Try.prog w = .ok (.value (.float .f64 x)) w := by
  rw [run_callFunc_extern Try.func27 (by kernel_rfl) (by kernel_rfl) (by kernel_rfl) (e := Extern.MathFloor.toIntegral "math.archFloor" .down) (by kernel_rfl) _ w]
  have hx : (Extern.MathFloor.toIntegral "math.archFloor" .down #[.float .f64 a]).run Try.prog w = .ok (.float .f64 x) w := by
    change Ieee.double.write (Ieee.Datum.integral .down (FloatKind.f64.decode a)) = x at h
    conv =>
      lhs
      arg 2
      whnf
    by_cases hi : a = Fl.infR
    · subst hi
      rw [show FloatKind.f64.decode Fl.infR = .infinity false from Fl.read_inf] at h ⊢
      subst h
      rfl
    · obtain ⟨m, i, hm, _⟩ := Fl.read_fin (show a < Fl.infR by omega)
      rw [show FloatKind.f64.decode a = _ from hm] at h ⊢
      subst h
      rfl
  rw [hx]
  rfl

theorem floor_any (a x : Nat) (ha : a ≤ Fl.infR) (h : Ieee.double.write ((Ieee.double.read a).integral .down) = x) (w : World) :
    Calls Try.prog 20 #[.float .f64 a] w fun e w' => e = .returned (.float .f64 x) ∧ w = w' := by
  have hx := call_floor a x ha h
  clear h
  go_enter Try.func20, Try.ntmps20
  go_wp2
  go_ret
  exact ⟨rfl, rfl⟩
theorem nan_any (w : World) :
    Calls Try.prog 18 #[] w fun e w' => e = .returned (.float .f64 9221120237041090561) ∧ w = w' := by
  have hx := call_from 9221120237041090561
  go_enter Try.func18, Try.ntmps18
  go_wp2
  go_ret
  exact ⟨rfl, rfl⟩
theorem isnan_any (b : Nat) (o : Option Ordering) (h : FloatKind.f64.format.order b b = o) (w : World) :
    Calls Try.prog 19 #[.float .f64 b] w fun e w' => e = .returned (.bool (o != some .eq)) ∧ w = w' := by
  go_enter Try.func19, Try.ntmps19
  go_wp2
  go_ret
  exact ⟨rfl, rfl⟩
theorem inf_any (w : World) :
    Calls Try.prog 16 #[.int .i64 1] w fun e w' => e = .returned (.float .f64 Fl.infR) ∧ w = w' := by
  have hx := call_from 9218868437227405312
  go_enter Try.func16, Try.ntmps16
  go_wp2
  go_ret
  exact ⟨rfl, rfl⟩
end Go.Proofs.Ytglgkgpflindjaa
