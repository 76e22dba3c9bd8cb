/-
  Walk of a statement of layer 3: NameMay.
-/
import Derived.Test.YtinmmaoedmepbaaNameRefC
import Derived.Test.YtinmmaoedmepbaaOpen
namespace Go.Proofs.Ytinmmaoedmepbaa.NameLaw
open Go.RowKit Go.WideShapes Go.ChangeShapes Go.Proofs.Ytinmmaoedmepbaa.NameMath Go.Proofs.Ytinmmaoedmepbaa.NameWalk Go.Proofs.Ytinmmaoedmepbaa.Open

set_option maxHeartbeats 8000000 in
set_option maxRecDepth 100000 in
theorem may_walk (a : ByteArray) (ha : a.size ≤ 9223372036854775807) (w : World) :
    Calls Try.prog 3 #[.string a] w fun e w' => e = .returned (.bool true) ∧ Below w.heap.size w w' := by
  have HA := sh_size a
  go_enter Try.func3, Try.ntmps3
  go_wp2_with fail
  refine (shown_any _).mono ?_
  rintro e w1 ⟨rfl, B1⟩
  go_wp2_with fail
  refine (short_any a _ ha).mono ?_
  rintro e w' ⟨rfl, rfl⟩
  generalize sh a = S at *
  have c1 := Go.Lib.hid (fun w => may_any S w (by omega))
  have c2 := Go.Lib.hid (fun w => refMay_any S w (by omega))
  have c3 := Go.Lib.hid (fun w => fold_any S w (by omega))
  have c4 := Go.Lib.hid (fun w => refFold_any S w (by omega))
  generalize may S.data.toList = m at *
  generalize (⟨(fold S.data.toList).toArray⟩ : ByteArray) = F at *
  go_wp2_with fail
  refine (c1.out _).mono ?_
  rintro e w2 ⟨rfl, b2⟩
  have B2 := below_chain B1 b2
  go_wp2_with fail
  refine (c2.out _).mono ?_
  rintro e w3 ⟨rfl, b3⟩
  have B3 := below_chain B2 b3
  go_wp2_with fail
  refine (c3.out _).mono ?_
  rintro e w4 ⟨rfl, b4⟩
  have B4 := below_chain B3 b4
  go_wp2_with fail
  refine (c4.out _).mono ?_
  rintro e w5 ⟨rfl, b5⟩
  have B5 := below_chain B4 b5
  go_wp2_with fail
  go_ret
  exact ⟨by simp, B5⟩

section
variable {H : Type} {enc : TypeId × Value → H}
theorem may_main (W : World) (base : Nat) (v0 : Value) {d0 : DataW H} {p0 : List MemPlace} (o0 : Value.okWide Try.prog W .any base 9 v0)
    (h0 : DataW.Trod enc Try.prog W 0 (fun _ => true) true 9 v0 d0 p0) :
    Calls Try.prog 3 #[v0] W fun e W' => e = .returned (.bool true) ∧ Below W.heap.size W W' := by
  obtain ⟨a, rfl, ha⟩ := op_string Try.underlying9 o0 h0
  unfold maxLen at ha
  exact may_walk a (by omega) W
end

end Go.Proofs.Ytinmmaoedmepbaa.NameLaw
