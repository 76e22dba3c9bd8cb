/-
  Walk of a statement of layer 3: NameTags.
-/
import Derived.Test.YtinmmaoedmepbaaNameRefD
import Derived.Test.YtinmmaoedmepbaaOpen
namespace Go.Proofs.Ytinmmaoedmepbaa.NameLaw
open Go.RowKit Go.WideShapes Go.ChangeShapes Go.Proofs.Ytinmmaoedmepbaa.NameMath Go.Proofs.Ytinmmaoedmepbaa.NameWalk Go.Proofs.Ytinmmaoedmepbaa.Open

set_option maxHeartbeats 8000000 in
set_option maxRecDepth 100000 in
theorem tags_walk (a b s : ByteArray) (ha : a.size ≤ 9223372036854775807) (hb : b.size ≤ 9223372036854775807) (hs : s.size ≤ 9223372036854775807) (w : World) :
    Calls Try.prog 4 #[.string a, .string b, .string s] w fun e w' => e = .returned (.bool true) ∧ Below w.heap.size w w' := by
  have HA := sh_size a
  have HB := sh_size b
  have HS := sh_size s
  have sA := Go.Lib.hid (fun w => short_any a w ha)
  have sB := Go.Lib.hid (fun w => short_any b w hb)
  go_enter Try.func4, Try.ntmps4
  go_wp2_with fail
  refine (shown_any _).mono ?_
  rintro e w1 ⟨rfl, B1⟩
  go_wp2_with fail
  refine (short_any s _ hs).mono ?_
  rintro e w' ⟨rfl, rfl⟩
  generalize sh a = A at *
  generalize sh b = B at *
  generalize sh s = S at *
  have c1 := Go.Lib.hid (fun w => parts_any S w (by omega))
  have c2 := Go.Lib.hid (fun w => refParts_any S w (by omega))
  have c3 := Go.Lib.hid (fun w => mayTag_any S w (by omega))
  have c4 := Go.Lib.hid (fun w => tag_any A B w (by omega) (by omega))
  have c5 := Go.Lib.hid (fun w => refTag_any A B w (by omega) (by omega))
  generalize parts S.data.toList = Q at *
  obtain ⟨k, v, t⟩ := Q
  simp only at c1 c2 c3
  generalize (⟨k.toArray⟩ : ByteArray) = K at *
  generalize (⟨v.toArray⟩ : ByteArray) = V at *
  generalize (⟨(tag A.data.toList B.data.toList).toArray⟩ : ByteArray) = T at *
  go_wp2_with fail
  refine (c1.out _).mono ?_
  rintro e w2 ⟨rfl, b2⟩
  have B2 := below_chain B1 b2
  go_wp2_with fail
  refine (c2.out _).mono ?_
  rintro e w3 ⟨rfl, b3⟩
  have B3 := below_chain B2 b3
  clear B1 b2 B2 b3
  go_wp2_with fail
  refine (sA.out _).mono ?_
  rintro e w' ⟨rfl, rfl⟩
  go_wp2_with fail
  refine (sB.out _).mono ?_
  rintro e w' ⟨rfl, rfl⟩
  go_wp2_with fail
  refine (c4.out _).mono ?_
  rintro e w4 ⟨rfl, b4⟩
  have B4 := below_chain B3 b4
  clear B3 b4
  go_wp2_with fail
  refine (sA.out _).mono ?_
  rintro e w' ⟨rfl, rfl⟩
  go_wp2_with fail
  refine (sB.out _).mono ?_
  rintro e w' ⟨rfl, rfl⟩
  go_wp2_with fail
  refine (c5.out _).mono ?_
  rintro e w5 ⟨rfl, b5⟩
  have B5 := below_chain B4 b5
  clear B4 b5
  go_wp2_with fail
  refine (c3.out _).mono ?_
  rintro e w6 ⟨rfl, b6⟩
  have B6 := below_chain B5 b6
  go_wp2_with fail
  go_ret
  exact ⟨by simp, B6⟩

section
variable {H : Type} {enc : TypeId × Value → H}
theorem tags_main (W : World) (base : Nat) (v0 v1 v2 : Value) {d0 d1 d2 : DataW H} {p0 p1 p2 : List MemPlace} (o0 : Value.okWide Try.prog W .any base 9 v0) (o1 : Value.okWide Try.prog W .any base 9 v1) (o2 : Value.okWide Try.prog W .any base 9 v2)
    (h0 : DataW.Trod enc Try.prog W 0 (fun _ => true) true 9 v0 d0 p0) (h1 : DataW.Trod enc Try.prog W 0 (fun _ => true) true 9 v1 d1 p1) (h2 : DataW.Trod enc Try.prog W 0 (fun _ => true) true 9 v2 d2 p2) :
    Calls Try.prog 4 #[v0, v1, v2] W fun e W' => e = .returned (.bool true) ∧ Below W.heap.size W W' := by
  obtain ⟨a, rfl, ha⟩ := op_string Try.underlying9 o0 h0
  obtain ⟨b, rfl, hb⟩ := op_string Try.underlying9 o1 h1
  obtain ⟨s, rfl, hs⟩ := op_string Try.underlying9 o2 h2
  unfold maxLen at ha hb hs
  exact tags_walk a b s (by omega) (by omega) (by omega) W
end

end Go.Proofs.Ytinmmaoedmepbaa.NameLaw
