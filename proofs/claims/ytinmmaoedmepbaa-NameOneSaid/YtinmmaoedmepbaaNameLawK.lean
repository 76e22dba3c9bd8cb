/-
  Walk of a statement of layer 3: NameOne, the rest.
-/
import Derived.Test.YtinmmaoedmepbaaNameLawJ
namespace Go.Proofs.Ytinmmaoedmepbaa.NameLaw
open Go.RowKit Go.WideShapes Go.ChangeShapes Go.Proofs.Ytinmmaoedmepbaa.NameMath Go.Proofs.Ytinmmaoedmepbaa.NameWalk Go.Proofs.Ytinmmaoedmepbaa.Open Go.Proofs.Ytinmmaoedmepbaa.NumMem


theorem u8_of {x : Int} (h : (Lit.int .u8 x).wf = true) : ∃ c : UInt8, x = (c.toNat : Int) := by
  have hb := bounds_u8 h
  refine ⟨UInt8.ofNat x.toNat, ?_⟩
  have : x.toNat < 256 := by omega
  simp [Nat.mod_eq_of_lt this]
  omega

section
variable {H : Type} {enc : TypeId × Value → H}
theorem one_main (W : World) (base : Nat) (v0 v1 : Value) {d0 d1 : DataW H} {p0 p1 : List MemPlace} (o0 : Value.okWide Try.prog W .any base 5 v0) (o1 : Value.okWide Try.prog W .any base 5 v1)
    (h0 : DataW.Trod enc Try.prog W 0 (fun _ => true) true 5 v0 d0 p0) (h1 : DataW.Trod enc Try.prog W 0 (fun _ => true) true 5 v1 d1 p1) :
    Calls Try.prog 9 #[v0, v1] W fun e W' => e = .returned (.bool true) ∧ Below W.heap.size W W' := by
  obtain ⟨a, rfl, wa⟩ := op_int Try.underlying5 o0 h0
  obtain ⟨b, rfl, wb⟩ := op_int Try.underlying5 o1 h1
  obtain ⟨a, rfl⟩ := u8_of wa
  obtain ⟨b, rfl⟩ := u8_of wb
  have lt := UInt8.toNat_lt a
  have hc : a.toNat ≤ 44 ∨ (a.toNat = 45) ∨ (46 ≤ a.toNat ∧ a.toNat ≤ 47) ∨ (48 ≤ a.toNat ∧ a.toNat ≤ 57) ∨ (58 ≤ a.toNat ∧ a.toNat ≤ 64) ∨ (65 ≤ a.toNat ∧ a.toNat ≤ 90) ∨ (91 ≤ a.toNat ∧ a.toNat ≤ 94) ∨ a.toNat = 95 ∨ a.toNat = 96 ∨ (97 ≤ a.toNat ∧ a.toNat ≤ 122) ∨ (123 ≤ a.toNat ∧ a.toNat ≤ 127) ∨ 128 ≤ a.toNat := by omega
  rcases hc with h | h | h | h | h | h | h | h | h | h | h | h
  · exact one_other a b W (by omega)
  · exact one_dig a b W (by omega)
  · exact one_other a b W (by omega)
  · exact one_dig a b W (by omega)
  · exact one_other a b W (by omega)
  · exact one_up a b W (by omega)
  · exact one_other a b W (by omega)
  · exact one_let a b W (by omega)
  · exact one_other a b W (by omega)
  · exact one_let a b W (by omega)
  · exact one_other a b W (by omega)
  · exact one_high a b W (by omega)
end

end Go.Proofs.Ytinmmaoedmepbaa.NameLaw
