/-
  Walk of a statement of layer 3: NameJoins.
-/
import Derived.Test.YtinmmaoedmepbaaNameShown
import Derived.Test.YtinmmaoedmepbaaOpen
namespace Go.Proofs.Ytinmmaoedmepbaa.NameLaw
open Go.RowKit Go.WideShapes Go.ChangeShapes Go.Proofs.Ytinmmaoedmepbaa.NameMath Go.Proofs.Ytinmmaoedmepbaa.NameWalk Go.Proofs.Ytinmmaoedmepbaa.Open

set_option maxHeartbeats 8000000 in
set_option maxRecDepth 100000 in
theorem joins_walk (a b : ByteArray) (ha : a.size ≤ 9223372036854775807) (hb : b.size ≤ 9223372036854775807) (w : World) :
    Calls Try.prog 6 #[.string a, .string b] w fun e w' => e = .returned (.bool true) ∧ Below w.heap.size w w' := by
  have HA := sh_size a
  have HB := sh_size b
  go_enter Try.func6, Try.ntmps6
  go_wp2_with fail
  refine (shown_any _).mono ?_
  rintro e w1 ⟨rfl, B1⟩
  go_wp2_with fail
  refine (short_any a _ ha).mono ?_
  rintro e w' ⟨rfl, rfl⟩
  go_wp2_with fail
  refine (short_any b _ hb).mono ?_
  rintro e w' ⟨rfl, rfl⟩
  generalize sh a = A at *
  generalize sh b = B at *
  have hAB : (A ++ B).size = A.size + B.size := ba_size A B
  have hm : A.size + B.size ≤ 9223372036854775807 := by omega
  have hlA := size_list A
  have hlB := size_list B
  cases hmA : may A.data.toList
  · have cA := Go.Lib.hid (fun w => may_told (by omega) hmA w)
    clear hmA hlA hlB hAB
    go_wp2_with fail
    refine (cA.out _).mono ?_
    rintro e w2 ⟨rfl, b2⟩
    go_wp2_with fail
    go_ret
    exact ⟨rfl, below_chain B1 b2⟩
  · have cA := Go.Lib.hid (fun w => may_told (by omega) hmA w)
    have hp := may_parts hmA
    have cF := Go.Lib.hid (fun w => fold_told (s := B) (t := ⟨(fold B.data.toList).toArray⟩) (by omega) rfl w)
    have cJ := Go.Lib.hid (fun w => fold_told (s := A ++ B) (t := A ++ ⟨(fold B.data.toList).toArray⟩) (by omega) (by rw [ba_append, ba_append, fold_append _ _ hp.2.2.2]) w)
    have hFB : (⟨(fold B.data.toList).toArray⟩ : ByteArray).size ≤ 60 := by
      rw [size_list, ba_list]
      have := fold_len B.data.toList
      omega
    generalize (⟨(fold B.data.toList).toArray⟩ : ByteArray) = FB at *
    have hm2 : A.size + FB.size ≤ 9223372036854775807 := by omega
    cases hmB : may B.data.toList
    · have cB := Go.Lib.hid (fun w => may_told (by omega) hmB w)
      clear hmA hmB hlA hlB hp hAB HA HB hFB
      go_wp2_with fail
      refine (cA.out _).mono ?_
      rintro e w2 ⟨rfl, b2⟩
      have B2 := below_chain B1 b2
      go_wp2_with fail
      refine (cB.out _).mono ?_
      rintro e w3 ⟨rfl, b3⟩
      have B3 := below_chain B2 b3
      go_wp2_with fail
      refine (cJ.out _).mono ?_
      rintro e w4 ⟨rfl, b4⟩
      have B4 := below_chain B3 b4
      go_wp2_with fail
      refine (cF.out _).mono ?_
      rintro e w5 ⟨rfl, b5⟩
      have B5 := below_chain B4 b5
      go_wp2_with fail
      go_ret
      exact ⟨by simp, B5⟩
    · have cB := Go.Lib.hid (fun w => may_told (by omega) hmB w)
      by_cases h24 : 24 < A.size + B.size
      · have k24 : (24 : Int) < A.size + B.size := by omega
        clear hmA hmB hlA hlB hp hAB HA HB hFB
        go_wp2_with fail
        refine (cA.out _).mono ?_
        rintro e w2 ⟨rfl, b2⟩
        have B2 := below_chain B1 b2
        go_wp2_with fail
        refine (cB.out _).mono ?_
        rintro e w3 ⟨rfl, b3⟩
        have B3 := below_chain B2 b3
        go_wp2_with fail
        refine (cJ.out _).mono ?_
        rintro e w4 ⟨rfl, b4⟩
        have B4 := below_chain B3 b4
        go_wp2_with fail
        refine (cF.out _).mono ?_
        rintro e w5 ⟨rfl, b5⟩
        have B5 := below_chain B4 b5
        go_wp2_with fail
        go_ret
        exact ⟨by simp, B5⟩
      · have k24 : ¬ (24 : Int) < A.size + B.size := by omega
        have hq := may_parts hmB
        have hne : A.data.toList ≠ [] := by intro e; rw [e] at hp; exact absurd hp.1 (by decide)
        have hJ : may (A ++ B).data.toList = true := by
          rw [ba_append]
          refine may_of (by rw [List.length_append]; omega) (by rw [List.length_append]; omega) (by rw [first_append _ hne]; exact hp.2.2.1) (by rw [allL_append _ _ hp.2.2.2]; exact hq.2.2.2)
        have cM := Go.Lib.hid (fun w => may_told (s := A ++ B) (by omega) hJ w)
        clear hmA hmB hJ hlA hlB hp hAB hq hne HA HB hFB
        go_wp2_with fail
        refine (cA.out _).mono ?_
        rintro e w2 ⟨rfl, b2⟩
        have B2 := below_chain B1 b2
        go_wp2_with fail
        refine (cB.out _).mono ?_
        rintro e w3 ⟨rfl, b3⟩
        have B3 := below_chain B2 b3
        go_wp2_with fail
        refine (cM.out _).mono ?_
        rintro e w3' ⟨rfl, b3'⟩
        have B3' := below_chain B3 b3'
        go_wp2_with fail
        refine (cJ.out _).mono ?_
        rintro e w4 ⟨rfl, b4⟩
        have B4 := below_chain B3' b4
        go_wp2_with fail
        refine (cF.out _).mono ?_
        rintro e w5 ⟨rfl, b5⟩
        have B5 := below_chain B4 b5
        go_wp2_with fail
        go_ret
        exact ⟨by simp, B5⟩

section
variable {H : Type} {enc : TypeId × Value → H}
theorem joins_main (W : World) (base : Nat) (v0 v1 : Value) {d0 d1 : DataW H} {p0 p1 : List MemPlace} (o0 : Value.okWide Try.prog W .any base 9 v0) (o1 : Value.okWide Try.prog W .any base 9 v1)
    (h0 : DataW.Trod enc Try.prog W 0 (fun _ => true) true 9 v0 d0 p0) (h1 : DataW.Trod enc Try.prog W 0 (fun _ => true) true 9 v1 d1 p1) :
    Calls Try.prog 6 #[v0, v1] W fun e W' => e = .returned (.bool true) ∧ Below W.heap.size W W' := by
  obtain ⟨a, rfl, ha⟩ := op_string Try.underlying9 o0 h0
  obtain ⟨b, rfl, hb⟩ := op_string Try.underlying9 o1 h1
  unfold maxLen at ha hb
  exact joins_walk a b (by omega) (by omega) W
end

end Go.Proofs.Ytinmmaoedmepbaa.NameLaw
