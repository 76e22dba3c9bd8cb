/-
  Walk of a statement of layer 3: NameFolds.
-/
import Derived.Test.YtinmmaoedmepbaaNameShown
import Derived.Test.YtinmmaoedmepbaaOpen
namespace Go.Proofs.Ytinmmaoedmepbaa.NameLaw
open Go.RowKit Go.WideShapes Go.ChangeShapes Go.Proofs.Ytinmmaoedmepbaa.NameMath Go.Proofs.Ytinmmaoedmepbaa.NameWalk Go.Proofs.Ytinmmaoedmepbaa.Open

set_option maxHeartbeats 8000000 in
set_option maxRecDepth 100000 in
theorem folds_walk (a b : ByteArray) (ha : a.size ≤ 9223372036854775807) (hb : b.size ≤ 9223372036854775807) (w : World) :
    Calls Try.prog 5 #[.string a, .string b] w fun e w' => e = .returned (.bool true) ∧ Below w.heap.size w w' := by
  have HA := sh_size a
  have HB := sh_size b
  have cS := Go.Lib.hid (fun w => short_any b w hb)
  go_enter Try.func5, Try.ntmps5
  go_wp2_with fail
  refine (shown_any _).mono ?_
  rintro e w1 ⟨rfl, B1⟩
  go_wp2_with fail
  refine (short_any a _ ha).mono ?_
  rintro e w' ⟨rfl, rfl⟩
  generalize sh a = A at *
  generalize sh b = B at *
  have hlA := size_list A
  have hlB := size_list B
  have hFB : (⟨(fold A.data.toList).toArray⟩ : ByteArray).size ≤ A.size := by
    rw [size_list, ba_list]
    have := fold_len A.data.toList
    omega
  have cF := Go.Lib.hid (fun w => fold_told (s := A) (t := ⟨(fold A.data.toList).toArray⟩) (by omega) rfl w)
  have cG := Go.Lib.hid (fun w => fold_told (s := ⟨(fold A.data.toList).toArray⟩) (t := ⟨(fold A.data.toList).toArray⟩) (by omega) (by rw [ba_list, fold_fold]) w)
  have hFA : may A.data.toList = true → (⟨(fold A.data.toList).toArray⟩ : ByteArray) = A := fun h => ba_ext (fold_self (may_parts h).2.2.2)
  generalize (⟨(fold A.data.toList).toArray⟩ : ByteArray) = F at *
  have hF2 : (F.size : Int) ≤ A.size := by omega
  cases hmA : may A.data.toList
  · have cA := Go.Lib.hid (fun w => may_told (by omega) hmA w)
    have cT := Go.Lib.hid (fun w => tag_told (a := A) (b := B) (t := ⟨#[]⟩) (by omega) (by omega) (by unfold tag; rw [hmA, Bool.false_and, if_neg (by decide)]) w)
    have cP := Go.Lib.hid (fun w => parts_told (s := ⟨#[]⟩) (k := ⟨#[]⟩) (v := ⟨#[]⟩) (b := false) (by decide) rfl w)
    clear hmA hlA hlB hFB hFA
    go_wp2_with fail
    refine (cF.out _).mono ?_
    rintro e w2 ⟨rfl, b2⟩
    have B2 := below_chain B1 b2
    go_wp2_with fail
    refine (cS.out _).mono ?_
    rintro e w' ⟨rfl, rfl⟩
    go_wp2_with fail
    refine (cT.out _).mono ?_
    rintro e w3 ⟨rfl, b3⟩
    have B3 := below_chain B2 b3
    go_wp2_with fail
    refine (cP.out _).mono ?_
    rintro e w4 ⟨rfl, b4⟩
    have B4 := below_chain B3 b4
    go_wp2_with fail
    refine (cA.out _).mono ?_
    rintro e w5 ⟨rfl, b5⟩
    have B5 := below_chain B4 b5
    go_wp2_with fail
    refine (cG.out _).mono ?_
    rintro e w6 ⟨rfl, b6⟩
    have B6 := below_chain B5 b6
    go_wp2_with fail
    refine (cA.out _).mono ?_
    rintro e w7 ⟨rfl, b7⟩
    have B7 := below_chain B6 b7
    go_wp2_with fail
    go_ret
    exact ⟨by simp, B7⟩
  · have hFA2 := hFA hmA
    subst hFA2
    cases hmB : may B.data.toList
    · have cA := Go.Lib.hid (fun w => may_told (by omega) hmA w)
      have cB := Go.Lib.hid (fun w => may_told (by omega) hmB w)
      have cT := Go.Lib.hid (fun w => tag_told (a := F) (b := B) (t := ⟨#[]⟩) (by omega) (by omega) (by unfold tag; rw [hmB, Bool.and_false, if_neg (by decide)]) w)
      have cP := Go.Lib.hid (fun w => parts_told (s := ⟨#[]⟩) (k := ⟨#[]⟩) (v := ⟨#[]⟩) (b := false) (by decide) rfl w)
      clear hmA hmB hlA hlB hFB hFA
      go_wp2_with fail
      refine (cF.out _).mono ?_
      rintro e w2 ⟨rfl, b2⟩
      have B2 := below_chain B1 b2
      go_wp2_with fail
      refine (cS.out _).mono ?_
      rintro e w' ⟨rfl, rfl⟩
      go_wp2_with fail
      refine (cT.out _).mono ?_
      rintro e w3 ⟨rfl, b3⟩
      have B3 := below_chain B2 b3
      go_wp2_with fail
      refine (cP.out _).mono ?_
      rintro e w4 ⟨rfl, b4⟩
      have B4 := below_chain B3 b4
      go_wp2_with fail
      refine (cA.out _).mono ?_
      rintro e w5 ⟨rfl, b5⟩
      have B5 := below_chain B4 b5
      go_wp2_with fail
      refine (cS.out _).mono ?_
      rintro e w' ⟨rfl, rfl⟩
      go_wp2_with fail
      refine (cB.out _).mono ?_
      rintro e w5' ⟨rfl, b5'⟩
      have B5' := below_chain B5 b5'
      go_wp2_with fail
      refine (cG.out _).mono ?_
      rintro e w6 ⟨rfl, b6⟩
      have B6 := below_chain B5' b6
      go_wp2_with fail
      refine (cA.out _).mono ?_
      rintro e w7 ⟨rfl, b7⟩
      have B7 := below_chain B6 b7
      go_wp2_with fail
      go_ret
      exact ⟨by simp, B7⟩
    · have cA := Go.Lib.hid (fun w => may_told (by omega) hmA w)
      have cB := Go.Lib.hid (fun w => may_told (by omega) hmB w)
      have cT := Go.Lib.hid (fun w => tag_told (a := F) (b := B) (t := ⟨(F.data.toList ++ 58 :: B.data.toList).toArray⟩) (by omega) (by omega) (by unfold tag; rw [hmA, hmB, Bool.true_and, if_pos rfl]) w)
      have hts : (⟨(F.data.toList ++ 58 :: B.data.toList).toArray⟩ : ByteArray).size ≤ 200 := by rw [size_list, ba_list, List.length_append, List.length_cons]; omega
      have cP := Go.Lib.hid (fun w => parts_told (s := ⟨(F.data.toList ++ 58 :: B.data.toList).toArray⟩) (k := F) (v := B) (b := true) (by omega) (by rw [ba_list]; exact parts_both hmA hmB) w)
      generalize (⟨(F.data.toList ++ 58 :: B.data.toList).toArray⟩ : ByteArray) = T at *
      clear hmA hmB hlA hlB hFB hFA hts
      go_wp2_with fail
      refine (cF.out _).mono ?_
      rintro e w2 ⟨rfl, b2⟩
      have B2 := below_chain B1 b2
      go_wp2_with fail
      refine (cS.out _).mono ?_
      rintro e w' ⟨rfl, rfl⟩
      go_wp2_with fail
      refine (cT.out _).mono ?_
      rintro e w3 ⟨rfl, b3⟩
      have B3 := below_chain B2 b3
      go_wp2_with fail
      refine (cP.out _).mono ?_
      rintro e w4 ⟨rfl, b4⟩
      have B4 := below_chain B3 b4
      go_wp2_with fail
      refine (cA.out _).mono ?_
      rintro e w5 ⟨rfl, b5⟩
      have B5 := below_chain B4 b5
      go_wp2_with fail
      refine (cS.out _).mono ?_
      rintro e w' ⟨rfl, rfl⟩
      go_wp2_with fail
      refine (cB.out _).mono ?_
      rintro e w5' ⟨rfl, b5'⟩
      have B5' := below_chain B5 b5'
      go_wp2_with fail
      refine (cG.out _).mono ?_
      rintro e w6 ⟨rfl, b6⟩
      have B6 := below_chain B5' b6
      go_wp2_with fail
      refine (cA.out _).mono ?_
      rintro e w7 ⟨rfl, b7⟩
      have B7 := below_chain B6 b7
      go_wp2_with fail
      refine (cS.out _).mono ?_
      rintro e w' ⟨rfl, rfl⟩
      go_wp2_with fail
      go_ret
      exact ⟨by simp, B7⟩

section
variable {H : Type} {enc : TypeId × Value → H}
theorem folds_main (W : World) (base : Nat) (v0 v1 : Value) {d0 d1 : DataW H} {p0 p1 : List MemPlace} (o0 : Value.okWide Try.prog W .any base 9 v0) (o1 : Value.okWide Try.prog W .any base 9 v1)
    (h0 : DataW.Trod enc Try.prog W 0 (fun _ => true) true 9 v0 d0 p0) (h1 : DataW.Trod enc Try.prog W 0 (fun _ => true) true 9 v1 d1 p1) :
    Calls Try.prog 5 #[v0, v1] W fun e W' => e = .returned (.bool true) ∧ Below W.heap.size W W' := by
  obtain ⟨a, rfl, ha⟩ := op_string Try.underlying9 o0 h0
  obtain ⟨b, rfl, hb⟩ := op_string Try.underlying9 o1 h1
  unfold maxLen at ha hb
  exact folds_walk a b (by omega) (by omega) W
end

end Go.Proofs.Ytinmmaoedmepbaa.NameLaw
