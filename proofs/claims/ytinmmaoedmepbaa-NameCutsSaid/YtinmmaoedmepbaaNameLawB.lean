/-
  Walk of a statement of layer 3: NameCuts.
-/
import Derived.Test.YtinmmaoedmepbaaNameShown
import Derived.Test.YtinmmaoedmepbaaOpen
namespace Go.Proofs.Ytinmmaoedmepbaa.NameLaw
open Go.RowKit Go.WideShapes Go.ChangeShapes Go.Proofs.Ytinmmaoedmepbaa.NameMath Go.Proofs.Ytinmmaoedmepbaa.NameWalk Go.Proofs.Ytinmmaoedmepbaa.Open

theorem may_more {A B : ByteArray} (h : may A.data.toList = true) (hn : A.size + B.size ≤ 24) (hb : allL B.data.toList = true) : may (A ++ B).data.toList = true := by
  have hp := may_parts h
  have e1 := size_list A
  have e2 := size_list B
  rw [ba_append]
  have hne : A.data.toList ≠ [] := by intro e; rw [e] at hp; exact absurd hp.1 (by decide)
  exact may_of (by rw [List.length_append]; omega) (by rw [List.length_append]; omega) (by rw [first_append _ hne]; exact hp.2.2.1) (by rw [allL_append _ _ hp.2.2.2]; exact hb)

/-- The first bytes of a name. -/
theorem may_cut {S : ByteArray} {n : Nat} (h : may S.data.toList = true) (h1 : 1 ≤ n) (h2 : n < S.size) : may (S.extract 0 n).data.toList = decide (fold (S.data.toList.take n) = S.data.toList.take n) := by
  have hp := may_parts h
  have e1 := size_list S
  rw [ba_take, ← allL_iff]
  unfold may
  have hl : (S.data.toList.take n).length = n := by rw [List.length_take]; omega
  have hf : first (S.data.toList.take n) = true := by
    have h3 := hp.2.2.1
    rw [← List.take_append_drop n S.data.toList, first_append] at h3
    · exact h3
    · intro e
      rw [e] at hl
      simp at hl
      omega
  rw [hl, hf, decide_eq_true (by omega)]
  rfl

set_option maxHeartbeats 8000000 in
set_option maxRecDepth 100000 in
theorem cuts_walk (a : ByteArray) (z : Int) (ha : a.size ≤ 9223372036854775807) (w : World) :
    Calls Try.prog 7 #[.string a, .int .i64 z] w fun e w' => e = .returned (.bool true) ∧ Below w.heap.size w w' := by
  have HA := sh_size a
  go_enter Try.func7, Try.ntmps7
  go_wp2_with fail
  refine (shown_any _).mono ?_
  rintro e w1 ⟨rfl, B1⟩
  go_wp2_with fail
  refine (short_any a _ ha).mono ?_
  rintro e w' ⟨rfl, rfl⟩
  generalize sh a = S at *
  have hm : S.size + 1 ≤ 9223372036854775807 := by omega
  cases hmA : may S.data.toList
  · have cA := Go.Lib.hid (fun w => may_told (by omega) hmA w)
    clear hmA
    go_wp2_with fail
    refine (cA.out _).mono ?_
    rintro e w2 ⟨rfl, b2⟩
    go_wp2_with fail
    go_ret
    exact ⟨rfl, below_chain B1 b2⟩
  · have cA := Go.Lib.hid (fun w => may_told (by omega) hmA w)
    by_cases z0 : z ≤ 0
    · clear hmA
      go_wp2_with fail
      refine (cA.out _).mono ?_
      rintro e w2 ⟨rfl, b2⟩
      go_wp2_with fail
      go_ret
      exact ⟨rfl, below_chain B1 b2⟩
    by_cases z1 : (S.size : Int) ≤ z
    · clear hmA
      go_wp2_with fail
      refine (cA.out _).mono ?_
      rintro e w2 ⟨rfl, b2⟩
      go_wp2_with fail
      go_ret
      exact ⟨rfl, below_chain B1 b2⟩
    obtain ⟨n, rfl⟩ : ∃ n : Nat, z = (n : Int) := ⟨z.toNat, by omega⟩
    have h1 : 1 ≤ n := by omega
    have h2 : n < S.size := by omega
    have hc := may_cut hmA h1 h2
    have hes : (S.extract 0 n).size ≤ 60 := by rw [size_list, ba_take, List.length_take]; omega
    have cM := Go.Lib.hid (fun w => may_told (s := S.extract 0 n) (by omega) hc w)
    have cF := Go.Lib.hid (fun w => fold_told (s := S.extract 0 n) (t := ⟨(fold (S.extract 0 n).data.toList).toArray⟩) (by omega) rfl w)
    rw [ba_take] at cF
    have z2 : (0 : Int) ≤ (n : Int) := by omega
    have z3 : (n : Int) ≤ S.size := by omega
    generalize hEX : decide (fold (S.data.toList.take n) = S.data.toList.take n) = X at *
    generalize hFF : (⟨(fold (S.data.toList.take n)).toArray⟩ : ByteArray) = FF at *
    cases X
    · have hne : ¬ FF.data.toList = (S.extract 0 n).data.toList := by
        rw [← hFF, ba_list, ba_take]
        exact of_decide_eq_false hEX
      have hne2 : ¬ FF.toList = (S.extract 0 n).toList := by rw [ByteArray.toList_eq, ByteArray.toList_eq]; exact hne
      clear hne
      clear hFF
      by_cases h23 : 23 < S.size
      · have k23 : (23 : Int) < S.size := by omega
        clear hc hes h1 h2 hmA hEX
        go_wp2_with fail
        refine (cA.out _).mono ?_
        rintro e w2 ⟨rfl, b2⟩
        have B2 := below_chain B1 b2
        go_wp2_with fail
        refine (cF.out _).mono ?_
        rintro e w3 ⟨rfl, b3⟩
        have B3 := below_chain B2 b3
        go_wp2_with fail
        refine (cM.out _).mono ?_
        rintro e w4 ⟨rfl, b4⟩
        have B4 := below_chain B3 b4
        go_wp2_with fail
        go_ret
        exact ⟨by simp [hne2], B4⟩
      · have k23 : ¬ (23 : Int) < S.size := by omega
        have c1 := Go.Lib.hid (fun w => may_told (s := S ++ ⟨#[45]⟩) (by rw [ba_size]; show S.size + 1 ≤ _; omega) (may_more hmA (by show S.size + 1 ≤ 24; omega) (by decide)) w)
        have c2 := Go.Lib.hid (fun w => may_told (s := S ++ ⟨#[57]⟩) (by rw [ba_size]; show S.size + 1 ≤ _; omega) (may_more hmA (by show S.size + 1 ≤ 24; omega) (by decide)) w)
        clear hc hes h1 h2 hmA hEX
        go_wp2_with fail
        refine (cA.out _).mono ?_
        rintro e w2 ⟨rfl, b2⟩
        have B2 := below_chain B1 b2
        go_wp2_with fail
        refine (cF.out _).mono ?_
        rintro e w3 ⟨rfl, b3⟩
        have B3 := below_chain B2 b3
        go_wp2_with fail
        refine (cM.out _).mono ?_
        rintro e w4 ⟨rfl, b4⟩
        have B4 := below_chain B3 b4
        go_wp2_with fail
        refine (c1.out _).mono ?_
        rintro e w5 ⟨rfl, b5⟩
        have B5 := below_chain B4 b5
        go_wp2_with fail
        refine (c2.out _).mono ?_
        rintro e w6 ⟨rfl, b6⟩
        have B6 := below_chain B5 b6
        go_wp2_with fail
        go_ret
        exact ⟨by simp [hne2], B6⟩
    · have he : FF = S.extract 0 n := by
        rw [← hFF]
        exact ba_ext (by rw [ba_take]; exact of_decide_eq_true hEX)
      subst he
      clear hFF
      by_cases h23 : 23 < S.size
      · have k23 : (23 : Int) < S.size := by omega
        clear hc hes h1 h2 hmA hEX
        go_wp2_with fail
        refine (cA.out _).mono ?_
        rintro e w2 ⟨rfl, b2⟩
        have B2 := below_chain B1 b2
        go_wp2_with fail
        refine (cF.out _).mono ?_
        rintro e w3 ⟨rfl, b3⟩
        have B3 := below_chain B2 b3
        go_wp2_with fail
        refine (cM.out _).mono ?_
        rintro e w4 ⟨rfl, b4⟩
        have B4 := below_chain B3 b4
        go_wp2_with fail
        go_ret
        exact ⟨by simp, B4⟩
      · have k23 : ¬ (23 : Int) < S.size := by omega
        have c1 := Go.Lib.hid (fun w => may_told (s := S ++ ⟨#[45]⟩) (by rw [ba_size]; show S.size + 1 ≤ _; omega) (may_more hmA (by show S.size + 1 ≤ 24; omega) (by decide)) w)
        have c2 := Go.Lib.hid (fun w => may_told (s := S ++ ⟨#[57]⟩) (by rw [ba_size]; show S.size + 1 ≤ _; omega) (may_more hmA (by show S.size + 1 ≤ 24; omega) (by decide)) w)
        clear hc hes h1 h2 hmA hEX
        go_wp2_with fail
        refine (cA.out _).mono ?_
        rintro e w2 ⟨rfl, b2⟩
        have B2 := below_chain B1 b2
        go_wp2_with fail
        refine (cF.out _).mono ?_
        rintro e w3 ⟨rfl, b3⟩
        have B3 := below_chain B2 b3
        go_wp2_with fail
        refine (cM.out _).mono ?_
        rintro e w4 ⟨rfl, b4⟩
        have B4 := below_chain B3 b4
        go_wp2_with fail
        refine (c1.out _).mono ?_
        rintro e w5 ⟨rfl, b5⟩
        have B5 := below_chain B4 b5
        go_wp2_with fail
        refine (c2.out _).mono ?_
        rintro e w6 ⟨rfl, b6⟩
        have B6 := below_chain B5 b6
        go_wp2_with fail
        go_ret
        exact ⟨by simp, B6⟩

section
variable {H : Type} {enc : TypeId × Value → H}
theorem cuts_main (W : World) (base : Nat) (v0 v1 : Value) {d0 d1 : DataW H} {p0 p1 : List MemPlace} (o0 : Value.okWide Try.prog W .any base 9 v0) (o1 : Value.okWide Try.prog W .any base 3 v1)
    (h0 : DataW.Trod enc Try.prog W 0 (fun _ => true) true 9 v0 d0 p0) (h1 : DataW.Trod enc Try.prog W 0 (fun _ => true) true 3 v1 d1 p1) :
    Calls Try.prog 7 #[v0, v1] W fun e W' => e = .returned (.bool true) ∧ Below W.heap.size W W' := by
  obtain ⟨a, rfl, ha⟩ := op_string Try.underlying9 o0 h0
  obtain ⟨z, rfl, wz⟩ := op_int Try.underlying3 o1 h1
  unfold maxLen at ha
  exact cuts_walk a z (by omega) W
end

end Go.Proofs.Ytinmmaoedmepbaa.NameLaw
