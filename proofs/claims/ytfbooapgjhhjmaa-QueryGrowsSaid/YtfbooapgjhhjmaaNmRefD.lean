/-
  Contracts of the document's own answers for layer 3 (registrarref03): Tag, Parts.
-/
import Derived.Test.YtfbooapgjhhjmaaNmRefB
namespace Go.Proofs.Ytfbooapgjhhjmaa.NameWalk
open Go.RowKit Go.Proofs.Ytfbooapgjhhjmaa.NameMath

set_option maxHeartbeats 4000000 in
set_option maxRecDepth 100000 in
theorem refParts_any (s : ByteArray) (w : World) (hs : s.size ≤ 9223372036854775807) :
    Calls Try.prog 31 #[.string s] w fun e w' => e = .returned (.tuple #[.string ⟨(parts s.data.toList).1.toArray⟩, .string ⟨(parts s.data.toList).2.1.toArray⟩, .bool (parts s.data.toList).2.2]) ∧ Below w.heap.size w w' := by
  have hsz := size_list s
  have HS := Go.Lib.hid hsz
  clear hsz
  generalize hP : parts s.data.toList = Q
  have HP := Go.Lib.hid hP
  clear hP
  go_enter Try.func31, Try.ntmps31
  go_wp2
  go_loop [5] (fun i => ∃ k : Nat, k ≤ s.size ∧ i = .int .i64 (k : Int) ∧ ∀ x ∈ s.data.toList.take k, x.toNat ≠ 58) (fun i => s.size - (intOf i).toNat)
  case atStart => exact ⟨0, by omega, rfl, by simp⟩
  case round =>
    obtain ⟨k, hk, rfl, hno⟩ := hrel
    have HNO := Go.Lib.hid hno
    clear hno
    by_cases h4 : k < s.size
    · have q1 : (k : Int) < s.size := by omega
      have q0 : (0 : Int) ≤ k := by omega
      have hdp := drop_at h4
      have HD := Go.Lib.hid hdp
      have htk : s.data.toList = s.data.toList.take k ++ s.data.toList.drop k := (List.take_append_drop k _).symm
      have HTK := Go.Lib.hid htk
      clear hdp htk
      by_cases c : (s[k]'h4).toNat = 58
      · have hcut : cutC s.data.toList = some (s.data.toList.take k, s.data.toList.drop (k + 1)) := by
          have e1 : s[k]'h4 = 58 := u8ext c
          have e2 := cut_none HNO.out (s.data.toList.drop (k + 1))
          rw [← e1, ← HD.out, ← HTK.out] at e2
          exact e2
        have hQ : Q = if (may (s.data.toList.take k) && may (s.data.toList.drop (k + 1))) = true then (s.data.toList.take k, s.data.toList.drop (k + 1), true) else ([], [], false) := by
          rw [← HP.out]; unfold parts; rw [hcut]
        obtain ⟨j, hj⟩ : ∃ j : Nat, j = k + 1 := ⟨_, rfl⟩
        rw [← hj] at hQ
        have hz : (k : Int) + 1 = j := by omega
        have n2 : (0 : Int) ≤ j := by omega
        have n3 : (j : Int) ≤ s.size := by omega
        have n4 : (k : Int) ≤ s.size := by omega
        have l1 : (s.extract 0 k).size ≤ 9223372036854775807 := by rw [size_list, ba_take, List.length_take]; omega
        have l2 : (s.extract j s.size).size ≤ 9223372036854775807 := by rw [size_list, ba_drop, List.length_drop, ← HS.out]; omega
        have ma := fun w => refMay_any (s.extract 0 k) w l1
        have mb := fun w => refMay_any (s.extract j s.size) w l2
        rw [ba_take] at ma
        rw [ba_drop] at mb
        generalize may (s.data.toList.take k) = X at *
        generalize may (s.data.toList.drop j) = Y at *
        have MA := Go.Lib.hid ma
        have MB := Go.Lib.hid mb
        have hcz : ((s[k]'h4).toNat : Int) = 58 := by omega
        have HQ := Go.Lib.hid hQ
        clear ma mb hcut hQ l1 l2 hj
        cases X
        · have hQ0 : Q = ([], [], false) := by rw [HQ.out, Bool.false_and, if_neg (by decide)]
          subst hQ0
          cases Y
          all_goals
            go_wp2_with fail
            refine (MA.out _).mono ?_
            rintro e w2 ⟨rfl, b2⟩
            go_wp2_with fail
            refine (MB.out _).mono ?_
            rintro e w3 ⟨rfl, b4⟩
            have b5 := below_chain b2 b4
            go_wp2_with fail
            go_ret3
            exact ⟨rfl, b5⟩
        · cases Y
          · have hQ0 : Q = ([], [], false) := by rw [HQ.out, Bool.and_false, if_neg (by decide)]
            subst hQ0
            go_wp2_with fail
            refine (MA.out _).mono ?_
            rintro e w2 ⟨rfl, b2⟩
            go_wp2_with fail
            refine (MB.out _).mono ?_
            rintro e w3 ⟨rfl, b4⟩
            have b5 := below_chain b2 b4
            go_wp2_with fail
            go_ret3
            exact ⟨rfl, b5⟩
          · have hQ0 : Q = (s.data.toList.take k, s.data.toList.drop j, true) := by rw [HQ.out, Bool.true_and, if_pos rfl]
            have e1 : (⟨Q.1.toArray⟩ : ByteArray) = s.extract 0 k := ba_ext (by rw [hQ0, ba_take])
            have e2 : (⟨Q.2.1.toArray⟩ : ByteArray) = s.extract j s.size := ba_ext (by rw [hQ0, ba_drop])
            have e3 : Q.2.2 = true := by rw [hQ0]
            have HE := Go.Lib.hid (And.intro e1 (And.intro e2 e3))
            clear hQ0 e1 e2 e3
            go_wp2_with fail
            refine (MA.out _).mono ?_
            rintro e w2 ⟨rfl, b2⟩
            go_wp2_with fail
            refine (MB.out _).mono ?_
            rintro e w3 ⟨rfl, b4⟩
            have b5 := below_chain b2 b4
            go_wp2_with fail
            go_region
            go_wp2_with fail
            go_ret3
            rw [HE.out.1, HE.out.2.1, HE.out.2.2]
            exact ⟨rfl, bel_drew b5⟩
      · have hcz : ¬ ((s[k]'h4).toNat : Int) = 58 := by omega
        have hcb : (((s[k]'h4).toNat : Int) == 58) = false := beq_eq_false_iff_ne.2 hcz
        have HC := Go.Lib.hid c
        clear c
        go_wp2_with fail
        go_round
        case rel =>
          refine ⟨k + 1, by omega, by simp, ?_⟩
          intro x hx
          rw [List.take_add_one, List.mem_append] at hx
          rcases hx with hx | hx
          · exact HNO.out x hx
          · have h5 : s.data.toList[k]? = some (s[k]'h4) := by
              have h6 := congrArg (fun l => l[0]?) HD.out
              simp at h6
              rw [Array.getElem?_toList]
              exact h6
            rw [h5] at hx
            simp at hx
            subst hx
            exact HC.out
        case measure =>
          simp [intOf]
          omega
    · have q1 : ¬ (k : Int) < s.size := by omega
      have hQ0 : Q = ([], [], false) := by
        rw [← HP.out]
        have hh := HNO.out
        rw [List.take_of_length_le (by rw [← HS.out]; omega)] at hh
        unfold parts
        rw [cut_all hh]
      subst hQ0
      go_wp2_with fail
      go_ret3
      exact ⟨rfl, Below.refl _ _⟩

end Go.Proofs.Ytfbooapgjhhjmaa.NameWalk
