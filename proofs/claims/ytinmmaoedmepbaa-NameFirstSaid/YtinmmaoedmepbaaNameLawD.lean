/-
  Walk of a statement of layer 3: NameFirst.
-/
import Derived.Test.YtinmmaoedmepbaaNameShown
import Derived.Test.YtinmmaoedmepbaaOpen
namespace Go.Proofs.Ytinmmaoedmepbaa.NameLaw
open Go.RowKit Go.WideShapes Go.ChangeShapes Go.Proofs.Ytinmmaoedmepbaa.NameMath Go.Proofs.Ytinmmaoedmepbaa.NameWalk Go.Proofs.Ytinmmaoedmepbaa.Open

theorem may_no_first {l : List UInt8} (h : first l = false) : may l = false := by unfold may; rw [h, Bool.false_and, Bool.and_false]
theorem may_no_all {l : List UInt8} (h : allL l = false) : may l = false := by unfold may; rw [h, Bool.and_false, Bool.and_false]

set_option maxHeartbeats 8000000 in
set_option maxRecDepth 100000 in
theorem first_walk (a : ByteArray) (ha : a.size ≤ 9223372036854775807) (w : World) :
    Calls Try.prog 8 #[.string a] w fun e w' => e = .returned (.bool true) ∧ Below w.heap.size w w' := by
  have HA := sh_size a
  go_enter Try.func8, Try.ntmps8
  go_wp2_with fail
  refine (shown_any _).mono ?_
  rintro e w1 ⟨rfl, B1⟩
  go_wp2_with fail
  refine (short_any a _ ha).mono ?_
  rintro e w' ⟨rfl, rfl⟩
  generalize sh a = S at *
  cases hmA : may S.data.toList
  · have cA := Go.Lib.hid (fun w => may_told (by omega) hmA w)
    clear hmA
    go_wp2_with fail
    refine (cA.out _).mono ?_
    rintro e w2 ⟨rfl, b2⟩
    go_wp2_with fail
    go_ret
    exact ⟨rfl, below_chain B1 b2⟩
  · have hp := may_parts hmA
    have hl := size_list S
    have s1 : ∀ c : UInt8, ((⟨#[c]⟩ : ByteArray) ++ S).size = 1 + S.size := fun c => ba_size _ _
    have s2 : ∀ c : UInt8, (S ++ (⟨#[c]⟩ : ByteArray)).size = S.size + 1 := fun c => ba_size _ _
    have s3 : ∀ c d : UInt8, (S ++ (⟨#[c, d]⟩ : ByteArray)).size = S.size + 2 := fun c d => ba_size _ _
    have s4 : ∀ c d : UInt8, ((⟨#[c, d]⟩ : ByteArray) ++ S).size = 2 + S.size := fun c d => ba_size _ _
    have l1 : ∀ c : UInt8, ((⟨#[c]⟩ : ByteArray) ++ S).data.toList = c :: S.data.toList := fun c => by rw [ba_append]; rfl
    have l2 : ∀ c : UInt8, (S ++ (⟨#[c]⟩ : ByteArray)).data.toList = S.data.toList ++ [c] := fun c => by rw [ba_append]
    have l3 : ∀ c d : UInt8, (S ++ (⟨#[c, d]⟩ : ByteArray)).data.toList = S.data.toList ++ [c, d] := fun c d => by rw [ba_append]
    have l4 : ∀ c d : UInt8, ((⟨#[c, d]⟩ : ByteArray) ++ S).data.toList = c :: d :: S.data.toList := fun c d => by rw [ba_append]; rfl
    have hcol : allL (58 :: S.data.toList) = false := by
      cases S.data.toList with
      | nil => rfl
      | cons b l => rw [allL, if_neg (by decide), if_neg (by simp [two])]
    have cA := Go.Lib.hid (fun w => may_told (by omega) hmA w)
    have cP := Go.Lib.hid (fun w => parts_told (s := (⟨#[97, 58]⟩ : ByteArray) ++ S) (k := ⟨#[97]⟩) (v := S) (b := true) (by rw [s4]; omega) (by rw [l4]; exact parts_both (a := [97]) (by decide) hmA) w)
    have c1 := Go.Lib.hid (fun w => may_told (s := (⟨#[55]⟩ : ByteArray) ++ S) (b := false) (by rw [s1]; omega) (by rw [l1]; exact may_no_first (by simp [first])) w)
    have c2 := Go.Lib.hid (fun w => may_told (s := (⟨#[45]⟩ : ByteArray) ++ S) (b := false) (by rw [s1]; omega) (by rw [l1]; exact may_no_first (by simp [first])) w)
    have c3 := Go.Lib.hid (fun w => may_told (s := S ++ (⟨#[58]⟩ : ByteArray)) (b := false) (by rw [s2]; omega) (by rw [l2]; exact may_no_all (by rw [allL_append _ _ hp.2.2.2]; decide)) w)
    have c4 := Go.Lib.hid (fun w => may_told (s := (⟨#[58]⟩ : ByteArray) ++ S) (b := false) (by rw [s1]; omega) (by rw [l1]; exact may_no_all hcol) w)
    have c5 := Go.Lib.hid (fun w => mayTag_told (s := S) (b := false) (by omega) (by rw [parts_name hmA]) w)
    have c6 := Go.Lib.hid (fun w => mayTag_told (s := S ++ (⟨#[58, 98]⟩ : ByteArray)) (b := true) (by rw [s3]; omega) (by rw [l3, parts_both (b := [98]) hmA (by decide)]) w)
    have c7 := Go.Lib.hid (fun w => mayTag_told (s := S ++ (⟨#[58, 55]⟩ : ByteArray)) (b := false) (by rw [s3]; omega) (by rw [l3, parts_behind (b := [55]) hmA (by decide)]) w)
    have hm1 : 1 + S.size ≤ 9223372036854775807 := by omega
    have hm2 : S.size + 1 ≤ 9223372036854775807 := by omega
    have hm3 : 2 + S.size ≤ 9223372036854775807 := by omega
    have hm4 : S.size + 2 ≤ 9223372036854775807 := by omega
    by_cases h23 : 23 < S.size
    · have k23 : (23 : Int) < S.size := by omega
      clear hp hl s1 s2 s3 s4 l1 l2 l3 l4 hcol hmA
      go_wp2_with fail
      refine (cA.out _).mono ?_
      rintro e w2 ⟨rfl, b2⟩
      have B2 := below_chain B1 b2
      clear B1 b2
      go_wp2_with fail
      refine (cP.out _).mono ?_
      rintro e w3 ⟨rfl, b3⟩
      have B3 := below_chain B2 b3
      clear B2 b3
      go_wp2_with fail
      refine (c1.out _).mono ?_
      rintro e w4 ⟨rfl, b4⟩
      have B4 := below_chain B3 b4
      clear B3 b4
      go_wp2_with fail
      refine (c2.out _).mono ?_
      rintro e w5 ⟨rfl, b5⟩
      have B5 := below_chain B4 b5
      clear B4 b5
      go_wp2_with fail
      refine (c3.out _).mono ?_
      rintro e w6 ⟨rfl, b6⟩
      have B6 := below_chain B5 b6
      clear B5 b6
      go_wp2_with fail
      refine (c4.out _).mono ?_
      rintro e w7 ⟨rfl, b7⟩
      have B7 := below_chain B6 b7
      clear B6 b7
      go_wp2_with fail
      refine (c5.out _).mono ?_
      rintro e w8 ⟨rfl, b8⟩
      have B8 := below_chain B7 b8
      clear B7 b8
      go_wp2_with fail
      refine (c6.out _).mono ?_
      rintro e w9 ⟨rfl, b9⟩
      have B9 := below_chain B8 b9
      clear B8 b9
      go_wp2_with fail
      refine (c7.out _).mono ?_
      rintro e w10 ⟨rfl, b10⟩
      have B10 := below_chain B9 b10
      clear B9 b10
      go_wp2_with fail
      go_ret
      exact ⟨by simp, B10⟩
    · have k23 : ¬ (23 : Int) < S.size := by omega
      have c8 := Go.Lib.hid (fun w => may_told (s := (⟨#[95]⟩ : ByteArray) ++ S) (b := true) (by rw [s1]; omega) (by rw [l1]; exact may_of (by simp) (by rw [List.length_cons]; omega) (by simp [first]) (by rw [allL_low _ (by decide)]; exact hp.2.2.2)) w)
      clear hp hl s1 s2 s3 s4 l1 l2 l3 l4 hcol hmA
      go_wp2_with fail
      refine (cA.out _).mono ?_
      rintro e w2 ⟨rfl, b2⟩
      have B2 := below_chain B1 b2
      clear B1 b2
      go_wp2_with fail
      refine (cP.out _).mono ?_
      rintro e w3 ⟨rfl, b3⟩
      have B3 := below_chain B2 b3
      clear B2 b3
      go_wp2_with fail
      refine (c1.out _).mono ?_
      rintro e w4 ⟨rfl, b4⟩
      have B4 := below_chain B3 b4
      clear B3 b4
      go_wp2_with fail
      refine (c2.out _).mono ?_
      rintro e w5 ⟨rfl, b5⟩
      have B5 := below_chain B4 b5
      clear B4 b5
      go_wp2_with fail
      refine (c3.out _).mono ?_
      rintro e w6 ⟨rfl, b6⟩
      have B6 := below_chain B5 b6
      clear B5 b6
      go_wp2_with fail
      refine (c4.out _).mono ?_
      rintro e w7 ⟨rfl, b7⟩
      have B7 := below_chain B6 b7
      clear B6 b7
      go_wp2_with fail
      refine (c5.out _).mono ?_
      rintro e w8 ⟨rfl, b8⟩
      have B8 := below_chain B7 b8
      clear B7 b8
      go_wp2_with fail
      refine (c6.out _).mono ?_
      rintro e w9 ⟨rfl, b9⟩
      have B9 := below_chain B8 b9
      clear B8 b9
      go_wp2_with fail
      refine (c7.out _).mono ?_
      rintro e w10 ⟨rfl, b10⟩
      have B10 := below_chain B9 b10
      clear B9 b10
      go_wp2_with fail
      refine (c8.out _).mono ?_
      rintro e w11 ⟨rfl, b11⟩
      have B11 := below_chain B10 b11
      clear B10 b11
      go_wp2_with fail
      go_ret
      exact ⟨by simp, B11⟩

section
variable {H : Type} {enc : TypeId × Value → H}
theorem first_main (W : World) (base : Nat) (v0 : Value) {d0 : DataW H} {p0 : List MemPlace} (o0 : Value.okWide Try.prog W .any base 9 v0)
    (h0 : DataW.Trod enc Try.prog W 0 (fun _ => true) true 9 v0 d0 p0) :
    Calls Try.prog 8 #[v0] W fun e W' => e = .returned (.bool true) ∧ Below W.heap.size W W' := by
  obtain ⟨a, rfl, ha⟩ := op_string Try.underlying9 o0 h0
  unfold maxLen at ha
  exact first_walk a (by omega) W
end

end Go.Proofs.Ytinmmaoedmepbaa.NameLaw
