/-
  Tags: cutting at the first colon; contracts of strings.Cut at ":", Parts, MayTag, Tag; the laws' head (shown, short).
-/
import Derived.Test.YtfbooapgjhhjmaaNmMay
import Derived.Test.YtfbooapgjhhjmaaNmIdx
import Derived.WalkMore
import Derived.Laws.Strings3
import Derived.Lib.Strings
import Derived.Lib.Bytealg
import Derived.Deep.QuietTactic
import Derived.BigQuiet
namespace Go.Proofs.Ytfbooapgjhhjmaa.NameMath

/-- A text cut at its first colon. -/
def cutC : List UInt8 → Option (List UInt8 × List UInt8)
  | [] => none
  | a :: l => if a.toNat = 58 then some ([], l) else (cutC l).map fun p => (a :: p.1, p.2)

def parts (l : List UInt8) : List UInt8 × List UInt8 × Bool := match cutC l with
  | some p => if (may p.1 && may p.2) = true then (p.1, p.2, true) else ([], [], false)
  | none => ([], [], false)

def tag (a b : List UInt8) : List UInt8 := if (may a && may b) = true then a ++ 58 :: b else []

theorem cut_index : ∀ l : List UInt8, (Lib.indexByte l 58 = -1 ∧ cutC l = none) ∨ ∃ i : Nat, i < l.length ∧ Lib.indexByte l 58 = (i : Int) ∧ cutC l = some (l.take i, l.drop (i + 1))
  | [] => .inl ⟨rfl, rfl⟩
  | a :: l => by
    by_cases h : a.toNat = 58
    · right
      have : a = 58 := u8ext h
      subst this
      exact ⟨0, by simp, rfl, rfl⟩
    · have hne : (a == 58) = false := by
        simp only [beq_eq_false_iff_ne]
        rintro rfl
        exact h rfl
      rcases cut_index l with ⟨h1, h2⟩ | ⟨i, h0, h1, h2⟩
      · left
        refine ⟨?_, ?_⟩
        · rw [Lib.indexByte, hne, h1]; rfl
        · rw [cutC, if_neg h, h2]; rfl
      · right
        refine ⟨i + 1, by simp; omega, ?_, ?_⟩
        · rw [Lib.indexByte, hne, h1]
          have h4 : (((i : Nat) : Int) == -1) = false := by simp only [beq_eq_false_iff_ne]; omega
          rw [h4]; simp
        · rw [cutC, if_neg h, h2]; rfl

theorem cut_none {l : List UInt8} (h : ∀ x ∈ l, x.toNat ≠ 58) (b : List UInt8) : cutC (l ++ 58 :: b) = some (l, b) := by
  induction l with
  | nil => rfl
  | cons a l ih =>
    rw [List.cons_append, cutC, if_neg (h a (by simp)), ih (fun x hx => h x (by simp [hx]))]
    rfl

theorem cut_all {l : List UInt8} (h : ∀ x ∈ l, x.toNat ≠ 58) : cutC l = none := by
  induction l with
  | nil => rfl
  | cons a l ih =>
    rw [cutC, if_neg (h a (by simp)), ih (fun x hx => h x (by simp [hx]))]
    rfl

theorem allL_colon : ∀ {l : List UInt8}, allL l = true → ∀ x ∈ l, x.toNat ≠ 58
  | [], _, x, hx => by simp at hx
  | [a], h, x, hx => by
    simp [allL] at h hx
    subst hx
    simp only [low, decide_eq_true_eq] at h
    omega
  | a :: b :: l, h, x, hx => by
    by_cases ha : low a = true
    · rw [allL_low _ ha] at h
      rcases List.mem_cons.1 hx with rfl | hx
      · simp only [low, decide_eq_true_eq] at ha; omega
      · exact allL_colon h x hx
    · have ha' : low a = false := by simpa using ha
      rw [allL, ha', if_neg (by decide)] at h
      by_cases ht : two a b = true
      · rw [if_pos ht] at h
        simp only [two, decide_eq_true_eq] at ht
        rcases List.mem_cons.1 hx with rfl | hx
        · omega
        · rcases List.mem_cons.1 hx with rfl | hx
          · omega
          · exact allL_colon h x hx
      · rw [if_neg ht] at h
        exact absurd h (by decide)

theorem parts_tag {a b : List UInt8} (ha : may a = true) : cutC (a ++ 58 :: b) = some (a, b) := cut_none (allL_colon (may_parts ha).2.2.2) b

theorem parts_name {a : List UInt8} (ha : may a = true) : parts a = ([], [], false) := by
  unfold parts
  rw [cut_all (allL_colon (may_parts ha).2.2.2)]

theorem parts_both {a b : List UInt8} (ha : may a = true) (hb : may b = true) : parts (a ++ 58 :: b) = (a, b, true) := by
  unfold parts
  rw [parts_tag ha]
  simp [ha, hb]

theorem parts_behind {a b : List UInt8} (ha : may a = true) (hb : may b = false) : parts (a ++ 58 :: b) = ([], [], false) := by
  unfold parts
  rw [parts_tag ha]
  simp [hb]

end Go.Proofs.Ytfbooapgjhhjmaa.NameMath

namespace Go.Proofs.Ytfbooapgjhhjmaa.NameWalk
open Go.RowKit Go.Proofs.Ytfbooapgjhhjmaa.NameMath

theorem below_chain {w w1 w2 : World} (h1 : Below w.heap.size w w1) (h2 : Below w1.heap.size w1 w2) : Below w.heap.size w w2 := h1.trans (h2.mono h1.size)
theorem bel_drewN {B : Nat} {a w : World} (h : Below B a w) (n : Nat) : Below B a (w.drewN n) := ⟨h.os, h.tape, h.output, h.size, h.block⟩
theorem bel_drew {B : Nat} {a w : World} (h : Below B a w) : Below B a w.drew := ⟨h.os, h.tape, h.output, h.size, h.block⟩

theorem ba_ext {a b : ByteArray} (h : a.data.toList = b.data.toList) : a = b := by
  cases a; cases b
  congr 1
  exact Array.toList_inj.1 h

theorem ba_list (l : List UInt8) : (⟨l.toArray⟩ : ByteArray).data.toList = l := rfl

theorem ba_append (a b : ByteArray) : (a ++ b).data.toList = a.data.toList ++ b.data.toList := by
  rw [ByteArray.data_append, Array.toList_append]

theorem ba_take (s : ByteArray) (n : Nat) : (s.extract 0 n).data.toList = s.data.toList.take n := by
  simp [ByteArray.data_extract]

theorem ba_drop (s : ByteArray) (i : Nat) : (s.extract i s.size).data.toList = s.data.toList.drop i := by
  rw [ByteArray.data_extract, Array.toList_extract]
  show (s.data.toList.drop i).take (s.size - i) = _
  rw [List.take_of_length_le]
  rw [List.length_drop, ← size_list]
  exact Nat.le_refl _

set_option maxHeartbeats 2000000 in
set_option maxRecDepth 100000 in
theorem scut_any (s : ByteArray) (w : World) (hs : s.size ≤ 9223372036854775807) :
    Calls Try.prog 75 #[.string s, .string ⟨#[58]⟩] w fun e w' => (e = .returned (match cutC s.data.toList with
      | some p => .tuple #[.string ⟨p.1.toArray⟩, .string ⟨p.2.toArray⟩, .bool true]
      | none => .tuple #[.string s, .string ⟨#[]⟩, .bool false])) ∧ Below w.heap.size w w' := by
  have hsz := size_list s
  rcases cut_index s.data.toList with ⟨h1, h2⟩ | ⟨i, h0, h1, h2⟩
  · rw [h2]
    go_enter Try.func75, Try.ntmps75
    go_wp2_with (go_at_call 82; refine (Try.stringslite_Index_one s 58 _).mono ?_; rw [h1]; rintro e w' ⟨rfl, rfl⟩)
    go_ret3
    exact ⟨rfl, Below.refl _ _⟩
  · rw [h2]
    have e1 : (⟨(s.data.toList.take i).toArray⟩ : ByteArray) = s.extract 0 i := ba_ext (by rw [ba_take])
    have e2 : (⟨(s.data.toList.drop (i + 1)).toArray⟩ : ByteArray) = s.extract (i + 1) s.size := ba_ext (by rw [ba_drop])
    simp only
    rw [e1, e2]
    have c1 : (0 : Int) ≤ ↑i := by omega
    have c2 : (↑i : Int) ≤ ↑s.size := by omega
    clear h2 e1 e2
    obtain ⟨j, hj⟩ : ∃ j : Nat, j = i + 1 := ⟨_, rfl⟩
    rw [← hj]
    have hz : (↑i : Int) + 1 = ↑j := by omega
    have c3 : (0 : Int) ≤ ↑j := by omega
    have c4 : (↑j : Int) ≤ ↑s.size := by omega
    clear hj hsz h0
    go_enter Try.func75, Try.ntmps75
    go_wp2_with (go_at_call 82; refine (Try.stringslite_Index_one s 58 _).mono ?_; rw [h1]; rintro e w' ⟨rfl, rfl⟩)
    go_region
    go_wp2
    go_ret3
    exact ⟨rfl, bel_drew (Below.refl _ _)⟩

set_option maxRecDepth 100000 in
theorem cut_any (s : ByteArray) (w : World) (hs : s.size ≤ 9223372036854775807) :
    Calls Try.prog 58 #[.string s, .string ⟨#[58]⟩] w fun e w' => (e = .returned (match cutC s.data.toList with
      | some p => .tuple #[.string ⟨p.1.toArray⟩, .string ⟨p.2.toArray⟩, .bool true]
      | none => .tuple #[.string s, .string ⟨#[]⟩, .bool false])) ∧ Below w.heap.size w w' := by
  have hc := scut_any s w hs
  cases h : cutC s.data.toList with
  | none =>
    rw [h] at hc
    go_enter Try.func58, Try.ntmps58
    go_wp2_with (go_at_call 75; refine hc.mono ?_; rintro e w' ⟨rfl, b1⟩)
    go_ret3
    exact ⟨rfl, b1⟩
  | some p =>
    rw [h] at hc
    go_enter Try.func58, Try.ntmps58
    go_wp2_with (go_at_call 75; refine hc.mono ?_; rintro e w' ⟨rfl, b1⟩)
    go_ret3
    exact ⟨rfl, b1⟩

set_option maxHeartbeats 2000000 in
set_option maxRecDepth 100000 in
theorem parts_any (s : ByteArray) (w : World) (hs : s.size ≤ 9223372036854775807) :
    Calls Try.prog 47 #[.string s] w fun e w' => e = .returned (.tuple #[.string ⟨(parts s.data.toList).1.toArray⟩, .string ⟨(parts s.data.toList).2.1.toArray⟩, .bool (parts s.data.toList).2.2]) ∧ Below w.heap.size w w' := by
  have hc := cut_any s w hs
  have hsz := size_list s
  have HS := Go.Lib.hid hsz
  rcases cut_index s.data.toList with ⟨_, h2⟩ | ⟨i, h0, _, h2⟩
  · rw [h2] at hc
    have hp : parts s.data.toList = ([], [], false) := by unfold parts; rw [h2]
    rw [hp]
    clear hp h2 hsz
    go_enter Try.func47, Try.ntmps47
    go_wp2_with (go_at_call 58; refine hc.mono ?_; rintro e w' ⟨rfl, b1⟩)
    go_ret3
    exact ⟨rfl, b1⟩
  · rw [h2] at hc
    have hp : parts s.data.toList = if (may (s.data.toList.take i) && may (s.data.toList.drop (i + 1))) = true then (s.data.toList.take i, s.data.toList.drop (i + 1), true) else ([], [], false) := by unfold parts; rw [h2]
    have l1 : (s.data.toList.take i).length ≤ 9223372036854775807 := by rw [List.length_take]; omega
    have l2 : (s.data.toList.drop (i + 1)).length ≤ 9223372036854775807 := by rw [List.length_drop]; omega
    generalize s.data.toList.take i = A at *
    generalize s.data.toList.drop (i + 1) = B at *
    simp only at hc
    have ma := fun w => may_any ⟨A.toArray⟩ w l1
    have mb := fun w => may_any ⟨B.toArray⟩ w l2
    simp only at ma mb
    generalize hma : may A = x at *
    generalize hmb : may B = y at *
    have MA := Go.Lib.hid ma
    have MB := Go.Lib.hid mb
    clear ma mb h2 hsz hma hmb l1 l2
    cases x
    · rw [Bool.false_and, if_neg (by decide)] at hp
      rw [hp]
      clear hp
      go_enter Try.func47, Try.ntmps47
      go_wp2_with fail
      refine hc.mono ?_
      rintro e w1 ⟨rfl, b1⟩
      go_wp2_with fail
      refine (MA.out _).mono ?_
      rintro e w2 ⟨rfl, b2⟩
      have b3 := below_chain b1 b2
      go_wp2_with fail
      go_ret3
      exact ⟨rfl, b3⟩
    · cases y
      · rw [Bool.and_false, if_neg (by decide)] at hp
        rw [hp]
        clear hp
        go_enter Try.func47, Try.ntmps47
        go_wp2_with fail
        refine hc.mono ?_
        rintro e w1 ⟨rfl, b1⟩
        go_wp2_with fail
        refine (MA.out _).mono ?_
        rintro e w2 ⟨rfl, b2⟩
        have b3 := below_chain b1 b2
        go_wp2_with fail
        refine (MB.out _).mono ?_
        rintro e w3 ⟨rfl, b4⟩
        have b5 := below_chain b3 b4
        go_wp2_with fail
        go_ret3
        exact ⟨rfl, b5⟩
      · rw [Bool.true_and, if_pos rfl] at hp
        rw [hp]
        clear hp
        go_enter Try.func47, Try.ntmps47
        go_wp2_with fail
        refine hc.mono ?_
        rintro e w1 ⟨rfl, b1⟩
        go_wp2_with fail
        refine (MA.out _).mono ?_
        rintro e w2 ⟨rfl, b2⟩
        have b3 := below_chain b1 b2
        go_wp2_with fail
        refine (MB.out _).mono ?_
        rintro e w3 ⟨rfl, b4⟩
        have b5 := below_chain b3 b4
        go_wp2_with fail
        go_ret3
        exact ⟨rfl, b5⟩

end Go.Proofs.Ytfbooapgjhhjmaa.NameWalk
