/-
  The laws' head: the document's examples.
-/
import Derived.Test.YtinmmaoedmepbaaNameTag
namespace Go.Proofs.Ytinmmaoedmepbaa.NameWalk
open Go.RowKit Go.Proofs.Ytinmmaoedmepbaa.NameMath

theorem ba_size (a b : ByteArray) : (a ++ b).size = a.size + b.size := ByteArray.size_append

set_option maxHeartbeats 4000000 in
set_option maxRecDepth 100000 in
theorem shown_any (w : World) :
    Calls Try.prog 11 #[] w fun e w' => e = .returned (.bool true) ∧ Below w.heap.size w w' := by
  have m1 := fun w => may_any ⟨#[107, 117, 110, 100, 101, 45, 55]⟩ w (by decide)
  have m2 := fun w => may_any ⟨#[55]⟩ w (by decide)
  have m3 := fun w => may_any ⟨#[195, 132]⟩ w (by decide)
  have m4 := fun w => fold_any ⟨#[195, 152, 114, 115, 116, 101, 100, 32, 65, 46, 66]⟩ w (by decide)
  have m5 := fun w => tag_any ⟨#[107, 117, 110, 100, 101]⟩ ⟨#[55]⟩ w (by decide) (by decide)
  have m6 := fun w => tag_any ⟨#[107, 117, 110, 100, 101]⟩ ⟨#[120, 55]⟩ w (by decide) (by decide)
  rw [show may (ByteArray.mk #[107, 117, 110, 100, 101, 45, 55]).data.toList = true by kernel_rfl] at m1
  rw [show may (ByteArray.mk #[55]).data.toList = false by kernel_rfl] at m2
  rw [show may (ByteArray.mk #[195, 132]).data.toList = false by kernel_rfl] at m3
  rw [show fold (ByteArray.mk #[195, 152, 114, 115, 116, 101, 100, 32, 65, 46, 66]).data.toList = [195, 184, 114, 115, 116, 101, 100, 45, 97, 45, 98] by kernel_rfl] at m4
  rw [show tag (ByteArray.mk #[107, 117, 110, 100, 101]).data.toList (ByteArray.mk #[55]).data.toList = [] by kernel_rfl] at m5
  rw [show tag (ByteArray.mk #[107, 117, 110, 100, 101]).data.toList (ByteArray.mk #[120, 55]).data.toList = [107, 117, 110, 100, 101, 58, 120, 55] by kernel_rfl] at m6
  have M1 := Go.Lib.hid m1
  have M2 := Go.Lib.hid m2
  have M3 := Go.Lib.hid m3
  have M4 := Go.Lib.hid m4
  have M5 := Go.Lib.hid m5
  have M6 := Go.Lib.hid m6
  clear m1 m2 m3 m4 m5 m6
  go_enter Try.func11, Try.ntmps11
  go_wp2_with fail
  refine (M1.out _).mono ?_
  rintro e w1 ⟨rfl, b1⟩
  go_wp2_with fail
  refine (M2.out _).mono ?_
  rintro e w2 ⟨rfl, b2⟩
  have B2 := below_chain b1 b2
  go_wp2_with fail
  refine (M3.out _).mono ?_
  rintro e w3 ⟨rfl, b3⟩
  have B3 := below_chain B2 b3
  go_wp2_with fail
  refine (M4.out _).mono ?_
  rintro e w4 ⟨rfl, b4⟩
  have B4 := below_chain B3 b4
  go_wp2_with fail
  refine (M5.out _).mono ?_
  rintro e w5 ⟨rfl, b5⟩
  have B5 := below_chain B4 b5
  go_wp2_with fail
  refine (M6.out _).mono ?_
  rintro e w6 ⟨rfl, b6⟩
  have B6 := below_chain B5 b6
  go_wp2_with fail
  go_ret
  exact ⟨rfl, B6⟩

/-- An answer of May, told. -/
theorem may_told {s : ByteArray} {b : Bool} (hs : s.size ≤ 9223372036854775807) (h : may s.data.toList = b) (w : World) :
    Calls Try.prog 13 #[.string s] w fun e w' => e = .returned (.bool b) ∧ Below w.heap.size w w' := by
  subst h
  exact may_any s w hs
/-- An answer of Fold, told. -/
theorem fold_told {s t : ByteArray} (hs : s.size ≤ 35184372088832) (h : fold s.data.toList = t.data.toList) (w : World) :
    Calls Try.prog 15 #[.string s] w fun e w' => e = .returned (.string t) ∧ Below w.heap.size w w' := by
  have e : (⟨(fold s.data.toList).toArray⟩ : ByteArray) = t := ba_ext h
  have := fold_any s w hs
  rwa [e] at this
theorem tag_told {a b t : ByteArray} (ha : a.size ≤ 4294967281) (hb : b.size ≤ 4294967281) (h : tag a.data.toList b.data.toList = t.data.toList) (w : World) :
    Calls Try.prog 19 #[.string a, .string b] w fun e w' => e = .returned (.string t) ∧ Below w.heap.size w w' := by
  have e : (⟨(tag a.data.toList b.data.toList).toArray⟩ : ByteArray) = t := ba_ext h
  have := tag_any a b w ha hb
  rwa [e] at this
theorem parts_told {s k v : ByteArray} {b : Bool} (hs : s.size ≤ 4294967281) (h : parts s.data.toList = (k.data.toList, v.data.toList, b)) (w : World) :
    Calls Try.prog 17 #[.string s] w fun e w' => e = .returned (.tuple #[.string k, .string v, .bool b]) ∧ Below w.heap.size w w' := by
  have := parts_any s w hs
  rw [h] at this
  exact this
theorem mayTag_told {s : ByteArray} {b : Bool} (hs : s.size ≤ 4294967281) (h : (parts s.data.toList).2.2 = b) (w : World) :
    Calls Try.prog 21 #[.string s] w fun e w' => e = .returned (.bool b) ∧ Below w.heap.size w w' := by
  subst h
  exact mayTag_any s w hs

end Go.Proofs.Ytinmmaoedmepbaa.NameWalk
