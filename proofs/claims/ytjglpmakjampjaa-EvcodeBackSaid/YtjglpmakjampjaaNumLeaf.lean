/-
  Contracts of the leaves of layer 1 (num): unsigned, signed, mayEnd, size (and math/bits.Len64). Each leaves the world as it was.
-/
import Derived.Test.YtjglpmakjampjaaProg
import Derived.Test.YtjglpmakjampjaaNumMath
import Derived.WalkKit
import Derived.KernelRfl
import Derived.Lib.BitFns
import Derived.Lib.Walk
import Derived.Lib.Hide
namespace Go.Proofs.Ytjglpmakjampjaa.NumWalk
open Go.RowKit Go.Proofs.Ytjglpmakjampjaa.NumMath
open Go.Lib (uvarint zigzag)

theorem ret_int {k : IntKind} {a b : Int} (h : a = b) : Ending.returned (.int k a) = .returned (.int k b) := by rw [h]
theorem ret_bool {a b : Bool} (h : a = b) : Ending.returned (.bool a) = .returned (.bool b) := by rw [h]

theorem not_i64 (x : Int) (h0 : -9223372036854775808 ≤ x) (h1 : x ≤ 9223372036854775807) : bits .xor .i64 (-1) x = -x - 1 := by
  show IntKind.i64.wrap ((BitVec.ofInt 64 (-1) ^^^ BitVec.ofInt 64 x).toNat : Int) = _
  have e1 : (BitVec.ofInt 64 (-1)).toNat = 2 ^ 64 - 1 := by decide
  have e2 : (BitVec.ofInt 64 x).toNat = (x % 18446744073709551616).toNat := by simp [BitVec.toNat_ofInt]
  have e3 : (x % 18446744073709551616).toNat < 2 ^ 64 := by omega
  rw [BitVec.toNat_xor, e1, e2, Go.Lib.xor_ones64 _ e3, IntKind.wrap_i64]
  omega

theorem or_one_u64 (a : Nat) (ha : a < 18446744073709551616) : bits .or .u64 (a : Int) 1 = ((a / 2 * 2 + 1 : Nat) : Int) := by
  have h := bits_or_u64_nat a 1 ha (by decide)
  rw [or_one] at h
  exact h

theorem zig_neg (x : Int) (h0 : -9223372036854775808 ≤ x) (h1 : x < 0) :
    bits BinOp.or IntKind.u64 (IntKind.u64.wrap (IntKind.u64.wrap (bits BinOp.xor IntKind.i64 (-1) x) * 2)) 1 = ((zigzag x : Nat) : Int) := by
  rw [not_i64 x h0 (by omega)]
  have e : IntKind.u64.wrap (IntKind.u64.wrap (-x - 1) * 2) = (((-2 * x - 2).toNat : Nat) : Int) := by
    rw [IntKind.wrap_u64, IntKind.wrap_u64]
    omega
  rw [e, or_one_u64 _ (by omega)]
  unfold zigzag
  rw [if_neg (by omega)]
  omega

set_option maxRecDepth 100000 in
theorem unsigned_any (x : Int) (w : World) (h0 : -9223372036854775808 ≤ x) (h1 : x ≤ 9223372036854775807) :
    Calls Try.prog 65 #[.int .i64 x] w fun e w' => e = .returned (.int .u64 (zigzag x : Nat)) ∧ w = w' := by
  by_cases hx : x < 0
  · go_enter Try.func65, Try.ntmps65
    go_wp2
    go_ret
    exact ⟨ret_int (zig_neg x h0 hx), rfl⟩
  · go_enter Try.func65, Try.ntmps65
    go_wp2
    go_ret
    exact ⟨ret_int (Go.Lib.zigzag_nonneg (by omega)).symm, rfl⟩

theorem unzig_odd (u : Nat) (h : u < 18446744073709551616) (ho : (bits BinOp.and IntKind.u64 (u : Int) 1 != 0) = true) : bits BinOp.xor IntKind.i64 (-1) ((u : Int) / 2) = unzig u := by
  rw [Go.Lib.u64_and1 (u : Int) (by omega) (by omega)] at ho
  simp at ho
  rw [not_i64 _ (by omega) (by omega)]
  unfold unzig
  rw [if_pos (by omega)]
  omega

theorem unzig_even (u : Nat) (h : u < 18446744073709551616) (ho : (bits BinOp.and IntKind.u64 (u : Int) 1 != 0) = false) : (u : Int) / 2 = unzig u := by
  rw [Go.Lib.u64_and1 (u : Int) (by omega) (by omega)] at ho
  simp at ho
  unfold unzig
  rw [if_neg (by omega)]
  omega

set_option maxRecDepth 100000 in
theorem signed_any (u : Nat) (w : World) (h : u < 18446744073709551616) :
    Calls Try.prog 72 #[.int .u64 u] w fun e w' => e = .returned (.int .i64 (unzig u)) ∧ w = w' := by
  have hu := h
  go_enter Try.func72, Try.ntmps72
  go_wp2
  · go_ret
    exact ⟨ret_int (unzig_odd u hu (by assumption)), rfl⟩
  · go_ret
    exact ⟨ret_int (unzig_even u hu (by assumption)), rfl⟩

/-- May c be the last byte, at the index i? -/
def endB (c i : Nat) : Bool := decide (¬ ((0 < i ∧ c = 0) ∨ (i = 9 ∧ 1 < c)))

set_option maxRecDepth 100000 in
theorem mayEnd_any (c i : Nat) (w : World) (h : i < 10) :
    Calls Try.prog 81 #[.int .u8 (c : Int), .int .i64 (i : Int)] w fun e w' => e = .returned (.bool (endB c i)) ∧ w = w' := by
  go_enter Try.func81, Try.ntmps81
  go_wp2
  all_goals go_ret
  all_goals (refine ⟨ret_bool ?_, rfl⟩; unfold endB; rw [Bool.eq_iff_iff]; simp at *; omega)

theorem lib_bitLen (x : Nat) (h : x < 18446744073709551616) : Go.Lib.bitLen x = bitLen x := by
  induction x using Nat.strongRecOn with
  | ind x ih =>
    by_cases h0 : x = 0
    · subst h0; rfl
    · by_cases h1 : x = 1
      · subst h1; decide
      · rw [Go.Lib.bitLen_half x h0 (by omega), ih (x / 2) (by omega) (by omega), bitLen_shift x 1 (by omega)]

set_option maxRecDepth 100000 in
theorem len8tab_size : (Go.Lib.len8tab.size : Int) = 256 := by
  have : Go.Lib.len8tab.size = 256 := by decide
  omega
theorem len8_at (y : Int) (h : y.toNat < Go.Lib.len8tab.size) (h0 : 0 ≤ y) (h1 : y ≤ 255) : ((Go.Lib.len8tab[y.toNat]'h).toNat : Int) = Go.Lib.bitLen y.toNat := by
  have e : ((Go.Lib.len8tab[y.toNat]'h).toNat : Int) = Go.Lib.len8 y := by
    unfold Go.Lib.len8
    rw [getElem?_pos Go.Lib.len8tab y.toNat h]
    rfl
  rw [e, Go.Lib.len8_of y h0 h1]

theorem len_close (k : Nat) (x y : Int) (h : y.toNat < Go.Lib.len8tab.size) (hk : k ≤ 56) (h0 : 0 ≤ y) (h1 : y ≤ 255) (hx : x.toNat < 2 ^ 64) (e : y.toNat = x.toNat / 2 ^ k) (hp : 2 ^ k ≤ x.toNat) :
    wrap64 ((k : Int) + wrap64 ((Go.Lib.len8tab[y.toNat]'h).toNat : Int)) = (Go.Lib.bitLen x.toNat : Int) := by
  rw [len8_at y h h0 h1, Go.Lib.bitLen_shift k x.toNat hp hx, ← e]
  have := Go.Lib.bitLen_le8' y h0 h1
  unfold wrap64
  omega
theorem len_close0 (x : Int) (h : x.toNat < Go.Lib.len8tab.size) (h0 : 0 ≤ x) (h1 : x ≤ 255) :
    wrap64 (wrap64 ((Go.Lib.len8tab[x.toNat]'h).toNat : Int)) = (Go.Lib.bitLen x.toNat : Int) := by
  rw [len8_at x h h0 h1]
  have := Go.Lib.bitLen_le8' x h0 h1
  unfold wrap64
  omega
theorem way56 (x : Int) (h0 : 72057594037927936 ≤ x) (h1 : x ≤ 18446744073709551615) (h : (x / 4294967296 / 65536 / 256).toNat < Go.Lib.len8tab.size) : wrap64 (56 + wrap64 ((Go.Lib.len8tab[(x / 4294967296 / 65536 / 256).toNat]'h).toNat : Int)) = (Go.Lib.bitLen x.toNat : Int) :=
  len_close 56 x _ h (by omega) (by omega) (by omega) (by omega) (by omega) (by omega)
theorem way48 (x : Int) (h0 : 281474976710656 ≤ x) (h1 : x ≤ 72057594037927935) (h : (x / 4294967296 / 65536).toNat < Go.Lib.len8tab.size) : wrap64 (48 + wrap64 ((Go.Lib.len8tab[(x / 4294967296 / 65536).toNat]'h).toNat : Int)) = (Go.Lib.bitLen x.toNat : Int) :=
  len_close 48 x _ h (by omega) (by omega) (by omega) (by omega) (by omega) (by omega)
theorem way40 (x : Int) (h0 : 1099511627776 ≤ x) (h1 : x ≤ 281474976710655) (h : (x / 4294967296 / 256).toNat < Go.Lib.len8tab.size) : wrap64 (40 + wrap64 ((Go.Lib.len8tab[(x / 4294967296 / 256).toNat]'h).toNat : Int)) = (Go.Lib.bitLen x.toNat : Int) :=
  len_close 40 x _ h (by omega) (by omega) (by omega) (by omega) (by omega) (by omega)
theorem way32 (x : Int) (h0 : 4294967296 ≤ x) (h1 : x ≤ 1099511627775) (h : (x / 4294967296).toNat < Go.Lib.len8tab.size) : wrap64 (32 + wrap64 ((Go.Lib.len8tab[(x / 4294967296).toNat]'h).toNat : Int)) = (Go.Lib.bitLen x.toNat : Int) :=
  len_close 32 x _ h (by omega) (by omega) (by omega) (by omega) (by omega) (by omega)
theorem way24 (x : Int) (h0 : 16777216 ≤ x) (h1 : x ≤ 4294967295) (h : (x / 65536 / 256).toNat < Go.Lib.len8tab.size) : wrap64 (24 + wrap64 ((Go.Lib.len8tab[(x / 65536 / 256).toNat]'h).toNat : Int)) = (Go.Lib.bitLen x.toNat : Int) :=
  len_close 24 x _ h (by omega) (by omega) (by omega) (by omega) (by omega) (by omega)
theorem way16 (x : Int) (h0 : 65536 ≤ x) (h1 : x ≤ 16777215) (h : (x / 65536).toNat < Go.Lib.len8tab.size) : wrap64 (16 + wrap64 ((Go.Lib.len8tab[(x / 65536).toNat]'h).toNat : Int)) = (Go.Lib.bitLen x.toNat : Int) :=
  len_close 16 x _ h (by omega) (by omega) (by omega) (by omega) (by omega) (by omega)
theorem way8 (x : Int) (h0 : 256 ≤ x) (h1 : x ≤ 65535) (h : (x / 256).toNat < Go.Lib.len8tab.size) : wrap64 (8 + wrap64 ((Go.Lib.len8tab[(x / 256).toNat]'h).toNat : Int)) = (Go.Lib.bitLen x.toNat : Int) :=
  len_close 8 x _ h (by omega) (by omega) (by omega) (by omega) (by omega) (by omega)

set_option maxHeartbeats 4000000 in
set_option maxRecDepth 100000 in
theorem len64_any (x : Int) (w : World) (h0 : 0 ≤ x) (h1 : x ≤ 18446744073709551615) :
    Calls Try.prog 77 #[.int .u64 x] w fun e w' => e = .returned (.int .i64 (Go.Lib.bitLen x.toNat)) ∧ w = w' := by
  have hs := len8tab_size
  go_enter Try.func77, Try.ntmps77
  go_wp2
  all_goals (go_ret; refine ⟨ret_int ?_, rfl⟩)
  · exact way56 x (by omega) (by omega) _
  · exact way48 x (by omega) (by omega) _
  · exact way40 x (by omega) (by omega) _
  · exact way32 x (by omega) (by omega) _
  · exact way24 x (by omega) (by omega) _
  · exact way16 x (by omega) (by omega) _
  · exact way8 x (by omega) (by omega) _
  · exact len_close0 x _ (by omega) (by omega)

set_option maxRecDepth 100000 in
theorem size_any (u : Nat) (w : World) (h : u < 18446744073709551616) :
    Calls Try.prog 66 #[.int .u64 u] w fun e w' => e = .returned (.int .i64 ((uvarint u).length : Nat)) ∧ w = w' := by
  have e1 := or_one_u64 u h
  have e2 : Go.Lib.bitLen (u / 2 * 2 + 1) = bitLen (u / 2 * 2 + 1) := lib_bitLen _ (by omega)
  have e3 : sizeV u = (bitLen (u / 2 * 2 + 1) + 6) / 7 := by unfold sizeV; rw [or_one]
  have e4 := sizeV_eq u
  have e5 : bitLen (u / 2 * 2 + 1) ≤ 64 := bitLen_le (by omega)
  generalize hb : u / 2 * 2 + 1 = b at *
  have hb1 : b < 18446744073709551616 := by omega
  have E : (Go.Lib.bitLen b + 6) / 7 = (uvarint u).length := by omega
  have e6 : Go.Lib.bitLen b ≤ 64 := by omega
  have HE := Go.Lib.hid E
  clear e2 e3 e4 e5 hb E
  go_enter Try.func66, Try.ntmps66
  go_wp2_with (go_at_call 77; refine (len64_any _ _ (by omega) (by omega)).mono ?_; rintro e w' ⟨rfl, rfl⟩)
  go_ret
  refine ⟨ret_int ?_, rfl⟩
  have := HE.out
  omega

end Go.Proofs.Ytjglpmakjampjaa.NumWalk
