/-
  Contract of layer 2 (crc): Sum.
-/
import Derived.Test.YtfencoklpnifaaaCrcNew
namespace Go.Proofs.Ytfencoklpnifaaa.CrcWalk
open Go.RowKit Go.Proofs.Ytfencoklpnifaaa.CrcMath Go.Proofs.Ytfencoklpnifaaa.NumMem

theorem reg_take (r : Nat) (l : List UInt8) (k : Nat) (h : k < l.length) : reg r (l.take (k + 1)) = upd (reg r (l.take k)) (l.getD k 0).toNat := by
  rw [List.take_succ_eq_append_getElem h, reg_append]
  simp [reg, List.getD, h]

/-- The entry's number. -/
theorem low_byte (x c : Nat) (hc : c < 256) : bits .xor .u8 ((x : Int) % 256) (c : Int) = (((x ^^^ c) % 256 : Nat) : Int) := by
  have e : (x : Int) % 256 = ((x % 256 : Nat) : Int) := by omega
  rw [e, u8_xor_nat _ _ (by omega) hc]
  have h : (x ^^^ c) % 2 ^ 8 = x % 2 ^ 8 ^^^ c % 2 ^ 8 := Nat.xor_mod_two_pow
  have h2 : c % 2 ^ 8 = c := by omega
  rw [h2] at h
  congr 1
  exact h.symm
theorem upd_bits (x c j : Nat) (hx : x < 4294967296) (hc : c < 256) (hj : (x ^^^ c) % 256 = j) : bits .xor .u32 ((x : Int) / 256) ((step8 j : Nat) : Int) = ((upd x c : Nat) : Int) := by
  have h : j < 256 := by omega
  have h8 := step8_lt j (by omega)
  have e : (x : Int) / 256 = ((x / 256 : Nat) : Int) := by omega
  rw [e, u32_xor_nat _ _ (by omega) h8, upd_table x c hc, hj]
theorem inv_bits (x : Nat) (hx : x < 4294967296) : bits .xor .u32 IntKind.u32.max (x : Int) = ((x ^^^ ones : Nat) : Int) := by
  have e := u32_xor_nat ones x ones_lt hx
  rw [Nat.xor_comm] at e
  exact e

set_option maxRecDepth 100000 in
set_option maxHeartbeats 1000000 in
theorem sum_any (g : Nat) (A : Option Addr) (n cap : Nat) (l : List UInt8) (w : World) (ht : Tab w g) (hr : Rd w A n cap l) :
    Calls Try.prog 15 #[.pointer (some ⟨g, 0, none⟩), .slice A n cap] w fun e w' => e = .returned (.int .u32 (sum l : Nat)) ∧ w = w' := by
  have hn := hr.le
  unfold maxLen at hn
  have hl := hr.len
  have HL := Go.Lib.hid hl
  clear hl
  go_enter Try.func15, Try.ntmps15
  go_wp2
  go_loop [5, 11] (fun r i => ∃ k : Nat, k ≤ n ∧ r = .int .u32 ((reg ones (l.take k) : Nat) : Int) ∧ i = .int .i64 k) (fun _ i => n - (intOf i).toNat)
  case atStart => exact ⟨0, by omega, rfl, rfl⟩
  case round =>
    obtain ⟨k, hk, rfl, rfl⟩ := hrel
    by_cases hlt : k < n
    · obtain ⟨b, o, rfl, hbl, hc⟩ := hr.at_ (by omega)
      have hck := hc k hlt
      clear hc
      have hx := reg_lt ones_lt (l.take k)
      have hs := reg_take ones l k (by rw [HL.out]; exact hlt)
      have HS := Go.Lib.hid hs
      clear hs
      generalize reg ones (l.take k) = x at *
      have hcl := UInt8.toNat_lt (l.getD k 0)
      generalize (l.getD k 0).toNat = c at *
      have e1 := low_byte x c hcl
      obtain ⟨j, hj⟩ : ∃ j, (x ^^^ c) % 256 = j := ⟨_, rfl⟩
      have hj2 : j < 256 := by omega
      have e2 := upd_bits x c j hx hcl hj
      have e3 := ht.cell j hj2
      rw [hj] at e1
      clear hj hr hbl
      go_wp2
      go_round
      case rel => exact ⟨k + 1, by omega, by rw [HS.out], by go_num⟩
      case measure => simp [intOf]; omega
    · obtain rfl : n = k := by omega
      have hsg : IntKind.u32.signed = false := rfl
      have hx := reg_lt ones_lt (l.take n)
      have e1 := inv_bits _ hx
      have HE := Go.Lib.hid e1
      clear e1
      go_wp2
      go_ret
      refine ⟨ret_int ?_, rfl⟩
      rw [HE.out, List.take_of_length_le (by rw [HL.out]; exact Nat.le_refl _)]
      rfl

end Go.Proofs.Ytfencoklpnifaaa.CrcWalk
