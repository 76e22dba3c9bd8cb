/-
  Contracts of layer 2 (crc): entry. It leaves the world as it was.
-/
import Derived.Test.YtfencoklpnifaaaProg
import Derived.Test.YtfencoklpnifaaaCrcMath
import Derived.WalkKit
import Derived.KernelRfl
import Derived.Laws.BitsAllLaws
import Derived.Lib.Hide
namespace Go.Proofs.Ytfencoklpnifaaa.CrcWalk
open Go.RowKit Go.Proofs.Ytfencoklpnifaaa.CrcMath

theorem ret_int {k : IntKind} {a b : Int} (h : a = b) : Ending.returned (.int k a) = .returned (.int k b) := by rw [h]
theorem ret_bool {a b : Bool} (h : a = b) : Ending.returned (.bool a) = .returned (.bool b) := by rw [h]

/-- k steps. -/
def steps : Nat → Nat → Nat
  | 0, x => x
  | k + 1, x => stepB (steps k x)
theorem steps_lt (k : Nat) {x : Nat} (h : x < 4294967296) : steps k x < 4294967296 := by
  induction k with
  | zero => exact h
  | succ k ih => exact step_lt _ ih
theorem steps_8 (x : Nat) : steps 8 x = step8 x := rfl

theorem low_and (x : Nat) (h : x < 4294967296) : bits .and .u32 (x : Int) 1 = ((x % 2 : Nat) : Int) := by
  have e := u32_and_nat x 1 h (by decide)
  rw [Nat.and_one_is_mod] at e
  exact e
theorem xor_poly (x : Nat) (h : x < 4294967296) : bits .xor .u32 ((x : Int) / 2) 3988292384 = ((x / 2 ^^^ poly : Nat) : Int) := by
  have e := u32_xor_nat (x / 2) poly (by omega) (by decide)
  rw [show (((x / 2 : Nat) : Int)) = (x : Int) / 2 from by omega] at e
  exact e
theorem step_odd {x : Nat} (h : x % 2 = 1) : stepB x = x / 2 ^^^ poly := by unfold stepB; rw [if_pos h]
theorem step_evn {x : Nat} (h : ¬ x % 2 = 1) : stepB x = x / 2 := by unfold stepB; rw [if_neg h, Nat.xor_zero]

set_option maxHeartbeats 400000 in
theorem entry_any (i : Nat) (w : World) (hi : i < 4294967296) :
    Calls Try.prog 19 #[.int .u32 (i : Int)] w fun e w' => e = .returned (.int .u32 (step8 i : Nat)) ∧ w = w' := by
  go_enter Try.func19, Try.ntmps19
  go_wp2
  go_loop [0, 4] (fun r c => ∃ k : Nat, k ≤ 8 ∧ r = .int .u32 ((steps k i : Nat) : Int) ∧ c = .int .i64 k) (fun _ c => 8 - (intOf c).toNat)
  case atStart => exact ⟨0, by omega, rfl, rfl⟩
  case round =>
    obtain ⟨k, hk, rfl, rfl⟩ := hrel
    by_cases hlt : k < 8
    · have hx := steps_lt k hi
      have hs : steps (k + 1) i = stepB (steps k i) := rfl
      have HS := Go.Lib.hid hs
      clear hs
      generalize steps k i = x at *
      have ea := low_and x hx
      by_cases hp : x % 2 = 1
      · have ea1 : bits .and .u32 (x : Int) 1 = 1 := by rw [ea, hp]; rfl
        have ex := xor_poly x hx
        have HP := Go.Lib.hid hp
        clear ea hp
        go_wp2
        go_round
        case rel => exact ⟨k + 1, by omega, by rw [HS.out, step_odd HP.out], by go_num⟩
        case measure => simp [intOf]; omega
      · have ea1 : bits .and .u32 (x : Int) 1 = 0 := by rw [ea]; omega
        have HP := Go.Lib.hid hp
        clear ea hp
        go_wp2
        go_round
        case rel => exact ⟨k + 1, by omega, by rw [HS.out, step_evn HP.out]; go_num, by go_num⟩
        case measure => simp [intOf]; omega
    · obtain rfl : k = 8 := by omega
      go_wp2
      go_ret
      exact ⟨by rw [steps_8]; rfl, rfl⟩

end Go.Proofs.Ytfencoklpnifaaa.CrcWalk
