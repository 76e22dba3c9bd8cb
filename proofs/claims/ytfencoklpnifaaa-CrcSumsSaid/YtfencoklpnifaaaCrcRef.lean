/-
  Contracts of the document's own answers for layer 2 (registrarref02): Entry, Sum, Seal, Open.
-/
import Derived.Test.YtfencoklpnifaaaCrcSeal
namespace Go.Proofs.Ytfencoklpnifaaa.CrcWalk
open Go.RowKit Go.Proofs.Ytfencoklpnifaaa.CrcMath Go.Proofs.Ytfencoklpnifaaa.NumMem

set_option maxHeartbeats 400000 in
theorem refEntry_any (i : Nat) (w : World) (hi : i < 4294967296) :
    Calls Try.prog 14 #[.int .i64 (i : Int)] w fun e w' => e = .returned (.int .u32 (step8 i : Nat)) ∧ w = w' := by
  go_enter Try.func14, Try.ntmps14
  go_wp2
  go_loop [3, 4] (fun r c => ∃ k : Nat, k ≤ 8 ∧ r = .int .u32 ((steps k i : Nat) : Int) ∧ c = .int .i64 k) (fun _ c => 8 - (intOf c).toNat)
  case atStart => exact ⟨0, by omega, rfl, rfl⟩
  case round =>
    obtain ⟨k, hk, rfl, rfl⟩ := hrel
    by_cases hlt : k < 8
    · have hx := steps_lt k hi
      have hs : steps (k + 1) i = stepB (steps k i) := rfl
      have HS := Go.Lib.hid hs
      clear hs
      generalize steps k i = x at *
      by_cases hp : x % 2 = 1
      · have ex := xor_poly x hx
        have ea : (x : Int) % 2 = 1 := by omega
        have HP := Go.Lib.hid hp
        clear hp
        go_wp2
        go_round
        case rel => exact ⟨k + 1, by omega, by rw [HS.out, step_odd HP.out], by go_num⟩
        case measure => simp [intOf]; omega
      · have ea : (x : Int) % 2 = 0 := by omega
        have HP := Go.Lib.hid hp
        clear hp
        go_wp2
        go_round
        case rel => exact ⟨k + 1, by omega, by rw [HS.out, step_evn HP.out]; go_num, by go_num⟩
        case measure => simp [intOf]; omega
    · obtain rfl : k = 8 := by omega
      go_wp2
      go_ret
      exact ⟨by rw [steps_8]; rfl, rfl⟩

theorem xor32 (x c : Nat) (hx : x < 4294967296) (hc : c < 256) : bits .xor .u32 (x : Int) (c : Int) = ((x ^^^ c : Nat) : Int) := u32_xor_nat x c hx (by omega)

set_option maxRecDepth 100000 in
set_option maxHeartbeats 1000000 in
theorem refSum_any (A : Option Addr) (n cap : Nat) (l : List UInt8) (w : World) (hr : Rd w A n cap l) :
    Calls Try.prog 16 #[.slice A n cap] w fun e w' => e = .returned (.int .u32 (sum l : Nat)) ∧ w = w' := by
  have hn := hr.le
  unfold maxLen at hn
  have hl := hr.len
  have HL := Go.Lib.hid hl
  clear hl
  go_enter Try.func16, Try.ntmps16
  go_wp2
  go_loop [3, 4] (fun r i => ∃ k : Nat, k ≤ n ∧ r = .int .u32 ((reg ones (l.take k) : Nat) : Int) ∧ i = .int .i64 k) (fun _ i => n - (intOf i).toNat)
  case atStart => exact ⟨0, by omega, rfl, rfl⟩
  case round =>
    obtain ⟨k, hk, rfl, rfl⟩ := hrel
    by_cases hlt : k < n
    · obtain ⟨b, o, rfl, hbl, hc⟩ := hr.at_ (by omega)
      have hck := hc k hlt
      clear hc
      have hx := reg_lt ones_lt (l.take k)
      have hs := reg_take ones l k (by rw [HL.out]; exact hlt)
      have HS := Go.Lib.hid hs
      clear hs
      generalize reg ones (l.take k) = x at *
      have hcl := UInt8.toNat_lt (l.getD k 0)
      generalize (l.getD k 0).toNat = c at *
      have e1 := xor32 x c hx hcl
      have hy := xor_byte_lt hx hcl
      obtain ⟨j, hj⟩ : ∃ j, (x ^^^ c) % 256 = j := ⟨_, rfl⟩
      have hj2 : j < 256 := by omega
      have e2 := upd_bits x c j hx hcl hj
      have HJ := Go.Lib.hid hj
      clear hj hr hbl
      generalize x ^^^ c = y at *
      have hj3 : (y : Int) % 256 = (j : Int) := by have := HJ.out; omega
      go_wp2_with (go_at_call 14; refine (refEntry_any j _ (by omega)).mono ?_; rintro e w' ⟨rfl, rfl⟩)
      go_round
      case rel => exact ⟨k + 1, by omega, by rw [HS.out], by go_num⟩
      case measure => simp [intOf]; omega
    · obtain rfl : n = k := by omega
      have hx := reg_lt ones_lt (l.take n)
      have e1 : bits .xor .u32 ((reg ones (l.take n) : Nat) : Int) 4294967295 = ((reg ones (l.take n) ^^^ ones : Nat) : Int) := u32_xor_nat _ ones hx ones_lt
      have HE := Go.Lib.hid e1
      clear e1
      go_wp2
      go_ret
      refine ⟨ret_int ?_, rfl⟩
      rw [HE.out, List.take_of_length_le (by rw [HL.out]; exact Nat.le_refl _)]
      rfl

theorem cells_le4 (v : Nat) (hv : v < 4294967296) : #[Value.int .u8 ((v : Int) % 256), .int .u8 ((v : Int) / 256 % 256), .int .u8 ((v : Int) / 65536 % 256), .int .u8 ((v : Int) / 16777216)] = (cellsOf (le4 v)).toArray := by
  have h := fun k hk => le4_at v k hk
  have h0 := h 0 (by omega)
  have h1 := h 1 (by omega)
  have h2 := h 2 (by omega)
  have h3 := h 3 (by omega)
  have e : cellsOf (le4 v) = [.int .u8 (((le4 v).getD 0 0).toNat : Int), .int .u8 (((le4 v).getD 1 0).toNat : Int), .int .u8 (((le4 v).getD 2 0).toNat : Int), .int .u8 (((le4 v).getD 3 0).toNat : Int)] := rfl
  have h4 : (v : Int) / 2 ^ (8 * 3) % 256 = (v : Int) / 16777216 := by
    show (v : Int) / 16777216 % 256 = _
    omega
  rw [e, h0, h1, h2, h3, h4]
  simp

/-- A slice in new memory that reads as l. -/
def Fresh (w : World) (n : Nat) (l : List UInt8) (e : Ending) (w' : World) : Prop := ∃ A cap, e = .returned (.slice A n cap) ∧ Rd w' A n cap l ∧ Below w.heap.size w w'

set_option maxHeartbeats 1000000 in
theorem refSeal_any (A : Option Addr) (n cap : Nat) (l : List UInt8) (w : World) (h : Rd w A n cap l) (hn : n ≤ 70368744177664) :
    Calls Try.prog 18 #[.slice A n cap] w (Fresh w (n + 4) (closedB l)) := by
  have hb : Below w.heap.size w (w.alloc (.cells #[] 5)) := (Below.refl _ _).alloc (Nat.le_refl _) _
  have hs := sum_lt l
  have hcs := cells_le4 (sum l) hs
  go_enter Try.func18, Try.ntmps18
  go_wp2_with fail
  refine (refSum_any A n cap l _ h).mono ?_
  rintro e w' ⟨rfl, rfl⟩
  generalize hv : sum l = v at *
  have HV := Go.Lib.hid hv
  have HCS := Go.Lib.hid hcs
  clear hv hcs
  go_wp2_with (first
    | (at_builtin; refine wpList_append_fresh rfl (.tmp 6) (.tmp 7) 22 rfl 5 Try.underlying22 u8_info rfl rfl (Own.empty w 5 (Nat.le_refl _)) (h.below hb) (by omega) hb.size w hb ?_; intro A5 c5 w5 o5 b5; have ba : Below w5.heap.size w5 (w5.alloc (.cells #[Value.int .u8 ((v : Int) % 256), .int .u8 ((v : Int) / 256 % 256), .int .u8 ((v : Int) / 65536 % 256), .int .u8 ((v : Int) / 16777216)] 5)) := (Below.refl _ _).alloc (Nat.le_refl _) _; have o6 := o5.below ba; have r6 : Rd (w5.alloc (.cells #[Value.int .u8 ((v : Int) % 256), .int .u8 ((v : Int) / 256 % 256), .int .u8 ((v : Int) / 65536 % 256), .int .u8 ((v : Int) / 16777216)] 5)) (some ⟨w5.heap.size, 0, none⟩) 4 4 (le4 v) := by (rw [HCS.out]; exact (Row.new w5 5 (le4 v)).rd (by unfold maxLen; rw [le4_length]; omega)))
    | (at_builtin; refine wpList_append_more rfl (.tmp 8) (.tmp 20) 22 rfl 5 Try.underlying22 u8_info rfl rfl o6 r6 (by omega) (Nat.le_trans b5.size ba.size) w (below_chain b5 ba) ?_; intro A7 c7 w7 o7 b7; clear o6 r6 ba))
  go_ret
  have hv := HV.out
  subst hv
  exact ⟨A7, c7, rfl, o7.rd, b7⟩

theorem rd_str {w : World} {A : Option Addr} {n cap : Nat} {l : List UInt8} (h : Rd w A n cap l) : (convert 22 9 (.slice A n cap)).run Try.prog w = .ok (.string ⟨l.toArray⟩) w :=
  h.string (P := Try.prog) 22 9 5 Try.underlying22 Try.underlying5 Try.underlying9

theorem row_rd {w : World} {g : Nat} {t : TypeId} {l : List UInt8} {n : Nat} (h : Row w g t l) (hl : l.length = n) (hn : n ≤ 281474976710656) : Rd w (some ⟨g, 0, none⟩) n n l := by
  subst hl
  exact h.rd (by unfold maxLen; omega)

set_option maxHeartbeats 1000000 in
theorem refOpen_short (A : Option Addr) (n cap : Nat) (w : World) (hn : n < 4) :
    Calls Try.prog 13 #[.slice A n cap] w fun e w' => e = .returned (.tuple #[.slice none 0 0, .int .i64 2]) ∧ Below w.heap.size w w' := by
  go_enter Try.func13, Try.ntmps13
  go_wp2_with fail
  go_ret2
  exact ⟨rfl, Below.refl _ _⟩

set_option maxHeartbeats 1000000 in
theorem refOpen_long (A : Option Addr) (m cap : Nat) (l : List UInt8) (w : World) (h : Rd w A (m + 4) cap l) (hm : m ≤ 35184372088832) :
    Calls Try.prog 13 #[.slice A (m + 4) cap] w fun e w' => (closedB (l.take m) = l → Opened w m (l.take m) e w') ∧ (closedB (l.take m) ≠ l → e = .returned (.tuple #[.slice none 0 0, .int .i64 2]) ∧ Below w.heap.size w w') := by
  have hc := h.le_cap
  have hl := h.len
  have HL := Go.Lib.hid hl
  clear hl
  have hs2 := fun W => slice_upto A (m + 4) cap m (by omega) W
  have hb : Below w.heap.size w (w.alloc (.cells #[] 5)) := (Below.refl _ _).alloc (Nat.le_refl _) _
  have hq : closedB (l.take m) = l ∨ closedB (l.take m) ≠ l := Decidable.em _
  have HQ := Go.Lib.hid hq
  clear hq
  go_enter Try.func13, Try.ntmps13
  go_wp2_with (at_builtin; refine wpList_append_fresh rfl (.tmp 8) (.tmp 13) 22 rfl 5 Try.underlying22 u8_info rfl rfl (Own.empty w 5 (Nat.le_refl _)) ((h.first (k := m) (by omega)).below hb) (by omega) hb.size w hb ?_; intro A5 c5 w5 o5 b5; clear hs2)
  have r5 := o5.rd
  have q5 := h.below b5
  have s5 := rd_str q5.drew
  rcases HQ.out with hyes | hno
  · have hbe : (closedB (l.take m) != l) = false := by rw [hyes]; simp
    have hbe2 : (closedB (l.take m) == l) = true := by rw [hyes]; simp
    have HY := Go.Lib.hid hyes
    clear hyes HQ
    generalize hx : closedB (l.take m) = x at *
    have HX := Go.Lib.hid hx
    clear hx
    go_region_with (first
      | (go_at_call 18; refine (refSeal_any A5 m c5 (l.take m) _ ?_ (by omega)).mono ?_; exact r5; rintro e w6 ⟨A6, c6, rfl, r6, b6⟩; rw [HX.out] at r6; have s6 := rd_str r6; have s7 := rd_str (q5.drew.below b6)))
    all_goals go_wp2_with fail
    all_goals go_ret2
    all_goals (rw [← HX.out] at HY; exact ⟨fun _ => ⟨A5, c5, rfl, r5.drew.below b6, below_chain b5.drew b6⟩, fun hno => absurd HY.out hno⟩)
  · have hbe : (closedB (l.take m) != l) = true := by rw [bne_iff_ne]; exact hno
    have hbe2 : (closedB (l.take m) == l) = false := by rw [beq_eq_false_iff_ne]; exact hno
    have HY := Go.Lib.hid hno
    clear hno HQ
    generalize hx : closedB (l.take m) = x at *
    have HX := Go.Lib.hid hx
    clear hx
    go_region_with (first
      | (go_at_call 18; refine (refSeal_any A5 m c5 (l.take m) _ ?_ (by omega)).mono ?_; exact r5; rintro e w6 ⟨A6, c6, rfl, r6, b6⟩; rw [HX.out] at r6; have s6 := rd_str r6; have s7 := rd_str (q5.drew.below b6)))
    all_goals go_wp2_with fail
    all_goals go_ret2
    all_goals (rw [← HX.out] at HY; exact ⟨fun hyes => absurd hyes HY.out, fun _ => ⟨rfl, below_chain b5.drew b6⟩⟩)

end Go.Proofs.Ytfencoklpnifaaa.CrcWalk
