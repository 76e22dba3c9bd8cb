/-
  Joined texts: CrcPut, CrcSeal, CrcRef, FrRef, WlRefA, FrRefB, FrRefC, FrRefD, FtWord, FtSum, FtPut, FtTake, WgTab, WgLog.
-/
import Derived.WalkSpells
import Derived.Lib.LazyBuf
import Derived.Laws.Slices
import Derived.Laws.CopyOwn
import Derived.Deep.QuietTactic
import Derived.BigQuiet
import Derived.Deep.RegionWith
import Derived.Deep.RegionLaw
import Derived.IntWalk
import Derived.Deep.CutBlock
import Derived.Deep.DeepCutAuto
import Derived.ArgAppend
import Derived.Lib.AppendZerosOnto
import Derived.Laws.Tables
import Derived.Test.YtppidbdkejkopaaGreatDoorMh5
namespace Go.Proofs.YtppidbdkejkopaaGreatDoor.CrcWalk
open Go.RowKit CrcMath NumMem
theorem row_set (L X : List UInt8) (o k : Nat) (c : UInt8) (hk : X.length = k) (ho : o + k < L.length) : (L.take o ++ (X ++ L.drop (o + k))).set (o + k) c = L.take o ++ ((X ++ [c]) ++ L.drop (o + (k + 1))) := by
  subst hk
  have h1 : (L.take o).length = o := by simp; omega
  rw [List.set_append_right _ _ (by omega), h1, Nat.add_sub_cancel_left, List.set_append_right _ _ (by omega), Nat.sub_self, List.drop_eq_getElem_cons ho]
  simp [Nat.add_assoc]
structure PutAt (w wr : World) (g o : Nat) (t : TypeId) (L : List UInt8) (v k : Nat) : Prop where
  row : Row wr g t (L.take o ++ ((le4 v).take k ++ L.drop (o + k)))
  grown : w.grownBy wr (some g)
  size : wr.heap.size = w.heap.size
theorem putAt_start {w : World} {g o : Nat} {t : TypeId} {L : List UInt8} {v : Nat} (h : Row w g t L) : PutAt w w g o t L v 0 :=
  ⟨by simpa using h, ⟨rfl, rfl, rfl, Nat.le_refl _, fun _ _ _ => rfl⟩, rfl⟩
theorem putAt_cell {w wr : World} {g o : Nat} {t : TypeId} {L : List UInt8} {v k : Nat} (h : PutAt w wr g o t L v k) (hk : k < 4) (ho : o + 4 ≤ L.length) : (∃ x, wr.cell? ⟨g, o + k, none⟩ = some x) ∧ wr.frozen? ⟨g, o + k, none⟩ = false := by
  refine ⟨⟨_, h.row.cell (i := o + k) ?_⟩, h.row.frozen _⟩
  simp only [List.length_append, List.length_take, List.length_drop, le4_length]
  omega
theorem putAt_step {w wr : World} {g o : Nat} {t : TypeId} {L : List UInt8} {v k : Nat} (h : PutAt w wr g o t L v k) (hk : k < 4) (ho : o + 4 ≤ L.length) (x : Int) (hx : x = (((le4 v).getD k 0).toNat : Int)) :
    PutAt w (wr.setCell ⟨g, o + k, none⟩ (.int .u8 x)) g o t L v (k + 1) := by
  subst hx
  refine ⟨?_, grown_setCell h.grown _ _, by simpa [World.setCell] using h.size⟩
  have h2 := h.row.set_ (o + k) ((le4 v).getD k 0)
  rw [row_set L _ o k _ (by rw [List.length_take, le4_length]; omega) (by omega)] at h2
  have e : (le4 v).take (k + 1) = (le4 v).take k ++ [(le4 v).getD k 0] := by
    have hk4 : k < (le4 v).length := by rw [le4_length]; exact hk
    rw [List.take_succ_eq_append_getElem hk4, List.getD, List.getElem?_eq_getElem hk4]
    rfl
  rw [e]
  exact h2
theorem le4_at (v k : Nat) (hk : k < 4) : (((le4 v).getD k 0).toNat : Int) = (v : Int) / 2 ^ (8 * k) % 256 := by
  rcases (by omega : k = 0 ∨ k = 1 ∨ k = 2 ∨ k = 3) with rfl | rfl | rfl | rfl
  · show ((v.toUInt8.toNat : Nat) : Int) = (v : Int) / 1 % 256
    rw [u8]; omega
  · show (((v / 256).toUInt8.toNat : Nat) : Int) = (v : Int) / 256 % 256
    rw [u8]; omega
  · show (((v / 65536).toUInt8.toNat : Nat) : Int) = (v : Int) / 65536 % 256
    rw [u8]; omega
  · show (((v / 16777216).toUInt8.toNat : Nat) : Int) = (v : Int) / 16777216 % 256
    rw [u8]; omega
theorem word_snoc (l : List UInt8) (c : UInt8) : word (l ++ [c]) = word l + c.toNat * 2 ^ (8 * l.length) := by
  induction l with
  | nil => simp [word]
  | cons d l ih =>
    simp only [List.cons_append, word, List.length_cons, ih]
    have e : 2 ^ (8 * (l.length + 1)) = 256 * 2 ^ (8 * l.length) := by
      rw [Nat.mul_add, Nat.pow_add, Nat.mul_comm]
    rw [e, Nat.mul_add, Nat.add_assoc, Nat.mul_left_comm]
theorem word_take (l : List UInt8) (k : Nat) (h : k < l.length) : word (l.take (k + 1)) = word (l.take k) + (l.getD k 0).toNat * 2 ^ (8 * k) := by
  have e : (l.take k).length = k := by rw [List.length_take]; omega
  rw [List.take_succ_eq_append_getElem h, word_snoc, e]
  simp [List.getD, h]
theorem or_word (x c k : Nat) (hk : k < 4) (hc : c < 256) (hx : x < 2 ^ (8 * k)) : bits .or .u32 (x : Int) (IntKind.u32.wrap ((c : Int) * 2 ^ (8 * k))) = ((x + c * 2 ^ (8 * k) : Nat) : Int) := by
  have key : ∀ m : Nat, m = 2 ^ (8 * k) → c * m < 4294967296 → bits .or .u32 (x : Int) (IntKind.u32.wrap ((c : Int) * 2 ^ (8 * k))) = ((x + c * 2 ^ (8 * k) : Nat) : Int) := by
    intro m hm hlt
    have hc' : c * 2 ^ (8 * k) < 4294967296 := by rw [← hm]; exact hlt
    have e1 : ((c : Int) * 2 ^ (8 * k)) = ((c * 2 ^ (8 * k) : Nat) : Int) := by push_cast; rfl
    have e2 : IntKind.u32.wrap ((c * 2 ^ (8 * k) : Nat) : Int) = ((c * 2 ^ (8 * k) : Nat) : Int) := by rw [IntKind.wrap_u32]; omega
    have hx4 : x < 4294967296 := by
      have : 2 ^ (8 * k) ≤ 2 ^ 32 := Nat.pow_le_pow_right (by omega) (by omega)
      omega
    rw [e1, e2, u32_or_nat _ _ hx4 hc']
    congr 1
    rw [Nat.or_comm, Nat.mul_comm, ← Nat.two_pow_add_eq_or_of_lt hx, Nat.add_comm]
  rcases (by omega : k = 0 ∨ k = 1 ∨ k = 2 ∨ k = 3) with rfl | rfl | rfl | rfl
  · exact key 1 rfl (by omega)
  · exact key 256 rfl (by omega)
  · exact key 65536 rfl (by omega)
  · exact key 16777216 rfl (by omega)
end Go.Proofs.YtppidbdkejkopaaGreatDoor.CrcWalk
namespace Go.Proofs.YtppidbdkejkopaaGreatDoor.CrcWalk
open Go.RowKit CrcMath NumMem
theorem u8_info : (Tryz.prog.info? 5).map (fun i => (i.zero, i.size, i.bytes)) = some (some (.int .u8 0), 1, 1) := by kernel_rfl
theorem u8_size : (Tryz.prog.info? 5).map (·.size) = some 1 := by kernel_rfl
theorem splice_zeros (l : List UInt8) (room : Nat) : splice (cellsOf (List.replicate (l.length + room) 0)) 0 (cellsOf l) = cellsOf (l ++ List.replicate room 0) := by
  unfold splice
  rw [cellsOf_append, cellsOf_length]
  simp [cellsOf]
theorem bel_drewN {B : Nat} {a w : World} (h : Below B a w) (n : Nat) : Below B a (w.drewN n) := ⟨h.os, h.tape, h.output, h.size, h.block⟩
theorem below_chain {w w1 w2 : World} (h1 : Below w.heap.size w w1) (h2 : Below w1.heap.size w1 w2) : Below w.heap.size w w2 := h1.trans (h2.mono h1.size)
theorem elem_bytes : Tryz.prog.elem 58 = 5 := by kernel_rfl
theorem run_size_u8 (W : World) : (sizeOf 5).run Tryz.prog W = .ok 1 W := by
  have hi := u8_size
  cases hq : Tryz.prog.info? 5 with
  | none => simp [hq] at hi
  | some i =>
    have hs : i.size = 1 := by simpa [hq] using hi
    simp [sizeOf, typeInfo, hq, hs]
set_option maxRecDepth 100000 in
theorem slice_upto (A : Option Addr) (n cap m : Nat) (hc : m ≤ cap) (W : World) :
    (Instr.slice 58 (.slice A n cap) none (some (.int .i64 (m : Int))) none).run Tryz.prog W = .ok (.slice A m cap) W := by
  have hu : Tryz.prog.underlying 58 = some (.slice (Tryz.prog.elem 58)) := by rw [elem_bytes]; exact Tryz.underlying58
  have e : A.map (·.add 0) = A := by cases A <;> simp [Addr.add]
  rw [run_slice_h (P := Tryz.prog) W 58 _ n cap hu .i64 (m : Int) (by omega) (by omega), elem_bytes, run_size_u8]
  simp only [Result.andThen, sliced, Int.toNat_natCast, Nat.zero_mul, e, Nat.sub_zero]
  congr 2
  split <;> rfl
end Go.Proofs.YtppidbdkejkopaaGreatDoor.CrcWalk
namespace Go.Proofs.YtppidbdkejkopaaGreatDoor.CrcWalk
open Go.RowKit CrcMath NumMem
set_option maxHeartbeats 400000 in
set_option maxRecDepth 100000 in
theorem refEntry_any (i : Nat) (w : World) (hi : i < 4294967296) :
    Calls Tryz.prog 120 #[.int .i64 (i : Int)] w fun e w' => e = .returned (.int .u32 (step8 i : Nat)) ∧ w = w' := by
  go_enter Tryz.func120, Tryz.ntmps120
  go_wp2
  go_loop [3, 4] (fun r c => ∃ k : Nat, k ≤ 8 ∧ r = .int .u32 ((steps k i : Nat) : Int) ∧ c = .int .i64 k) (fun _ c => 8 - (intOf c).toNat)
  case atStart => exact ⟨0, by omega, rfl, rfl⟩
  case round =>
    obtain ⟨k, hk, rfl, rfl⟩ := hrel
    by_cases hlt : k < 8
    · have hx := steps_lt k hi
      have hs : steps (k + 1) i = stepB (steps k i) := rfl
      have HS := Go.Lib.hid hs
      clear hs
      generalize steps k i = x at *
      by_cases hp : x % 2 = 1
      · have ex := xor_poly x hx
        have ea : (x : Int) % 2 = 1 := by omega
        have HP := Go.Lib.hid hp
        clear hp
        go_wp2
        go_round
        case rel => exact ⟨k + 1, by omega, by rw [HS.out, step_odd HP.out], by go_num⟩
        case measure => simp [intOf]; omega
      · have ea : (x : Int) % 2 = 0 := by omega
        have HP := Go.Lib.hid hp
        clear hp
        go_wp2
        go_round
        case rel => exact ⟨k + 1, by omega, by rw [HS.out, step_evn HP.out]; go_num, by go_num⟩
        case measure => simp [intOf]; omega
    · obtain rfl : k = 8 := by omega
      go_wp2
      go_ret
      exact ⟨by rw [steps_8]; rfl, rfl⟩
theorem xor32 (x c : Nat) (hx : x < 4294967296) (hc : c < 256) : bits .xor .u32 (x : Int) (c : Int) = ((x ^^^ c : Nat) : Int) := u32_xor_nat x c hx (by omega)
set_option maxRecDepth 100000 in
set_option maxHeartbeats 1000000 in
theorem refSum_any (A : Option Addr) (n cap : Nat) (l : List UInt8) (w : World) (hr : Rd w A n cap l) :
    Calls Tryz.prog 86 #[.slice A n cap] w fun e w' => e = .returned (.int .u32 (sum l : Nat)) ∧ w = w' := by
  have hn := hr.le
  unfold maxLen at hn
  have hl := hr.len
  have HL := Go.Lib.hid hl
  clear hl
  go_enter Tryz.func86, Tryz.ntmps86
  go_wp2
  go_loop [3, 4] (fun r i => ∃ k : Nat, k ≤ n ∧ r = .int .u32 ((reg ones (l.take k) : Nat) : Int) ∧ i = .int .i64 k) (fun _ i => n - (intOf i).toNat)
  case atStart => exact ⟨0, by omega, rfl, rfl⟩
  case round =>
    obtain ⟨k, hk, rfl, rfl⟩ := hrel
    by_cases hlt : k < n
    · obtain ⟨b, o, rfl, hbl, hc⟩ := hr.at_ (by omega)
      have hck := hc k hlt
      clear hc
      have hx := reg_lt ones_lt (l.take k)
      have hs := reg_take ones l k (by rw [HL.out]; exact hlt)
      have HS := Go.Lib.hid hs
      clear hs
      generalize reg ones (l.take k) = x at *
      have hcl := UInt8.toNat_lt (l.getD k 0)
      generalize (l.getD k 0).toNat = c at *
      have e1 := xor32 x c hx hcl
      have hy := xor_byte_lt hx hcl
      obtain ⟨j, hj⟩ : ∃ j, (x ^^^ c) % 256 = j := ⟨_, rfl⟩
      have hj2 : j < 256 := by omega
      have e2 := upd_bits x c j hx hcl hj
      have HJ := Go.Lib.hid hj
      clear hj hr hbl
      generalize x ^^^ c = y at *
      have hj3 : (y : Int) % 256 = (j : Int) := by have := HJ.out; omega
      go_wp2_with (go_at_call 120; refine (refEntry_any j _ (by omega)).mono ?_; rintro e w' ⟨rfl, rfl⟩)
      go_round
      case rel => exact ⟨k + 1, by omega, by rw [HS.out], by go_num⟩
      case measure => simp [intOf]; omega
    · obtain rfl : n = k := by omega
      have hx := reg_lt ones_lt (l.take n)
      have e1 : bits .xor .u32 ((reg ones (l.take n) : Nat) : Int) 4294967295 = ((reg ones (l.take n) ^^^ ones : Nat) : Int) := u32_xor_nat _ ones hx ones_lt
      have HE := Go.Lib.hid e1
      clear e1
      go_wp2
      go_ret
      refine ⟨ret_int ?_, rfl⟩
      rw [HE.out, List.take_of_length_le (by rw [HL.out]; exact Nat.le_refl _)]
      rfl
theorem cells_le4 (v : Nat) (hv : v < 4294967296) : #[Value.int .u8 ((v : Int) % 256), .int .u8 ((v : Int) / 256 % 256), .int .u8 ((v : Int) / 65536 % 256), .int .u8 ((v : Int) / 16777216)] = (cellsOf (le4 v)).toArray := by
  have h := fun k hk => le4_at v k hk
  have h0 := h 0 (by omega)
  have h1 := h 1 (by omega)
  have h2 := h 2 (by omega)
  have h3 := h 3 (by omega)
  have e : cellsOf (le4 v) = [.int .u8 (((le4 v).getD 0 0).toNat : Int), .int .u8 (((le4 v).getD 1 0).toNat : Int), .int .u8 (((le4 v).getD 2 0).toNat : Int), .int .u8 (((le4 v).getD 3 0).toNat : Int)] := rfl
  have h4 : (v : Int) / 2 ^ (8 * 3) % 256 = (v : Int) / 16777216 := by
    show (v : Int) / 16777216 % 256 = _
    omega
  rw [e, h0, h1, h2, h3, h4]
  simp
theorem rd_str {w : World} {A : Option Addr} {n cap : Nat} {l : List UInt8} (h : Rd w A n cap l) : (convert 58 9 (.slice A n cap)).run Tryz.prog w = .ok (.string ⟨l.toArray⟩) w :=
  h.string (P := Tryz.prog) 58 9 5 Tryz.underlying58 Tryz.underlying5 Tryz.underlying9
end Go.Proofs.YtppidbdkejkopaaGreatDoor.CrcWalk
namespace Go.Proofs.YtppidbdkejkopaaGreatDoor.FrWalk
open Go.RowKit MemRow NumMem CrcMath CrcWalk FrMath
set_option maxHeartbeats 1000000 in
set_option maxRecDepth 100000 in
theorem refFour_any (v : Nat) (w : World) (hv : v < 4294967296) :
    Calls Tryz.prog 85 #[.int .u32 (v : Int)] w fun e w' => ∃ A c, e = .returned (.slice A 4 c) ∧ Rd w' A 4 c (le4 v) ∧ Below w.heap.size w w' := by
  have hcs := cells_le4 v hv
  have al : Below w.heap.size w (w.alloc (.cells #[Value.int .u8 ((v : Int) % 256), .int .u8 ((v : Int) / 256 % 256), .int .u8 ((v : Int) / 65536 % 256), .int .u8 ((v : Int) / 16777216)] 5)) := (Below.refl _ _).alloc (Nat.le_refl _) _
  have r6 : Rd (w.alloc (.cells #[Value.int .u8 ((v : Int) % 256), .int .u8 ((v : Int) / 256 % 256), .int .u8 ((v : Int) / 65536 % 256), .int .u8 ((v : Int) / 16777216)] 5)) (some ⟨w.heap.size, 0, none⟩) 4 4 (le4 v) := by
    rw [hcs]
    exact (Row.new w 5 (le4 v)).rd (by unfold maxLen; rw [le4_length]; omega)
  have HV := Go.Lib.hid hv
  clear hcs
  go_enter Tryz.func85, Tryz.ntmps85
  go_wp2_with fail
  go_ret
  exact ⟨_, _, rfl, r6, al⟩
def putC (l : List UInt8) : Int := if maxF < l.length then 3 else 0
def putB (l : List UInt8) : List UInt8 := if maxF < l.length then [] else frameF l
def PutOut (l : List UInt8) (w : World) (e : Ending) (w' : World) : Prop :=
  ∃ A m c, e = .returned (.tuple #[.slice A m c, .int .i64 (putC l)]) ∧ Rd w' A m c (putB l) ∧ Below w.heap.size w w'
set_option maxHeartbeats 2000000 in
set_option maxRecDepth 100000 in
theorem refPutF_any (A : Option Addr) (n cap : Nat) (l : List UInt8) (w : World) (h : Rd w A n cap l) :
    Calls Tryz.prog 51 #[.slice A n cap] w (PutOut l w) := by
  have hl := h.len
  by_cases hn : n ≤ 16384
  · have i1 : ¬ (n : Int) > 16384 := by omega
    have ec : putC l = 0 := by unfold putC maxF; rw [if_neg (by omega)]
    have eb : putB l = frameF l := by unfold putB maxF; rw [if_neg (by omega)]
    unfold PutOut
    rw [ec, eb]
    have hw : IntKind.u32.wrap (n : Int) = (n : Int) := IntWalk.u32_in _ (by omega)
    have HL := Go.Lib.hid hl
    clear ec eb hl
    go_enter Tryz.func51, Tryz.ntmps51
    go_wp2_with fail
    refine (refFour_any n w (by omega)).mono ?_
    rintro e w1 ⟨A1, c1, rfl, r1, b1⟩
    have al1 : Below w1.heap.size w1 (w1.alloc (.cells #[] 5)) := (Below.refl _ _).alloc (Nat.le_refl _) _
    have r1' := r1.below al1
    have R0 := Go.Lib.hid h
    have R1 := Go.Lib.hid r1
    clear r1 h
    go_wp2_with (first
      | (at_builtin; refine wpList_append_fresh rfl (.tmp 14) (.tmp 15) 58 rfl 5 Tryz.underlying58 u8_info rfl rfl (Own.empty w1 5 (Nat.le_refl _)) r1' (by omega) al1.size w1 al1 ?_; intro A2 c2 w2 o2 b2; have r2 := R0.out.below (below_chain b1 b2))
      | (at_builtin; refine wpList_append_more rfl (.tmp 16) (.tmp 17) 58 rfl 5 Tryz.underlying58 u8_info rfl rfl o2 r2 (by omega) b2.size w1 b2 ?_; intro A3 c3 w3 o3 b3; clear o2 r2 r1' al1))
    have b3' := below_chain b1 b3
    have ho3 := o3.rd
    have hs := sum_lt (le4 n ++ l)
    refine (refSum_any A3 (4 + n) c3 _ w3 ho3).mono ?_
    rintro e w' ⟨rfl, rfl⟩
    generalize hv : sum (le4 n ++ l) = v at *
    have HV := Go.Lib.hid hv
    have al3 : Below w3.heap.size w3 (w3.alloc (.cells #[] 5)) := (Below.refl _ _).alloc (Nat.le_refl _) _
    have r3 := R1.out.below (below_chain b3 al3)
    clear hv ho3 o3
    go_wp2_with (first
      | (at_builtin; refine wpList_append_fresh rfl (.tmp 20) (.tmp 21) 58 rfl 5 Tryz.underlying58 u8_info rfl rfl (Own.empty w3 5 (Nat.le_refl _)) r3 (by omega) al3.size w3 al3 ?_; intro A4 c4 w4 o4 b4))
    refine (refFour_any v w4 hs).mono ?_
    rintro e w5 ⟨A5, c5, rfl, r5, b5⟩
    have o5 := o4.below b5
    have b5' := b4.trans (b5.mono b4.size)
    clear o4 b4 b5 al3 r3
    go_wp2_with (first
      | (at_builtin; refine wpList_append_more rfl (.tmp 23) (.tmp 25) 58 rfl 5 Tryz.underlying58 u8_info rfl rfl o5 r5 (by omega) b5'.size w3 b5' ?_; intro A6 c6 w6 o6 b6; have r6 := R0.out.below (below_chain b3' b6); clear o5 r5 b5')
      | (at_builtin; refine wpList_append_more rfl (.tmp 27) (.tmp 28) 58 rfl 5 Tryz.underlying58 u8_info rfl rfl o6 r6 (by omega) b6.size w3 b6 ?_; intro A7 c7 w7 o7 b7; clear o6 r6 b6))
    go_ret2
    refine ⟨A7, _, c7, rfl, ?_, below_chain b3' b7⟩
    have e7 : le4 n ++ le4 v ++ l = frameF l := by
      rw [← HV.out, ← HL.out, List.append_assoc]
      rfl
    rw [← e7]
    exact o7.rd
  · have i1 : (n : Int) > 16384 := by omega
    have ec : putC l = 3 := by unfold putC maxF; rw [if_pos (by omega)]
    have eb : putB l = [] := by unfold putB maxF; rw [if_pos (by omega)]
    unfold PutOut
    rw [ec, eb]
    clear ec eb hl
    go_enter Tryz.func51, Tryz.ntmps51
    go_wp2_with fail
    go_ret2
    exact ⟨none, 0, 0, rfl, Rd.nil _, Below.refl _ _⟩
end Go.Proofs.YtppidbdkejkopaaGreatDoor.FrWalk
namespace Go.Proofs.YtppidbdkejkopaaGreatDoor.WlWalk
open Go.RowKit MemRow Ev NameMath NameWalk EvWalk NumMem DkWalk FrMath BtWalk
def lgV (g many : Nat) (last : Int) : Array Value := #[.pointer (some ⟨g, 0, none⟩), .int .i64 (many : Int), .int .i64 last]
abbrev LgT (gl g many : Nat) (last : Int) : Thing := BxT gl (lgV g many last) 44
section
variable {base : Nat} {w : World} {P Q : Thing} {gl g many : Nat} {last : Int}
theorem lg_cells (h : Pair base w P (With Q (LgT gl g many last))) : w.cell? ⟨gl, 0, none⟩ = some (.pointer (some ⟨g, 0, none⟩)) ∧ w.cell? ⟨gl, 1, none⟩ = some (.int .i64 (many : Int)) ∧ w.cell? ⟨gl, 2, none⟩ = some (.int .i64 last) ∧ w.frozen? ⟨gl, 1, none⟩ = false ∧ w.frozen? ⟨gl, 2, none⟩ = false := by
  have hh := pair_bx h
  refine ⟨by rw [cell_of_row w gl 0 _ _ _ hh]; rfl, by rw [cell_of_row w gl 1 _ _ _ hh]; rfl, by rw [cell_of_row w gl 2 _ _ _ hh]; rfl, by simp [World.frozen?, hh], by simp [World.frozen?, hh]⟩
theorem lg_put {cs cs' : Array Value} {t : TypeId} {i : Nat} {v : Value} (kp : Keeps P) (kq : Keeps Q) (h : Pair base w P (With Q (BxT gl cs t))) (hn : (w.setCell ⟨gl, i, none⟩ v).heap[gl]? = some (.cells cs' t (0, 0))) : Pair base (w.setCell ⟨gl, i, none⟩ v) P (With Q (BxT gl cs' t)) ∧ Below base w (w.setCell ⟨gl, i, none⟩ v) := by
  obtain ⟨F, G, hp, ⟨G1, G2, h1, ⟨hh, hg, hl⟩, i1, i2, hlt, hx⟩, hF, hG, hd⟩ := h
  have hsz : (w.setCell ⟨gl, i, none⟩ v).heap.size = w.heap.size := by simp [World.setCell]
  have hk : ∀ k, k ≠ gl → (w.setCell ⟨gl, i, none⟩ v).heap[k]? = w.heap[k]? := fun k hk => by
    have : gl ≠ k := fun e => hk e.symm
    simp [World.setCell, Array.getElem?_modify, this]
  refine ⟨⟨F, G, kp.keep hp (by omega) fun k hf => hk k fun e => hd k hf (by rw [e]; exact i2 _ hg), ⟨G1, G2, kq.keep h1 (by omega) fun k hf => hk k fun e => hx k hf (by rw [e]; exact hg), ⟨hn, hg, fun k hk => by rw [hsz]; exact hl k hk⟩, i1, i2, fun k hk => by rw [hsz]; exact hlt k hk, hx⟩, hF, hG, hd⟩, ?_⟩
  exact (Below.refl base w).setCell (by show base ≤ gl; exact hG _ (i2 _ hg)) v
theorem lg_set1 (kp : Keeps P) (kq : Keeps Q) (h : Pair base w P (With Q (LgT gl g many last))) (n : Nat) : Pair base (w.setCell ⟨gl, 1, none⟩ (.int .i64 (n : Int))) P (With Q (LgT gl g n last)) ∧ Below base w (w.setCell ⟨gl, 1, none⟩ (.int .i64 (n : Int))) := by
  have hh := pair_bx h
  refine lg_put kp kq h ?_
  unfold lgV at hh ⊢
  simp only [World.setCell, Array.getElem?_modify, hh]
  rfl
theorem lg_set2 (kp : Keeps P) (kq : Keeps Q) (h : Pair base w P (With Q (LgT gl g many last))) (z : Int) : Pair base (w.setCell ⟨gl, 2, none⟩ (.int .i64 z)) P (With Q (LgT gl g many z)) ∧ Below base w (w.setCell ⟨gl, 2, none⟩ (.int .i64 z)) := by
  have hh := pair_bx h
  refine lg_put kp kq h ?_
  unfold lgV at hh ⊢
  simp only [World.setCell, Array.getElem?_modify, hh]
  rfl
end
theorem pair_place {base : Nat} {w : World} {P Q R S : Thing} (h : Pair base w P (With (With Q R) S)) : Pair base w P (With (With Q S) R) := by
  obtain ⟨F, G, hp, ⟨G1, G2, ⟨H1, H2, hq, hr, a1, a2, a3, a4⟩, hs, i1, i2, hl, hx⟩, hF, hG, hd⟩ := h
  refine ⟨F, G, hp, ⟨fun k => H1 k ∨ G2 k, H2, ⟨H1, G2, hq, hs, fun k hk => .inl hk, fun k hk => .inr hk, fun k hk => ?_, fun k h1 h2 => hx k (a1 k h1) h2⟩, hr, fun k hk => ?_, fun k hk => i1 k (a2 k hk), hl, fun k hk h2 => ?_⟩, hF, hG, hd⟩
  · rcases hk with hk | hk
    · exact a3 k (a1 k hk)
    · exact hl k (i2 k hk)
  · rcases hk with hk | hk
    · exact i1 k (a1 k hk)
    · exact i2 k hk
  · rcases hk with hk | hk
    · exact a4 k hk h2
    · exact hx k (a2 k h2) hk
abbrev ApT (Q : Thing) (gb gl g many : Nat) (last a : Int) (v : Value) : Thing := With (With Q (BxT gb #[.int .i64 a, v] 39)) (LgT gl g many last)
theorem apT_keeps {Q : Thing} (kq : Keeps Q) (gb gl g many : Nat) (last a : Int) (v : Value) : Keeps (ApT Q gb gl g many last a v) := with_keeps (with_keeps kq (bxT_keeps _ _ _)) (bxT_keeps _ _ _)
theorem apT_box {base : Nat} {w : World} {P Q : Thing} {gb gl g many : Nat} {last a : Int} {v : Value} (h : Pair base w P (ApT Q gb gl g many last a v)) : w.cell? ⟨gb, 0, none⟩ = some (.int .i64 a) ∧ w.cell? ⟨gb, 1, none⟩ = some v := by
  have hh := pair_bx (pair_first h)
  exact ⟨by rw [cell_of_row w gb 0 _ _ _ hh]; rfl, by rw [cell_of_row w gb 1 _ _ _ hh]; rfl⟩
set_option maxHeartbeats 8000000 in
set_option maxRecDepth 100000 in
theorem refApp_any {base : Nat} {w : World} {Q : Thing} {g gl many : Nat} {last : Int} {D : Dk} {v : Value} {x : Bat} (hp : Pair base w (RfT g D) (With Q (LgT gl g many last))) (kq : Keeps Q) (hb : base ≤ w.heap.size) (ok : DkOk D) (ht : TabB base w) (hv : IsB w v x) (hok : BOk x) (hm : many ≤ 100000) (hl : 0 ≤ last ∧ last ≤ 1048576) :
    Calls Tryz.prog 17 #[.pointer (some ⟨gl, 0, none⟩), v] w fun e w' => e = .returned (.int .i64 (appendW D many last x).1) ∧ Pair base w' (RfT g (appendW D many last x).2.1) (With Q (LgT gl g (appendW D many last x).2.2.1 (appendW D many last x).2.2.2)) ∧ Below base w w' := by
  have hv0 := hv
  obtain ⟨A0, n0, c0, rfl, rE⟩ := hv
  have hn0 := rE.len
  have al := batch_bel w (.int .i64 x.a) (.slice A0 n0 c0)
  have p1' := pair_more (R := BxT w.heap.size #[.int .i64 x.a, .slice A0 n0 c0] 39) hp (rfT_keeps g D) (with_keeps kq (bxT_keeps _ _ _)) hb al ⟨BxAt.new w _ _, ⟨Nat.le_refl _, by simp⟩, fun k hk => hk.2⟩
  have p1 : Pair base _ (RfT g D) (ApT Q w.heap.size gl g many last x.a (.slice A0 n0 c0)) := pair_place p1'
  have B1 : Below base w (w.alloc (.cells #[.int .i64 x.a, .slice A0 n0 c0] 39)) := bel_up hb al
  have hv1 := hv0.below al
  have hb1 : base ≤ (w.alloc (.cells #[.int .i64 x.a, .slice A0 n0 c0] 39)).heap.size := Nat.le_trans hb B1.size
  clear p1' hp al
  generalize hR : appendW D many last x = R
  have HR := Go.Lib.hid hR
  clear hR
  go_enter Tryz.func17, Tryz.ntmps17
  go_upto_region 1 with (fail)
  generalize w.alloc (.cells #[.int .i64 x.a, .slice A0 n0 c0] 39) = w1 at *
  generalize w.heap.size = gb at *
  obtain ⟨k0, k1⟩ := apT_box p1
  go_wp2_with fail
  refine (refPutX_any _ x w1 hv1 hok).mono ?_
  rintro e w2 ⟨b2, hpx⟩
  have p2 := p1.below (rfT_keeps g D) (apT_keeps kq _ _ _ _ _ _ _) b2
  have B2 := B1.trans (bel_up hb1 b2)
  have hb2 := Nat.le_trans hb1 b2.size
  clear p1 k0 k1 b2 hv1
  rcases hpx with ⟨h0, A2, c2, rfl, r2⟩ | ⟨h0, rfl⟩
  case inr =>
    have m0 : (mayX x != 0) = true := by rw [bne_iff_ne]; exact h0
    have e1 : R = (mayX x, D, many, last) := by rw [← HR.out]; unfold appendW; rw [if_pos h0]
    have hM : mayX x = R.1 := by rw [e1]
    have pz : Pair base w2 (RfT g R.2.1) (With Q (LgT gl g R.2.2.1 R.2.2.2)) := by rw [e1]; exact pair_first (pair_place p2)
    rw [hM] at m0 ⊢
    clear HR h0 p2 e1 hM
    go_wp2_with fail
    go_ret
    exact ⟨rfl, pz, B2⟩
  have H0 := Go.Lib.hid h0
  obtain ⟨z1, z2, _, z4, z5⟩ := (mayX_zero x).1 h0
  rw [hn0] at z1 z2 z5
  have hlx := encX_le h0
  clear h0
  obtain ⟨k0, k1⟩ := apT_box p2
  obtain ⟨l0, l1, l2, f1, f2⟩ := lg_cells p2
  by_cases ha : x.a = last
  case neg =>
    obtain rfl : (1, D, many, last) = R := by rw [← HR.out]; unfold appendW; rw [if_neg (by simpa using H0.out), if_pos ha]
    have i1 : (x.a != last) = true := by rw [bne_iff_ne]; exact ha
    have pz := pair_first (pair_place p2)
    clear HR ha
    go_wp2_with fail
    go_quiet (fail)
    go_wp2_with fail
    go_ret
    exact ⟨rfl, pz.below (rfT_keeps g D) (with_keeps kq (bxT_keeps _ _ _)) (EeLaw.bel_drewN (Below.refl _ _) _), B2.trans (EeLaw.bel_drewN (Below.refl _ _) _)⟩
  have i1 : (x.a != last) = false := by rw [bne_eq_false_iff_eq]; exact ha
  have r2' := r2
  go_wp2_with fail
  go_quiet (fail)
  have p3 := p2.below (rfT_keeps g D) (apT_keeps kq _ _ _ _ _ _ _) (EeLaw.bel_drewN (Below.refl _ _) nq)
  have B3 := B2.trans (EeLaw.bel_drewN (Below.refl _ _) nq)
  have r3 := r2.drewN nq
  have hb3 : base ≤ (w2.drewN nq).heap.size := hb2
  have HA := Go.Lib.hid ha
  generalize w2.drewN nq = w3 at *
  clear p2 B2 r2 r2' hb2 k0 k1 l0 l1 l2 f1 f2 i1 ha
  go_wp2_with fail
  refine (FrWalk.refPutF_any A2 _ c2 (encX x) w3 r3).mono ?_
  rintro e w4 ⟨A4, m4, c4, rfl, r4, b4⟩
  have p4 := p3.below (rfT_keeps g D) (apT_keeps kq _ _ _ _ _ _ _) b4
  have B4 := B3.trans (bel_up hb3 b4)
  have hb4 := Nat.le_trans hb3 b4.size
  clear p3 B3 r3 hb3 b4
  by_cases hmx : maxF < (encX x).length
  · have e3 : FrWalk.putC (encX x) = 3 := by unfold FrWalk.putC; rw [if_pos hmx]
    rw [e3]
    obtain rfl : (3, D, many, last) = R := by rw [← HR.out]; unfold appendW; rw [if_neg (by simpa using H0.out), if_neg (by simpa using HA.out), if_pos hmx]
    have pz := pair_first (pair_place p4)
    clear HR hmx e3
    go_wp2_with fail
    go_ret
    exact ⟨rfl, pz, B4⟩
  have e3 : FrWalk.putC (encX x) = 0 := by unfold FrWalk.putC; rw [if_neg hmx]
  have e4 : FrWalk.putB (encX x) = frameF (encX x) := by unfold FrWalk.putB; rw [if_neg hmx]
  rw [e3]
  rw [e4] at r4
  have hm4 := r4.len
  rw [frameF_length] at hm4
  have hm4' : m4 ≤ 1000000 := by unfold maxF at hmx; omega
  replace HR : Hid ((if (appendD D (segN (nextW D many)) (frameF (encX x))).1 ≠ 0 then ((appendD D (segN (nextW D many)) (frameF (encX x))).1, (appendD D (segN (nextW D many)) (frameF (encX x))).2, many, last)
      else if (syncD (appendD D (segN (nextW D many)) (frameF (encX x))).2 (segN (nextW D many))).1 ≠ 0 then ((syncD (appendD D (segN (nextW D many)) (frameF (encX x))).2 (segN (nextW D many))).1, (syncD (appendD D (segN (nextW D many)) (frameF (encX x))).2 (segN (nextW D many))).2, nextW D many, last)
      else (0, (syncD (appendD D (segN (nextW D many)) (frameF (encX x))).2 (segN (nextW D many))).2, nextW D many, last + (x.es.length : Int))) = R) := Go.Lib.hid (by
    have := HR.out
    unfold appendW at this
    rw [if_neg (by simpa using H0.out), if_neg (by simpa using HA.out), if_neg hmx] at this
    exact this)
  generalize frameF (encX x) = f at *
  clear e3 e4 hmx hlx hm4
  generalize (encX x).length = le at *
  have SEG : Hid (∀ (n : Nat) (W : World), TabW W → Calls Tryz.prog 25 #[.int .i64 (n : Int)] W fun e w' => e = .returned (.string (segN n)) ∧ Below W.heap.size W w') := Go.Lib.hid fun n W h => refSeg_any (n : Int) W h
  obtain ⟨l0, l1, l2, f1, f2⟩ := lg_cells p4
  have bd : Below w4.heap.size w4 w4.drew := bel_drew (Below.refl _ _)
  have pd := p4.below (rfT_keeps g D) (apT_keeps kq _ _ _ _ _ _ _) bd
  have Bd := B4.trans (bel_up hb4 bd)
  have td := (ht.on Bd).here
  have rd := r4.below bd
  go_upto_region 10 with (fail)
  go_region_held (fun w' => w'.cell? ⟨gl, 0, none⟩ = some (.pointer (some ⟨g, 0, none⟩)))
    (first | exact l0 | exact (lg_cells p6).1 | exact (lg_cells p5).1)
    (first
      | (go_at_call 41; refine (rw_read p5 (apT_keeps kq _ _ _ _ _ _ _) ok (segN many)).mono ?_; rintro e w6 ⟨A6, m6, c6, rfl, r6, p6, bb⟩; have B6 := B5.trans (bel_up (Nat.le_trans hb4 b5.size) bb); have rf6 := rf5.below bb; have hb6 := Nat.le_trans (Nat.le_trans hb4 b5.size) bb.size; clear bb)
      | (go_at_call 25; refine (SEG.out many w4.drew td).mono ?_; rintro e w5 ⟨rfl, b5⟩; have p5 := pd.below (rfT_keeps g D) (apT_keeps kq _ _ _ _ _ _ _) b5; have B5 := Bd.trans (bel_up hb4 b5); have rf5 := rd.below b5))
  have hm6 := r6.len
  clear p4 pd p5 B4 Bd B5 td rd rf5 r4 b5 bd l0 l1 l2 f1 f2 hb4 r6
  have HN : Hid (nextW D many = if many = 0 ∨ 2048 ≤ m6 then many + 1 else many) := Go.Lib.hid (by unfold nextW; rw [hm6])
  clear hm6
  generalize hnx : nextW D many = nx at *
  clear hnx
  generalize readB D (segN many) = rd6 at *
  go_upto_region 11 with (fail)
  go_cut [54] (fun v wx => v = .bool (decide (many = 0 ∨ 2048 ≤ m6)) ∧ w6 = wx)
  case first =>
    by_cases hmz : many = 0
    · subst hmz
      go_wp2_with fail
      go_meet
      exact ⟨by simp, rfl⟩
    · have j0 : (((many : Int)) == 0) = false := by rw [beq_eq_false_iff_ne]; omega
      by_cases h48 : 2048 ≤ m6
      · have j1 : (2048 : Int) ≤ m6 := by omega
        go_wp2_with fail
        go_meet
        exact ⟨by simp [h48], rfl⟩
      · have j1 : ¬ (2048 : Int) ≤ m6 := by omega
        go_wp2_with fail
        go_meet
        exact ⟨by simp [h48, hmz], rfl⟩
  obtain ⟨rfl, rfl⟩ := hcut
  go_upto_if 54 with (fail)
  go_cut [8] (fun v wx => v = .int .i64 (nx : Int) ∧ w6 = wx)
  case first =>
    by_cases hc : many = 0 ∨ 2048 ≤ m6
    · have e5 : decide (many = 0 ∨ 2048 ≤ m6) = true := by simpa using hc
      obtain rfl : nx = many + 1 := by rw [HN.out, if_pos hc]
      rw [e5]
      clear HN HR
      go_wp2_with fail
      go_meet
      exact ⟨by simp, rfl⟩
    · have e5 : decide (many = 0 ∨ 2048 ≤ m6) = false := by simpa using hc
      obtain rfl : nx = many := by rw [HN.out, if_neg hc]
      rw [e5]
      clear HN HR
      go_wp2_with fail
      go_meet
      exact ⟨rfl, rfl⟩
  obtain ⟨rfl, rfl⟩ := hcut
  clear HN
  have HS : Hid ((segN nx).size ≤ maxLen) := Go.Lib.hid (seg_size nx)
  have okA := append_ok ok (segN nx) f
  generalize hA : appendD D (segN nx) f = A at *
  have HAP : Hid (appendD D (segN nx) f = A) := Go.Lib.hid hA
  clear hA
  obtain ⟨l0, l1, l2, f1, f2⟩ := lg_cells p6
  have bd6 : Below w6.heap.size w6 w6.drew := bel_drew (Below.refl _ _)
  have pd6 := p6.below (rfT_keeps g D) (apT_keeps kq _ _ _ _ _ _ _) bd6
  have Bd6 := B6.trans (bel_up hb6 bd6)
  have td6 := (ht.on Bd6).here
  have rg6 := rf6.below bd6
  go_upto_region 13 with (fail)
  go_region_held (fun w' => w'.cell? ⟨gl, 0, none⟩ = some (.pointer (some ⟨g, 0, none⟩)))
    (first | exact l0 | exact (lg_cells p8).1 | exact (lg_cells p7).1)
    (first
      | (go_at_call 52; refine (rf_append p7 (apT_keeps kq _ _ _ _ _ _ _) hb7 ok HS.out rf7 hm4').mono ?_; rw [HAP.out]; rintro e w8 ⟨rfl, p8, b8⟩; have B8 := B7.trans b8; have hb8 := Nat.le_trans hb7 b8.size; clear b8)
      | (go_at_call 25; refine (SEG.out nx w6.drew td6).mono ?_; rintro e w7 ⟨rfl, b7⟩; have p7 := pd6.below (rfT_keeps g D) (apT_keeps kq _ _ _ _ _ _ _) b7; have B7 := Bd6.trans (bel_up hb6 b7); have rf7 := rg6.below b7; have hb7 := Nat.le_trans hb6 b7.size))
  clear p6 pd6 p7 B6 Bd6 B7 td6 rg6 rf7 rf6 b7 bd6 l0 l1 l2 f1 f2 hb6 hb7
  clear HAP
  obtain ⟨A1, DA⟩ := A
  by_cases hA1 : A1 = 0
  case neg =>
    have i1 : (A1 == 0) = false := by rw [beq_eq_false_iff_ne]; exact hA1
    obtain rfl : (A1, DA, many, last) = R := by rw [← HR.out, if_pos hA1]
    have pz := pair_first (pair_place p8)
    clear HR hA1
    go_wp2_with fail
    go_ret
    exact ⟨rfl, pz, B8⟩
  subst hA1
  replace HR : Hid ((if (syncD DA (segN nx)).1 ≠ 0 then ((syncD DA (segN nx)).1, (syncD DA (segN nx)).2, nx, last)
      else (0, (syncD DA (segN nx)).2, nx, last + (x.es.length : Int))) = R) := Go.Lib.hid (by
    have := HR.out
    rw [if_neg (by simp)] at this
    exact this)
  obtain ⟨l0, l1, l2, f1, f2⟩ := lg_cells p8
  obtain ⟨p9, b9⟩ := lg_set1 (rfT_keeps g DA) (with_keeps kq (bxT_keeps _ _ _)) p8 nx
  have B9 := B8.trans b9
  have hb9 := Nat.le_trans hb8 b9.size
  go_upto_region 15 with (fail)
  go_upto_region 16 with (fail)
  clear l0 l1 l2 f1 f2 b9 p8 B8 hb8 HS
  have okA' : DkOk DA := okA
  clear okA
  generalize w8.setCell ⟨gl, 1, none⟩ (.int .i64 (nx : Int)) = w9 at *
  obtain ⟨l0, l1, l2, f1, f2⟩ := lg_cells p9
  have bd9 : Below w9.heap.size w9 w9.drew := bel_drew (Below.refl _ _)
  have pd9 : Pair base w9.drew (RfT g DA) (ApT Q gb gl g nx last x.a (.slice A0 n0 c0)) := p9.below (rfT_keeps g DA) (apT_keeps kq _ _ _ _ _ _ _) bd9
  have Bd9 := B9.trans (bel_up hb9 bd9)
  have td9 := (ht.on Bd9).here
  generalize hS : syncD DA (segN nx) = S at *
  have HSY : Hid (syncD DA (segN nx) = S) := Go.Lib.hid hS
  clear hS
  go_region_held (fun w' => w'.cell? ⟨gl, 0, none⟩ = some (.pointer (some ⟨g, 0, none⟩)))
    (first | exact l0 | exact (lg_cells p11).1 | exact (lg_cells p10).1)
    (first
      | (go_at_call 43; refine (rf_sync p10 (apT_keeps kq _ _ _ _ _ _ _) hb10 okA' (segN nx)).mono ?_; rw [HSY.out]; rintro e w11 ⟨rfl, p11, b11⟩; have B11 := B10.trans b11; have hb11 := Nat.le_trans hb10 b11.size; clear b11)
      | (go_at_call 25; refine (SEG.out nx w9.drew td9).mono ?_; rintro e w10 ⟨rfl, b10⟩; have p10 := pd9.below (rfT_keeps g DA) (apT_keeps kq _ _ _ _ _ _ _) b10; have B10 := Bd9.trans (bel_up hb9 b10); have hb10 := Nat.le_trans hb9 b10.size))
  clear p9 pd9 p10 B9 Bd9 B10 td9 b10 bd9 l0 l1 l2 f1 f2 hb9 hb10 HSY okA'
  obtain ⟨S1, DS⟩ := S
  by_cases hS1 : S1 = 0
  case neg =>
    have i1 : (S1 == 0) = false := by rw [beq_eq_false_iff_ne]; exact hS1
    obtain rfl : (S1, DS, nx, last) = R := by rw [← HR.out, if_pos hS1]
    have pz := pair_first (pair_place p11)
    clear HR hS1
    go_wp2_with fail
    go_ret
    exact ⟨rfl, pz, B11⟩
  subst hS1
  obtain rfl : (0, DS, nx, last + (x.es.length : Int)) = R := by
    have := HR.out
    rw [if_neg (by simp)] at this
    exact this
  clear HR
  obtain ⟨l0, l1, l2, f1, f2⟩ := lg_cells p11
  obtain ⟨k0, k1⟩ := apT_box p11
  have z6 : last + (n0 : Int) ≤ 1048576 := by rw [← HA.out]; exact z5
  have z7 := hl.1
  have wz : IntKind.i64.wrap (last + (n0 : Int)) = last + (n0 : Int) := IntWalk.i64_in _ (by omega)
  obtain ⟨p12, b12⟩ := lg_set2 (rfT_keeps g DS) (with_keeps kq (bxT_keeps _ _ _)) p11 (last + (n0 : Int))
  have p13 := pair_first (pair_place p12)
  have bd13 := bel_drew (Below.refl (w11.setCell ⟨gl, 2, none⟩ (.int .i64 (last + (n0 : Int)))).heap.size (w11.setCell ⟨gl, 2, none⟩ (.int .i64 (last + (n0 : Int)))))
  have p14 := Go.Lib.hid (p13.below (rfT_keeps g DS) (with_keeps kq (bxT_keeps _ _ _)) bd13)
  have B14 := Go.Lib.hid ((B11.trans b12).trans (bel_up (Nat.le_trans hb11 b12.size) bd13))
  clear p12 b12 p13 bd13 p11 B11
  go_upto_region 18 with (fail)
  go_region_with (fail)
  all_goals
    generalize (w11.setCell ⟨gl, 2, none⟩ (.int .i64 (last + (n0 : Int)))).drew = w14 at *
    clear l0 l1 l2 f1 f2 k0 k1
    subst hn0
    go_wp2_with fail
    go_ret
    exact ⟨rfl, p14.out, B14.out⟩
end Go.Proofs.YtppidbdkejkopaaGreatDoor.WlWalk
namespace Go.Proofs.YtppidbdkejkopaaGreatDoor.FrWalk
open Go.RowKit MemRow NumMem CrcMath CrcWalk FrMath
theorem slice_mid {w : World} {A : Option Addr} {n cap : Nat} {l : List UInt8} (h : Rd w A n cap l) {i j : Nat} {x y : Int} (hx : x = i) (hy : y = j) (hij : i ≤ j) (hj : j ≤ n) :
    ∃ A1 c1, (∀ W, (Instr.slice 58 (.slice A n cap) (some (.int .i64 x)) (some (.int .i64 y)) none).run Tryz.prog W = .ok (.slice A1 (j - i) c1) W) ∧ Rd w A1 (j - i) c1 ((l.drop i).take (j - i)) := by
  subst hx hy
  have hc := h.le_cap
  refine ⟨_, _, fun W => ?_, (h.cut (k := i) (by omega)).first (k := j - i) (by omega)⟩
  have hu : Tryz.prog.underlying 58 = some (.slice (Tryz.prog.elem 58)) := by rw [elem_bytes]; exact Tryz.underlying58
  rw [run_slice_lh (P := Tryz.prog) W 58 _ n cap hu .i64 .i64 (i : Int) (j : Int) (by omega) (by omega) (by omega), elem_bytes, run_size_u8]
  simp only [Result.andThen, sliced, Int.toNat_natCast, Nat.mul_one]
theorem slice_low {w : World} {A : Option Addr} {n cap : Nat} {l : List UInt8} (h : Rd w A n cap l) {i : Nat} (hi : i ≤ n) :
    ∃ A1, (∀ W, (Instr.slice 58 (.slice A n cap) (some (.int .i64 (i : Int))) none none).run Tryz.prog W = .ok (.slice A1 (n - i) (cap - i)) W) ∧ Rd w A1 (n - i) (cap - i) (l.drop i) := by
  refine ⟨_, fun W => ?_, h.cut hi⟩
  have hu : Tryz.prog.underlying 58 = some (.slice (Tryz.prog.elem 58)) := by rw [elem_bytes]; exact Tryz.underlying58
  rw [run_slice_l (P := Tryz.prog) W 58 _ n cap hu .i64 (i : Int) (by omega) (by omega), elem_bytes, run_size_u8]
  simp only [Result.andThen, sliced, Int.toNat_natCast, Nat.mul_one]
theorem word4 (l : List UInt8) (h : 4 ≤ l.length) : word (l.take 4) = (l.getD 0 0).toNat + 256 * (l.getD 1 0).toNat + 65536 * (l.getD 2 0).toNat + 16777216 * (l.getD 3 0).toNat := by
  match l, h with
  | a :: b :: c :: d :: r, _ =>
    simp only [List.take, word, List.getD_cons_zero, List.getD_cons_succ]
    omega
theorem own_low {k : Nat} {w : World} {base base' : Nat} {t : TypeId} {A : Option Addr} {n cap : Nat} {cs : List Value} (h : OwnC k w base t A n cap cs) (hb : base' ≤ base) : OwnC k w base' t A n cap cs := by
  refine ⟨h.1, ?_⟩
  rcases h.2 with h2 | ⟨g, c, cur, hv, hg, h3⟩
  · exact .inl h2
  · exact .inr ⟨g, c, cur, hv, Nat.le_trans hb hg, h3⟩
def takeB (l : List UInt8) : List UInt8 := (takeF l).getD []
def takeN (l : List UInt8) : Nat := match takeF l with
  | none => 0
  | some x => 8 + x.length
theorem takeN_none {l : List UInt8} (h : takeF l = none) : takeN l = 0 := by unfold takeN; rw [h]
theorem takeN_some {l x : List UInt8} (h : takeF l = some x) : takeN l = 8 + x.length := by unfold takeN; rw [h]
theorem takeB_none {l : List UInt8} (h : takeF l = none) : takeB l = [] := by unfold takeB; rw [h]; rfl
theorem takeB_some {l x : List UInt8} (h : takeF l = some x) : takeB l = x := by unfold takeB; rw [h]; rfl
def TakeOut (l : List UInt8) (w : World) (e : Ending) (w' : World) : Prop :=
  ∃ A m c, e = .returned (.tuple #[.slice A m c, .int .i64 (takeN l : Nat)]) ∧ Own w' w.heap.size 5 A m c (takeB l) ∧ Below w.heap.size w w'
theorem bytes_apart {a b : List UInt8} (h : a ≠ b) : (a == b) = false := by rw [beq_eq_false_iff_ne]; exact h
theorem bytes_str {w : World} {A : Option Addr} {n cap : Nat} {l : List UInt8} (h : Rd w A n cap l) : (convert 58 9 (.slice A n cap)).run Tryz.prog w = .ok (.string ⟨l.toArray⟩) w :=
  h.string (P := Tryz.prog) 58 9 5 Tryz.underlying58 Tryz.underlying5 Tryz.underlying9
theorem none_out {l : List UInt8} (ht : takeF l = none) {w w' : World} (hb : Below w.heap.size w w') : TakeOut l w (.returned (.tuple #[.slice none 0 0, .int .i64 0])) w' :=
  ⟨none, 0, 0, by rw [takeN_none ht]; rfl, by rw [takeB_none ht]; exact OwnC.nil (k := 1) _ _, hb⟩
set_option maxHeartbeats 4000000 in
set_option maxRecDepth 100000 in
theorem refTakeF_any (A : Option Addr) (n cap : Nat) (l : List UInt8) (w : World) (h : Rd w A n cap l) :
    Calls Tryz.prog 73 #[.slice A n cap] w (TakeOut l w) := by
  have hl := h.len
  have hnm := h.le
  unfold maxLen at hnm
  by_cases h8 : n < 8
  · have i1 : (n : Int) < 8 := by omega
    have ht := take_none_short (l := l) (by omega)
    clear hl
    go_enter Tryz.func73, Tryz.ntmps73
    go_wp2_with fail
    go_ret2
    exact none_out ht (Below.refl _ _)
  · have i1 : ¬ (n : Int) < 8 := by omega
    have R0 := Go.Lib.hid h
    obtain ⟨b, o, rfl, _, hc⟩ := h.at_ (by omega)
    have k0 := hc 0 (by omega)
    have k1 := hc 1 (by omega)
    have k2 := hc 2 (by omega)
    have k3 := hc 3 (by omega)
    rw [Nat.add_zero] at k0
    have hw4 := word4 l (by omega)
    have u0 := UInt8.toNat_lt (l.getD 0 0)
    have u1 := UInt8.toNat_lt (l.getD 1 0)
    have u2 := UInt8.toNat_lt (l.getD 2 0)
    have u3 := UInt8.toNat_lt (l.getD 3 0)
    generalize hN : word (l.take 4) = N at *
    generalize (l.getD 0 0).toNat = a0 at *
    generalize (l.getD 1 0).toNat = a1 at *
    generalize (l.getD 2 0).toNat = a2 at *
    generalize (l.getD 3 0).toNat = a3 at *
    have s0 : IntKind.i64.wrap (a0 : Int) = a0 := IntWalk.i64_in _ (by omega)
    have s1 : IntKind.i64.wrap (a1 : Int) = a1 := IntWalk.i64_in _ (by omega)
    have s2 : IntKind.i64.wrap (a2 : Int) = a2 := IntWalk.i64_in _ (by omega)
    have s3 : IntKind.i64.wrap (a3 : Int) = a3 := IntWalk.i64_in _ (by omega)
    have m1 : IntKind.i64.wrap (256 * (a1 : Int)) = 256 * (a1 : Int) := IntWalk.i64_in _ (by omega)
    have m2 : IntKind.i64.wrap (65536 * (a2 : Int)) = 65536 * (a2 : Int) := IntWalk.i64_in _ (by omega)
    have m3 : IntKind.i64.wrap (16777216 * (a3 : Int)) = 16777216 * (a3 : Int) := IntWalk.i64_in _ (by omega)
    have p1 : IntKind.i64.wrap ((a0 : Int) + 256 * (a1 : Int)) = (a0 : Int) + 256 * (a1 : Int) := IntWalk.i64_in _ (by omega)
    have p2 : IntKind.i64.wrap ((a0 : Int) + 256 * (a1 : Int) + 65536 * (a2 : Int)) = (a0 : Int) + 256 * (a1 : Int) + 65536 * (a2 : Int) := IntWalk.i64_in _ (by omega)
    have p3 : IntKind.i64.wrap ((a0 : Int) + 256 * (a1 : Int) + 65536 * (a2 : Int) + 16777216 * (a3 : Int)) = (N : Int) := by rw [IntWalk.i64_in _ (by omega)]; omega
    have hNl : N < 4294967296 := by omega
    have HN := Go.Lib.hid hN
    have HL := Go.Lib.hid hl
    clear hc hw4 u0 u1 u2 u3 hN hl h
    go_enter Tryz.func73, Tryz.ntmps73
    go_wp2_with fail
    go_quiet (fail)
    have bq : Below w.heap.size w (w.drewN nq) := bel_drewN (Below.refl _ _) nq
    have rq := R0.out.below bq
    clear s0 s1 s2 s3 m1 m2 m3 p1 p2 p3 k0 k1 k2 k3
    generalize w.drewN nq = wq at *
    by_cases hb : 16384 < N
    · have i2 : (N : Int) > 16384 := by omega
      have ht : takeF l = none := by
        have := HL.out
        unfold takeF maxF
        rw [HN.out, if_neg (by omega), if_pos hb]
      go_wp2_with fail
      go_ret2
      exact none_out ht bq
    · have i2 : ¬ (N : Int) > 16384 := by omega
      have hs : IntKind.i64.wrap ((n : Int) - 8) = (n : Int) - 8 := IntWalk.i64_in _ (by omega)
      by_cases hb2 : n - 8 < N
      · have i3 : (N : Int) > (n : Int) - 8 := by omega
        have ht : takeF l = none := by
          have := HL.out
          unfold takeF maxF
          rw [HN.out, if_neg (by omega), if_neg hb, if_pos (by omega)]
        go_wp2_with fail
        go_ret2
        exact none_out ht bq
      · have i3 : ¬ (N : Int) > (n : Int) - 8 := by omega
        have hcp := rq.le_cap
        have hs2 : IntKind.i64.wrap (8 + (N : Int)) = 8 + (N : Int) := IntWalk.i64_in _ (by omega)
        obtain ⟨A1, c1, q1, r1⟩ := slice_mid rq (i := 8) (j := 8 + N) (x := 8) (y := 8 + (N : Int)) rfl (by omega) (by omega) (by omega)
        rw [show 8 + N - 8 = N by omega] at q1 r1
        have al : Below wq.heap.size wq (wq.alloc (.cells #[] 5)) := (Below.refl _ _).alloc (Nat.le_refl _) _
        have r1' := r1.below al
        have hxl := r1.len
        clear r1
        go_wp2_with (at_builtin; refine wpList_append_fresh rfl (.tmp 42) (.tmp 46) 58 rfl 5 Tryz.underlying58 u8_info rfl rfl (Own.empty wq 5 (Nat.le_refl _)) r1' (by omega) al.size wq al ?_; intro A2 c2 w2 o2 b2)
        have o2r := o2.rd
        have b2' := below_chain bq b2
        refine (refPutF_any A2 N c2 _ w2 o2r).mono ?_
        rintro e w3 ⟨A3, m3, c3, rfl, r3, b3⟩
        have ec : putC ((l.drop 8).take N) = 0 := by
          unfold putC maxF
          rw [if_neg (by omega)]
        have eb : putB ((l.drop 8).take N) = frameF ((l.drop 8).take N) := by
          unfold putB maxF
          rw [if_neg (by omega)]
        rw [eb] at r3
        rw [ec]
        have o3 := o2.below b3
        have b3' := b2.trans (b3.mono b2.size)
        have rw3 := (R0.out.below (below_chain b2' b3)).first (k := 8 + N) (by omega)
        have q2 : ∀ W, (Instr.slice 58 (.slice (some ⟨b, o, none⟩) n cap) none (some (.int .i64 (8 + (N : Int)))) none).run Tryz.prog W = .ok (.slice (some ⟨b, o, none⟩) (8 + N) cap) W := fun W => slice_upto (some ⟨b, o, none⟩) n cap (8 + N) (by omega) W
        have sf := fun q => bytes_str (r3.drewN q)
        have sl := fun q => bytes_str (rw3.drewN q)
        have hbase : w.heap.size ≤ wq.heap.size := bq.size
        clear r1' o2 o2r b2 b2' b3 r3 rw3 ec eb q1 al rq
        have HX : Hid (takeF l = if frameF ((l.drop 8).take N) = l.take (8 + N) then some ((l.drop 8).take N) else none) := by
          have := HL.out
          refine Go.Lib.hid ?_
          unfold takeF maxF
          rw [HN.out, if_neg (by omega), if_neg hb, if_neg (by omega)]
        generalize hx : (l.drop 8).take N = x at *
        clear hx
        generalize l.take (8 + N) = y at *
        by_cases he : frameF x = y
        · subst he
          have ht : takeF l = some x := by
            have := HX.out
            rwa [if_pos rfl] at this
          have HT := Go.Lib.hid ht
          clear ht HX
          go_wp2_with fail
          go_quiet (fail)
          go_wp2_with fail
          go_ret2
          refine ⟨A2, N, c2, ?_, ?_, ?_⟩
          · rw [takeN_some HT.out, hxl]
            rfl
          · rw [takeB_some HT.out]
            exact own_low (k := 1) (o3.below (bel_drewN (Below.refl _ _) _)) hbase
          · exact bel_drewN (below_chain bq b3') _
        · have ht : takeF l = none := by
            have := HX.out
            rwa [if_neg he] at this
          have HT := Go.Lib.hid ht
          have hne := bytes_apart he
          clear ht HX he
          go_wp2_with fail
          go_quiet (fail)
          go_wp2_with fail
          go_ret2
          refine none_out HT.out ?_
          exact bel_drewN (below_chain bq b3') _
end Go.Proofs.YtppidbdkejkopaaGreatDoor.FrWalk
namespace Go.Proofs.YtppidbdkejkopaaGreatDoor.FrWalk
open Go.RowKit MemRow NumMem CrcMath CrcWalk FrMath
theorem rows_take (l : List (List UInt8)) (j : Nat) (h : j < l.length) : l.take (j + 1) = l.take j ++ [l.getD j []] := by
  rw [List.take_succ_eq_append_getElem h]
  simp [List.getD, List.getElem?_eq_getElem h]
theorem RdB.drewN {w : World} {A : Option Addr} {n cap : Nat} {xs : List (List UInt8)} (h : RdB w A n cap xs) (q : Nat) : RdB (w.drewN q) A n cap xs := h
end Go.Proofs.YtppidbdkejkopaaGreatDoor.FrWalk
namespace Go.Proofs.YtppidbdkejkopaaGreatDoor.FrWalk
open Go.RowKit MemRow NumMem CrcMath CrcWalk FrMath
set_option maxHeartbeats 1000000 in
set_option maxRecDepth 100000 in
theorem putWord_any (v : Nat) (w : World) :
    Calls Tryz.prog 80 #[.int .u32 (v : Int)] w fun e w' => ∃ A c, e = .returned (.slice A 4 c) ∧ Rd w' A 4 c (le4 v) ∧ Below w.heap.size w w' := by
  have hmk := fun W => run_make_bytes (P := Tryz.prog) 58 5 Tryz.underlying58 u8_info 4 (by omega) (4 : Int) (by omega) W
  obtain ⟨w1, hw1⟩ : ∃ w1, w1 = w.alloc (.cells (cellsOf (List.replicate 4 0)).toArray 5) := ⟨_, rfl⟩
  have row : Row w1 w.heap.size 5 (List.replicate 4 0) := by rw [hw1]; exact heap_alloc_new w _
  have bel : Below w.heap.size w w1 := by rw [hw1]; exact (Below.refl _ _).alloc (Nat.le_refl _) _
  have hm1 := hmk w
  rw [← hw1] at hm1
  clear hmk hw1
  go_enter Tryz.func80, Tryz.ntmps80
  go_wp2_with fail
  go_loopw [8] (fun i wr => ∃ k : Nat, k ≤ 4 ∧ i = .int .i64 k ∧ PutAt w1 wr w.heap.size 0 5 (List.replicate 4 0) v k) (fun i _ => 4 - (intOf i).toNat)
  case atStart => exact ⟨0, by omega, rfl, putAt_start row⟩
  case round =>
    obtain ⟨k, hk, rfl, hf⟩ := hrel
    by_cases hlt : k < 4
    · obtain ⟨⟨x, hx⟩, hfr⟩ := putAt_cell hf hlt (by decide)
      have hs := putAt_step hf hlt (by decide)
      rw [Nat.zero_add] at hx hfr hs
      have HS := Go.Lib.hid hs
      clear hs
      have e1 := le4_at v k hlt
      have E1 := Go.Lib.hid e1
      clear e1 hm1 bel row
      go_wp2
      go_roundw
      case rel => exact ⟨k + 1, by omega, by go_num, HS.out _ E1.out.symm⟩
      case measure => simp [intOf]; omega
    · obtain rfl : k = 4 := by omega
      have hr := hf.row
      rw [List.take_of_length_le (l := le4 v) (by rw [le4_length]; exact Nat.le_refl _)] at hr
      have hb := bel.grown hf.grown bel.size (by rintro k ⟨rfl⟩; exact Nat.le_refl _)
      go_wp2_with fail
      go_ret
      exact ⟨_, _, rfl, by simpa [le4_length] using hr.rd (by unfold maxLen; simp [le4_length]), hb⟩
set_option maxHeartbeats 1000000 in
set_option maxRecDepth 100000 in
theorem takeWord_any (A : Option Addr) (cap : Nat) (l : List UInt8) (w : World) (h : Rd w A 4 cap l) :
    Calls Tryz.prog 98 #[.slice A 4 cap] w fun e w' => e = .returned (.int .u32 (word l : Nat)) ∧ w = w' := by
  have hl := h.len
  have HL := Go.Lib.hid hl
  clear hl
  obtain ⟨b, o, rfl, hbl, hc⟩ := h.at_ (by omega)
  have HC := Go.Lib.hid hc
  clear hc
  go_enter Tryz.func98, Tryz.ntmps98
  go_wp2
  go_loop [3, 8] (fun r i => ∃ k : Nat, k ≤ 4 ∧ r = .int .u32 ((word (l.take k) : Nat) : Int) ∧ i = .int .i64 k) (fun _ i => 4 - (intOf i).toNat)
  case atStart => exact ⟨0, by omega, rfl, rfl⟩
  case round =>
    obtain ⟨k, hk, rfl, rfl⟩ := hrel
    by_cases hlt : k < 4
    · have hck := HC.out k hlt
      have hs := word_take l k (by rw [HL.out]; exact hlt)
      have hx := word_lt (l.take k)
      have ek : (l.take k).length = k := by rw [List.length_take, HL.out]; omega
      rw [ek, show (256 : Nat) = 2 ^ 8 from rfl, ← Nat.pow_mul] at hx
      have hcl := UInt8.toNat_lt (l.getD k 0)
      generalize (l.getD k 0).toNat = c at *
      generalize word (l.take k) = x at *
      have e1 := or_word x c k hlt hcl hx
      rw [← hs, IntKind.wrap_u32] at e1
      clear ek hs hx h
      go_wp2
      go_round
      case rel => exact ⟨k + 1, by omega, by first | rfl | rw [e1], by go_num⟩
      case measure => simp [intOf]; omega
    · obtain rfl : k = 4 := by omega
      go_wp2
      go_ret
      refine ⟨ret_int ?_, rfl⟩
      rw [List.take_of_length_le (by rw [HL.out]; exact Nat.le_refl _)]
set_option maxRecDepth 100000 in
theorem slice_full (A : Option Addr) (n cap : Nat) (hc : n ≤ cap) (W : World) :
    (Instr.slice 58 (.slice A n cap) none (some (.int .i64 (n : Int))) (some (.int .i64 (n : Int)))).run Tryz.prog W = .ok (.slice A n n) W := by
  have hu : Tryz.prog.underlying 58 = some (.slice (Tryz.prog.elem 58)) := by rw [elem_bytes]; exact Tryz.underlying58
  have e : A.map (·.add 0) = A := by cases A <;> simp [Addr.add]
  rw [run_slice_hm (P := Tryz.prog) W 58 _ n cap hu .i64 .i64 (n : Int) (n : Int) (by omega) (by omega) (by omega), elem_bytes, run_size_u8]
  simp only [Result.andThen, sliced, Int.toNat_natCast, Nat.zero_mul, e, Nat.sub_zero]
  congr 2
  split <;> rfl
theorem Rd.src_any {w : World} {A : Option Addr} {n cap : Nat} {l : List UInt8} (h : Rd w A n cap l) {ad : Addr} (hA : A = some ad) : ∀ j u, (cellsOf l)[j]? = some u → w.cell? (ad.add j) = some u := by
  intro j u hu
  obtain ⟨ad', h1, hc⟩ := h.src (by have := (List.getElem?_eq_some_iff.1 hu).1; omega)
  rw [hA] at h1
  injection h1 with h1
  subst h1
  exact hc j u hu
theorem run_append_full {w : World} {A B : Option Addr} {n m c : Nat} {l k : List UInt8} (ha : Rd w A n n l) (hb : Rd w B m c k) (h0 : 0 < n) (hsz : n + m ≤ 140737488355328) (ty : TypeId) :
    ∃ A' cap' w', (Builtin.append_ #[58, 58] ty #[.slice A n n, .slice B m c]).run Tryz.prog w = .ok (.slice A' (n + m) cap') w' ∧ Rd w' A' (n + m) cap' (l ++ k) ∧ Below w.heap.size w w' := by
  have hi := u8_info
  have hT := Tryz.underlying58
  obtain ⟨i, h1, h2, h3, h4⟩ : ∃ i, Tryz.prog.info? 5 = some i ∧ i.zero = some (.int .u8 0) ∧ i.size = 1 ∧ i.bytes = 1 := by
    cases hq : Tryz.prog.info? 5 with
    | none => simp [hq] at hi
    | some i => simp [hq] at hi; exact ⟨i, rfl, hi.1, hi.2.1, hi.2.2⟩
  obtain ⟨b, o, rfl, _, _⟩ := ha.at_ h0
  by_cases hm : m = 0
  · subst hm
    have hk : k = [] := List.eq_nil_of_length_eq_zero hb.len
    subst hk
    refine ⟨some ⟨b, o, none⟩, n, w, ?_, by simpa using ha, Below.refl _ _⟩
    cases B with
    | none => simp [Builtin.append_, run_underlying hT, sizeOf, typeInfo, h1, Builtin.lenOf, Builtin.firstCells, storeCells]
    | some ad =>
      have := run_append_room_cells (P := Tryz.prog) w 58 ty 5 i hT h1 b o n n ad 0 c [] (by simp) (by simp) (by simp) (Nat.le_refl _) (by simp) (by simp)
      rw [this]
      rfl
  · obtain ⟨b', o', rfl, _, _⟩ := hb.at_ (by omega)
    obtain ⟨v', w', hrun, ho, hg⟩ := run_append_arg_grows (P := Tryz.prog) w 58 ty 5 i (.int .u8 0) 1 1 hT h1 h2 h3 h4 rfl (by omega) ⟨b, o, none⟩ n n (cellsOf l) (by rw [cellsOf_length, ha.len, Nat.mul_one]) (Rd.src_any ha rfl) ⟨b', o', none⟩ m c (cellsOf k) (by rw [cellsOf_length, hb.len, Nat.mul_one]) (Rd.src_any hb rfl) (by omega) (by unfold maxLen; omega) (by omega)
    rcases ho.2 with ⟨rfl, hn⟩ | ⟨g, c2, cur, rfl, hrest⟩
    · omega
    · refine ⟨_, c2, w', hrun, ?_, grown_below hg⟩
      have oo : Own w' w.heap.size 5 (some ⟨g, 0, none⟩) (n + m) c2 (l ++ k) := by
        unfold Own
        rw [cellsOf_append]
        exact ho
      exact oo.rd
end Go.Proofs.YtppidbdkejkopaaGreatDoor.FrWalk
namespace Go.Proofs.YtppidbdkejkopaaGreatDoor.FrWalk
open Go.RowKit MemRow NumMem CrcMath CrcWalk FrMath
theorem u8_info_one : ∃ i, Tryz.prog.info? 5 = some i ∧ i.zero = some (.int .u8 0) ∧ i.size = 1 ∧ i.bytes = 1 := by
  have hi := u8_info
  cases hq : Tryz.prog.info? 5 with
  | none => simp [hq] at hi
  | some i => simp [hq] at hi; exact ⟨i, rfl, hi.1, hi.2.1, hi.2.2⟩
set_option maxHeartbeats 2000000 in
set_option maxRecDepth 100000 in
theorem grow_any (n : Nat) (w : World) (h0 : 0 < n) (hn : n ≤ 140737488355328) :
    Calls Tryz.prog 118 #[.slice none 0 0, .int .i64 n] w fun e w' => ∃ cap, e = .returned (.slice (some ⟨w.heap.size, 0, none⟩) 0 cap) ∧ Own w' w.heap.size 5 (some ⟨w.heap.size, 0, none⟩) 0 cap [] ∧ Below w.heap.size w w' := by
  obtain ⟨i, g1, g2, g3, g4⟩ := u8_info_one
  have hrz : ∀ ty, (Builtin.append_ #[58, 3] ty #[.slice none 0 0, .int .i64 n]).run Tryz.prog w = .ok (.slice (some ⟨w.heap.size, 0, none⟩) n (grownCap w n 0 5)) (w.drew.alloc (.cells (#[] ++ Builtin.zeroCells #[.int .u8 0] n ++ Builtin.zeroCells #[.int .u8 0] (grownCap w n 0 5 - n)) 5)) := fun ty => by
    have h := Lib.run_append_grow_zeros (P := Tryz.prog) w 58 3 ty 5 i (.int .u8 0) .i64 .i64 Tryz.underlying58 Tryz.underlying3 g1 g2 none 0 0 [] (by simp [Builtin.firstCells]) n h0 (by omega) (by omega) (by omega) (by rw [g4]; omega) (by
      rw [Nat.zero_add, g4]
      exact growslice_fits h0 (by omega))
    rw [Nat.zero_add] at h
    exact h
  have hge := grownCap_ge w n 0 5
  have hle := grownCap_le_maxLen w n 0 5 (by unfold maxLen; omega)
  obtain ⟨G, hG⟩ : ∃ G, G = grownCap w n 0 5 := ⟨_, rfl⟩
  rw [← hG] at hrz hge hle
  have own : Own (w.alloc (.cells (Builtin.zeroCells #[.int .u8 0] n ++ Builtin.zeroCells #[.int .u8 0] (G - n)) 5)).drew w.heap.size 5 (some ⟨w.heap.size, 0, none⟩) 0 G [] :=
    ⟨by simp [cellsOf], .inr ⟨w.heap.size, G, _, rfl, Nat.le_refl _, heap_alloc_new w _, Nat.zero_le _, hle, by simp only [Array.size_append, size_zeroCells]; simp; omega, by simp [cellsOf]⟩⟩
  have OWN := Go.Lib.hid own
  have bel : Below w.heap.size w (w.alloc (.cells (Builtin.zeroCells #[.int .u8 0] n ++ Builtin.zeroCells #[.int .u8 0] (G - n)) 5)).drew :=
    let h := (Below.refl w.heap.size w).alloc (Nat.le_refl _) (.cells (Builtin.zeroCells #[.int .u8 0] n ++ Builtin.zeroCells #[.int .u8 0] (G - n)) 5)
    ⟨h.os, h.tape, h.output, h.size, h.block⟩
  have BEL := Go.Lib.hid bel
  clear own bel hG
  unfold maxLen at hle
  go_enter Tryz.func118, Tryz.ntmps118
  go_wp2_with (at_builtin; refine Lib.wpList_append_run _ rfl _ _ _ _ rfl _ _ rfl rfl _ _ (hrz _) ?_)
  go_ret
  exact ⟨G, rfl, OWN.out, BEL.out⟩
theorem flat_take (xs : List (List UInt8)) (j : Nat) (h : j < xs.length) : (xs.take (j + 1)).flatten = (xs.take j).flatten ++ xs.getD j [] := by
  rw [rows_take xs j h, List.flatten_append]
  simp
theorem flat_take_le (xs : List (List UInt8)) (j : Nat) : (xs.take j).flatten.length ≤ xs.flatten.length := by
  have h := congrArg (fun l => (List.flatten l).length) (List.take_append_drop j xs)
  simp only [List.flatten_append, List.length_append] at h
  omega
set_option maxHeartbeats 4000000 in
set_option maxRecDepth 100000 in
theorem concat_any (A : Option Addr) (n cap : Nat) (xs : List (List UInt8)) (w : World) (h : RdB w A n cap xs) (h0 : 0 < xs.flatten.length) (hs : xs.flatten.length ≤ 1000000000) :
    Calls Tryz.prog 82 #[.slice A n cap] w fun e w' => ∃ A' c', e = .returned (.slice A' xs.flatten.length c') ∧ Own w' w.heap.size 5 A' xs.flatten.length c' xs.flatten ∧ Below w.heap.size w w' := by
  have hn : 0 < n := by
    rcases Nat.eq_zero_or_pos n with hz | hz
    · rw [hz] at h
      rw [List.eq_nil_of_length_eq_zero h.len] at h0
      simp at h0
    · exact hz
  have hm := h.le
  unfold maxLen at hm
  have HL := Go.Lib.hid h.len
  have R0 := Go.Lib.hid h
  generalize hT : xs.flatten.length = T at *
  have HT := Go.Lib.hid hT
  clear h hT
  go_enter Tryz.func82, Tryz.ntmps82
  go_wp2_with fail
  go_loopw [3, 5, 11] (fun sz _ i wr => ∃ j s : Nat, j ≤ n ∧ i = .int .i64 j ∧ sz = .int .i64 (s : Int) ∧ Hid (s = (xs.take j).flatten.length) ∧ w = wr) (fun _ _ i _ => n - (intOf i).toNat)
  case atStart => exact ⟨0, 0, by omega, rfl, rfl, Go.Lib.hid rfl, rfl⟩
  case round =>
    obtain ⟨j, s, hj, rfl, rfl, HS, rfl⟩ := hrel
    have hsl := flat_take_le xs j
    rw [← HS.out, HT.out] at hsl
    by_cases hlt : j < n
    · obtain ⟨b, o, rfl, _, kc⟩ := R0.out.at_ (by omega)
      obtain ⟨A1, n1, c1, k1, r1⟩ := kc j hlt
      have hf := flat_take xs j (by rw [HL.out]; exact hlt)
      have hfl := congrArg List.length hf
      rw [List.length_append, ← HS.out, r1.len] at hfl
      have hsl2 := flat_take_le xs (j + 1)
      rw [HT.out, hfl] at hsl2
      have HF := Go.Lib.hid hfl
      clear kc r1 hf hfl
      go_wp2_with fail
      go_roundw
      case rel => exact ⟨j + 1, s + n1, by omega, by go_num, by go_num, Go.Lib.hid HF.out.symm, by first | trivial | rfl⟩
      case measure => simp [intOf]; omega
    · obtain rfl : n = j := by omega
      obtain rfl : s = T := by rw [HS.out, ← HT.out, List.take_of_length_le (by rw [HL.out]; exact Nat.le_refl _)]
      clear hsl
      go_wp2_with fail
      refine (grow_any s w h0 (by omega)).mono ?_
      rintro e w2 ⟨cg, rfl, o2, b2⟩
      go_wp2_with fail
      go_loopw [6, 8, 27] (fun ns _ i wr => ∃ (j : Nat) (A' : Option Addr) (c' : Nat) (q : Nat) (x : List UInt8), j ≤ n ∧ i = .int .i64 j ∧ ns = .slice A' q c' ∧ Hid (x = (xs.take j).flatten) ∧ Own wr w.heap.size 5 A' q c' x ∧ Below w.heap.size w wr) (fun _ _ i _ => n - (intOf i).toNat)
      case atStart => exact ⟨0, _, _, 0, [], by omega, rfl, rfl, Go.Lib.hid rfl, o2, b2⟩
      case round =>
        obtain ⟨j, A', c', q, x, hj, rfl, rfl, HX, oq, bq⟩ := hrel
        clear o2 b2
        have hxl := flat_take_le xs j
        rw [← HX.out, HT.out, oq.len] at hxl
        by_cases hlt : j < n
        · obtain ⟨b, o, rfl, _, kc⟩ := (R0.out.below bq).at_ (by omega)
          obtain ⟨A1, n1, c1, k1, r1⟩ := kc j hlt
          have hf := flat_take xs j (by rw [HL.out]; exact hlt)
          rw [← HX.out] at hf
          have hxl2 := flat_take_le xs (j + 1)
          rw [hf, HT.out, List.length_append, oq.len, r1.len] at hxl2
          have HF := Go.Lib.hid hf
          have hsz : q + n1 ≤ 140737488355328 := by omega
          have bs := bq.size
          clear kc hf
          go_wp2_with (at_builtin; refine wpList_append_more rfl (.tmp 31) (.tmp 32) 58 rfl 5 Tryz.underlying58 u8_info rfl rfl oq r1 hsz bs w bq ?_; intro A3 c3 w3 o3 b3)
          go_roundw
          case rel => exact ⟨j + 1, A3, c3, _, _, by omega, by go_num, rfl, Go.Lib.hid HF.out.symm, o3, b3⟩
          case measure => simp [intOf]; omega
        · obtain rfl : n = j := by omega
          have hx : x = xs.flatten := by rw [HX.out, List.take_of_length_le (by rw [HL.out]; exact Nat.le_refl _)]
          have hq : q = s := by rw [← oq.len, hx, HT.out]
          rw [hq, hx] at oq
          rw [hq]
          clear hq hx HX
          go_wp2_with fail
          go_ret
          exact ⟨A', c', rfl, oq, bq⟩
end Go.Proofs.YtppidbdkejkopaaGreatDoor.FrWalk
namespace Go.Proofs.YtppidbdkejkopaaGreatDoor.FrWalk
open Go.RowKit MemRow NumMem CrcMath CrcWalk FrMath
set_option maxHeartbeats 1000000 in
set_option maxRecDepth 100000 in
theorem cloneO_any (A : Option Addr) (n cap : Nat) (l : List UInt8) (w : World) (h : Rd w A n cap l) (hn : n ≤ 140737488355328) :
    Calls Tryz.prog 99 #[.slice A n cap] w fun e w' => ∃ A' c', e = .returned (.slice A' n c') ∧ Own w' w.heap.size 5 A' n c' l ∧ Below w.heap.size w w' := by
  cases A with
  | none =>
    have hn0 : n = 0 := by
      rcases Nat.eq_zero_or_pos n with h0 | h0
      · exact h0
      · obtain ⟨b, o, hh, _⟩ := h.2.2.2 h0
        cases hh
    subst hn0
    have hl := List.eq_nil_of_length_eq_zero h.len
    have HL := Go.Lib.hid hl
    clear hl h
    have hq := fun W => Go.Lib.run_eql_slice_nil (P := Tryz.prog) W 58 5 none 0 cap 0 0 Tryz.underlying58
    go_enter Tryz.func99, Tryz.ntmps99
    go_wp2_with fail
    go_ret
    exact ⟨none, 0, rfl, by rw [HL.out]; exact OwnC.nil (k := 1) _ _, Below.refl _ _⟩
  | some a =>
    have hb : Below w.heap.size w (w.alloc (.cells #[] 5)) := (Below.refl _ _).alloc (Nat.le_refl _) _
    have hq := fun W => Go.Lib.run_eql_slice_nil (P := Tryz.prog) W 58 5 (some a) n cap 0 0 Tryz.underlying58
    go_enter Tryz.func99, Tryz.ntmps99
    go_wp2_with (at_builtin; refine wpList_append_fresh rfl (.tmp 5) (.tmp 6) 58 rfl 5 Tryz.underlying58 u8_info rfl rfl (Own.empty w 5 (Nat.le_refl _)) (h.below hb) hn hb.size w hb ?_; intro A5 c5 w5 o5 b5)
    go_ret
    exact ⟨A5, c5, rfl, o5, b5⟩
theorem take_parts (l : List UInt8) (N : Nat) : l.take (8 + N) = l.take 4 ++ ((l.drop 4).take 4 ++ (l.drop 8).take N) := by
  rw [show 8 + N = 4 + (4 + N) by omega, List.take_add, List.take_add, List.drop_drop]
theorem frame_iff {l : List UInt8} {N : Nat} (hN : word (l.take 4) = N) (h : 8 + N ≤ l.length) : frameF ((l.drop 8).take N) = l.take (8 + N) ↔ word ((l.drop 4).take 4) = sum (l.take 4 ++ (l.drop 8).take N) := by
  have h4 : (l.take 4).length = 4 := by rw [List.length_take]; omega
  have h5 : ((l.drop 4).take 4).length = 4 := by rw [List.length_take, List.length_drop]; omega
  have h8 : ((l.drop 8).take N).length = N := by rw [List.length_take, List.length_drop]; omega
  have e4 : le4 ((l.drop 8).take N).length = l.take 4 := by rw [h8, ← hN, le4_word _ h4]
  rw [take_parts l N]
  unfold frameF
  rw [e4]
  constructor
  · intro e
    have e1 := List.append_cancel_left e
    have e2 := (List.append_inj e1 (by rw [h5, le4_length])).1
    rw [← e2, word_le4 (sum_lt _)]
  · intro e
    rw [← e, le4_word _ h5]
end Go.Proofs.YtppidbdkejkopaaGreatDoor.FrWalk
namespace Go.Proofs.YtppidbdkejkopaaGreatDoor.CrcWalk
open Go.RowKit CrcMath NumMem
structure TabO (w : World) (g ot : Nat) : Prop where
  lt : g < w.heap.size
  cell : ∀ j, j < 256 → w.cell? ⟨g, ot + j, none⟩ = some (.int .u32 ((step8 j : Nat) : Int))
theorem TabO.below {w w' : World} {g ot : Nat} (h : TabO w g ot) (hb : Below w.heap.size w w') : TabO w' g ot := ⟨Nat.lt_of_lt_of_le h.lt hb.size, fun j hj => (hb.cell (p := ⟨g, ot + j, none⟩) h.lt).trans (h.cell j hj)⟩
theorem TabO.drewN {w : World} {g ot : Nat} (h : TabO w g ot) (n : Nat) : TabO (w.drewN n) g ot := ⟨h.lt, h.cell⟩
theorem TabO.drew {w : World} {g ot : Nat} (h : TabO w g ot) : TabO w.drew g ot := ⟨h.lt, h.cell⟩
set_option maxRecDepth 100000 in
set_option maxHeartbeats 1000000 in
theorem sumT_any (g ot : Nat) (A : Option Addr) (n cap : Nat) (l : List UInt8) (w : World) (ht : TabO w g ot) (hr : Rd w A n cap l) :
    Calls Tryz.prog 117 #[.pointer (some ⟨g, ot, none⟩), .slice A n cap] w fun e w' => e = .returned (.int .u32 (sum l : Nat)) ∧ w = w' := by
  have hn := hr.le
  unfold maxLen at hn
  have hl := hr.len
  have HL := Go.Lib.hid hl
  clear hl
  go_enter Tryz.func117, Tryz.ntmps117
  go_wp2
  go_loop [5, 11] (fun r i => ∃ k : Nat, k ≤ n ∧ r = .int .u32 ((reg ones (l.take k) : Nat) : Int) ∧ i = .int .i64 k) (fun _ i => n - (intOf i).toNat)
  case atStart => exact ⟨0, by omega, rfl, rfl⟩
  case round =>
    obtain ⟨k, hk, rfl, rfl⟩ := hrel
    by_cases hlt : k < n
    · obtain ⟨b, o, rfl, hbl, hc⟩ := hr.at_ (by omega)
      have hck := hc k hlt
      clear hc
      have hx := reg_lt ones_lt (l.take k)
      have hs := reg_take ones l k (by rw [HL.out]; exact hlt)
      have HS := Go.Lib.hid hs
      clear hs
      generalize reg ones (l.take k) = x at *
      have hcl := UInt8.toNat_lt (l.getD k 0)
      generalize (l.getD k 0).toNat = c at *
      have e1 := low_byte x c hcl
      obtain ⟨j, hj⟩ : ∃ j, (x ^^^ c) % 256 = j := ⟨_, rfl⟩
      have hj2 : j < 256 := by omega
      have e2 := upd_bits x c j hx hcl hj
      have e3 := ht.cell j hj2
      rw [hj] at e1
      clear hj hr hbl
      go_wp2
      go_round
      case rel => exact ⟨k + 1, by omega, by rw [HS.out], by go_num⟩
      case measure => simp [intOf]; omega
    · obtain rfl : n = k := by omega
      have hsg : IntKind.u32.signed = false := rfl
      have hx := reg_lt ones_lt (l.take n)
      have e1 := inv_bits _ hx
      have HE := Go.Lib.hid e1
      clear e1
      go_wp2
      go_ret
      refine ⟨ret_int ?_, rfl⟩
      rw [HE.out, List.take_of_length_le (by rw [HL.out]; exact Nat.le_refl _)]
      rfl
end Go.Proofs.YtppidbdkejkopaaGreatDoor.CrcWalk
namespace Go.Proofs.YtppidbdkejkopaaGreatDoor.FrWalk
open Go.RowKit MemRow NumMem CrcMath CrcWalk FrMath
set_option maxHeartbeats 1000000 in
set_option maxRecDepth 100000 in
theorem sumOfT_any (g ot : Nat) (A B : Option Addr) (n ca m cb : Nat) (l k : List UInt8) (w : World) (ht : TabO w g ot) (ha : Rd w A n ca l) (hb : Rd w B m cb k) (h0 : 0 < n) (hsz : n + m ≤ 140737488355328) :
    Calls Tryz.prog 81 #[.pointer (some ⟨g, ot, none⟩), .slice A n ca, .slice B m cb] w fun e w' => e = .returned (.int .u32 (sum (l ++ k) : Nat)) ∧ Below w.heap.size w w' := by
  have hq := fun W => slice_full A n ca ha.le_cap W
  have ha2 : Rd w A n n l := ⟨ha.1, Nat.le_refl _, ha.le, ha.2.2.2⟩
  obtain ⟨A1, c1, w1, hap, r1, b1⟩ := run_append_full ha2 hb h0 hsz 58
  have t1 := ht.below b1
  clear ha ha2 hb
  go_enter Tryz.func81, Tryz.ntmps81
  go_wp2_with (at_builtin; refine Lib.wpList_append_run _ rfl _ _ _ _ rfl _ _ rfl rfl _ _ hap ?_)
  refine (sumT_any g ot A1 (n + m) c1 _ w1 t1 r1).mono ?_
  rintro e w' ⟨rfl, rfl⟩
  go_wp2_with fail
  go_ret
  exact ⟨rfl, b1⟩
set_option maxHeartbeats 2000000 in
set_option maxRecDepth 100000 in
theorem putT9_any (g ot : Nat) (A : Option Addr) (n cap : Nat) (l : List UInt8) (w : World) (ht : TabO w g ot) (h : Rd w A n cap l) :
    Calls Tryz.prog 48 #[.pointer (some ⟨g, ot, none⟩), .slice A n cap] w (PutOut l w) := by
  have hl := h.len
  by_cases hn : n ≤ 16384
  · have i1 : ¬ (n : Int) > 16384 := by omega
    have ec : putC l = 0 := by unfold putC maxF; rw [if_neg (by omega)]
    have eb : putB l = frameF l := by unfold putB maxF; rw [if_neg (by omega)]
    unfold PutOut
    rw [ec, eb]
    have hw : IntKind.u32.wrap (n : Int) = (n : Int) := IntWalk.u32_in _ (by omega)
    have HL := Go.Lib.hid hl
    clear ec eb hl
    go_enter Tryz.func48, Tryz.ntmps48
    go_wp2_with fail
    refine (putWord_any n w).mono ?_
    rintro e w1 ⟨A1, c1, rfl, r1, b1⟩
    have t1 := ht.below b1
    have ra1 := h.below b1
    go_wp2_with fail
    refine (sumOfT_any g ot A1 A 4 c1 n cap (le4 n) l w1 t1 r1 ra1 (by omega) (by omega)).mono ?_
    rintro e w2 ⟨rfl, b2⟩
    generalize hv : sum (le4 n ++ l) = v at *
    have HV := Go.Lib.hid hv
    have r2 := r1.below b2
    have ra2 := ra1.below b2
    have B2 := below_chain b1 b2
    clear hv r1 ra1 b1 b2 t1 ht h
    go_wp2_with fail
    refine (putWord_any v w2).mono ?_
    rintro e w3 ⟨A3, c3, rfl, r3, b3⟩
    have al : Below w3.heap.size w3 (w3.alloc (.cells #[.slice A1 4 c1, .slice A3 4 c3, .slice A n cap] 58)) := (Below.refl _ _).alloc (Nat.le_refl _) _
    have hh := heap_alloc_new w3 (.cells #[.slice A1 4 c1, .slice A3 4 c3, .slice A n cap] 58)
    have rb : RdB (w3.alloc (.cells #[.slice A1 4 c1, .slice A3 4 c3, .slice A n cap] 58)) (some ⟨w3.heap.size, 0, none⟩) 3 3 [le4 n, le4 v, l] := by
      refine ⟨rfl, Nat.le_refl _, by unfold maxLen; omega, fun _ => ⟨w3.heap.size, 0, rfl, (Array.getElem?_eq_some_iff.1 hh).1, fun i hi => ?_⟩⟩
      obtain rfl | rfl | rfl : i = 0 ∨ i = 1 ∨ i = 2 := by omega
      · exact ⟨A1, 4, c1, by rw [cell_of_row _ _ _ _ _ _ hh]; rfl, (r2.below b3).below al⟩
      · exact ⟨A3, 4, c3, by rw [cell_of_row _ _ _ _ _ _ hh]; rfl, r3.below al⟩
      · exact ⟨A, n, cap, by rw [cell_of_row _ _ _ _ _ _ hh]; rfl, (ra2.below b3).below al⟩
    have B3 := below_chain (below_chain B2 b3) al
    have e7 : [le4 n, le4 v, l].flatten = frameF l := by
      rw [← HV.out, ← HL.out]
      simp [frameF]
    have hfl := frameF_length l
    rw [HL.out] at hfl
    have cc := concat_any (some ⟨w3.heap.size, 0, none⟩) 3 3 _ _ rb (by rw [e7]; omega) (by rw [e7]; omega)
    rw [e7] at cc
    clear rb r2 ra2 r3 hh al b3 B2 e7 hfl
    go_wp2_with fail
    refine cc.mono ?_
    rintro e w4 ⟨A4, c4, rfl, o4, b4⟩
    have B4 := below_chain B3 b4
    have r4 := o4.rd
    clear o4 B3 b4 cc
    go_wp2_with fail
    go_ret2
    exact ⟨A4, _, c4, rfl, r4, B4⟩
  · have i1 : (n : Int) > 16384 := by omega
    have ec : putC l = 3 := by unfold putC maxF; rw [if_pos (by omega)]
    have eb : putB l = [] := by unfold putB maxF; rw [if_pos (by omega)]
    unfold PutOut
    rw [ec, eb]
    clear ec eb hl
    go_enter Tryz.func48, Tryz.ntmps48
    go_wp2_with fail
    go_ret2
    exact ⟨none, 0, 0, rfl, Rd.nil _, Below.refl _ _⟩
set_option maxHeartbeats 4000000 in
set_option maxRecDepth 100000 in
theorem takeT9_any (g ot : Nat) (A : Option Addr) (n cap : Nat) (l : List UInt8) (w : World) (ht : TabO w g ot) (h : Rd w A n cap l) :
    Calls Tryz.prog 68 #[.pointer (some ⟨g, ot, none⟩), .slice A n cap] w (TakeOut l w) := by
  have hl := h.len
  have hnm := h.le
  have hcp := h.le_cap
  unfold maxLen at hnm
  by_cases h8 : n < 8
  · have i1 : (n : Int) < 8 := by omega
    have ht := take_none_short (l := l) (by omega)
    clear hl
    go_enter Tryz.func68, Tryz.ntmps68
    go_wp2_with fail
    go_ret2
    exact none_out ht (Below.refl _ _)
  · have i1 : ¬ (n : Int) < 8 := by omega
    have q4 : ∀ W, (Instr.slice 58 (.slice A n cap) none (some (.int .i64 4)) none).run Tryz.prog W = .ok (.slice A 4 cap) W := fun W => slice_upto A n cap 4 (by omega) W
    obtain ⟨A2, c2, q8, r8⟩ := slice_mid h (i := 4) (j := 8) (x := 4) (y := 8) rfl rfl (by omega) (by omega)
    rw [show 8 - 4 = 4 from rfl] at q8 r8
    obtain ⟨A3, qd, rd⟩ := slice_low h (i := 8) (by omega)
    have qd' : ∀ W, (Instr.slice 58 (.slice A n cap) (some (.int .i64 8)) none none).run Tryz.prog W = .ok (.slice A3 (n - 8) (cap - 8)) W := qd
    have r4 := h.first (k := 4) (by omega)
    have HL := Go.Lib.hid hl
    clear qd hl h
    go_enter Tryz.func68, Tryz.ntmps68
    go_wp2_with fail
    go_quiet (fail)
    have bq : Below w.heap.size w (w.drewN nq) := bel_drewN (Below.refl _ _) nq
    have r4q := r4.below bq
    have r8q := r8.below bq
    have rdq := rd.below bq
    have tq := ht.below bq
    have hbase := bq.size
    clear q4 q8 qd' r4 r8 rd ht
    generalize w.drewN nq = wq at *
    go_wp2_with fail
    refine (takeWord_any A cap _ wq r4q).mono ?_
    rintro e w' ⟨rfl, rfl⟩
    generalize hN : word (l.take 4) = N at *
    have hNl : N < 4294967296 := by
      have := word_lt (l.take 4)
      rw [List.length_take, HL.out, Nat.min_eq_left (by omega), hN] at this
      exact this
    have HN := Go.Lib.hid hN
    have hw : IntKind.i64.wrap (N : Int) = (N : Int) := IntWalk.i64_in _ (by omega)
    clear hN
    by_cases hb : 16384 < N
    · have i2 : (N : Int) > 16384 := by omega
      have ht : takeF l = none := by
        have := HL.out
        unfold takeF maxF
        rw [HN.out, if_neg (by omega), if_pos hb]
      go_wp2_with fail
      go_ret2
      exact none_out ht bq
    · have i2 : ¬ (N : Int) > 16384 := by omega
      by_cases hb2 : n - 8 < N
      · have i3 : (N : Int) > ((n - 8 : Nat) : Int) := by omega
        have ht : takeF l = none := by
          have := HL.out
          unfold takeF maxF
          rw [HN.out, if_neg (by omega), if_neg hb, if_pos (by omega)]
        go_wp2_with fail
        go_ret2
        exact none_out ht bq
      · have i3 : ¬ (N : Int) > ((n - 8 : Nat) : Int) := by omega
        have hcd := rdq.le_cap
        have qn : ∀ W, (Instr.slice 58 (.slice A3 (n - 8) (cap - 8)) none (some (.int .i64 (N : Int))) none).run Tryz.prog W = .ok (.slice A3 N (cap - 8)) W := fun W => slice_upto A3 (n - 8) (cap - 8) N (by omega) W
        have rn := rdq.first (k := N) (by omega)
        have hit := frame_iff HN.out (by rw [HL.out]; omega)
        have HX : Hid (takeF l = if word ((l.drop 4).take 4) = sum (l.take 4 ++ (l.drop 8).take N) then some ((l.drop 8).take N) else none) := by
          have := HL.out
          refine Go.Lib.hid ?_
          unfold takeF maxF
          rw [HN.out, if_neg (by omega), if_neg hb, if_neg (by omega)]
          by_cases hf : frameF ((l.drop 8).take N) = l.take (8 + N)
          · rw [if_pos hf, if_pos (hit.1 hf)]
          · rw [if_neg hf, if_neg (fun hc => hf (hit.2 hc))]
        have hxl := rn.len
        have so := sumOfT_any g ot A A3 4 cap N (cap - 8) _ _ wq tq r4q rn (by omega) (by omega)
        have tw := takeWord_any A2 c2 _ wq r8q
        generalize word ((l.drop 4).take 4) = s1 at *
        generalize sum (l.take 4 ++ (l.drop 8).take N) = s2 at *
        clear hit rdq r8q r4q tq HN
        generalize (l.drop 8).take N = x at *
        go_wp2_with fail
        refine tw.mono ?_
        rintro e w' ⟨rfl, rfl⟩
        go_wp2_with fail
        refine so.mono ?_
        rintro e w2 ⟨rfl, b2⟩
        have rn2 := rn.below b2
        have B2 := below_chain bq b2
        clear so tw rn b2
        by_cases he : s1 = s2
        · subst he
          have ht : takeF l = some x := by
            have := HX.out
            rwa [if_pos rfl] at this
          have HT := Go.Lib.hid ht
          have hw8 : IntKind.i64.wrap (8 + (N : Int)) = 8 + (N : Int) := IntWalk.i64_in _ (by omega)
          clear ht HX
          go_wp2_with fail
          refine (cloneO_any A3 N (cap - 8) x w2 rn2 (by omega)).mono ?_
          rintro e w3 ⟨A4, c4, rfl, o4, b4⟩
          have B4 := below_chain B2 b4
          have hb2 := B2.size
          clear b4
          go_wp2_with fail
          go_ret2
          refine ⟨A4, N, c4, ?_, ?_, B4⟩
          · rw [takeN_some HT.out, hxl]
            rfl
          · rw [takeB_some HT.out]
            exact own_low (k := 1) o4 hb2
        · have i4 : ¬ (s1 : Int) = (s2 : Int) := by omega
          have ht : takeF l = none := by
            have := HX.out
            rwa [if_neg he] at this
          have HT := Go.Lib.hid ht
          clear ht HX he
          go_wp2_with fail
          go_ret2
          exact none_out HT.out B2
end Go.Proofs.YtppidbdkejkopaaGreatDoor.FrWalk
namespace Go.Proofs.YtppidbdkejkopaaGreatDoor.WlWalk
open Go.RowKit MemRow Ev NameMath NameWalk EvWalk NumMem DkWalk CrcMath CrcWalk
open Go.Lib (decDigits)
set_option maxHeartbeats 2000000 in
set_option maxRecDepth 100000 in
theorem segL_any (z : Int) (w : World) (ht : TabW w) :
    Calls Tryz.prog 23 #[.int .i64 z] w fun e w' => e = .returned (.string (segZ z)) ∧ Below w.heap.size w w' := by
  by_cases h0 : z < 1
  · have e : segZ z = ByteArray.empty := segN_out (by omega)
    rw [e]
    have b0 := Below.refl w.heap.size w
    go_enter Tryz.func23, Tryz.ntmps23
    go_wp2_with fail
    go_ret
    exact ⟨rfl, b0⟩
  · by_cases h1 : z > 200
    · have e : segZ z = ByteArray.empty := segN_out (by omega)
      rw [e]
      have b0 := Below.refl w.heap.size w
      go_enter Tryz.func23, Tryz.ntmps23
      go_wp2_with fail
      go_ret
      exact ⟨rfl, b0⟩
    · obtain ⟨n, rfl⟩ := Int.eq_ofNat_of_zero_le (by omega : 0 ≤ z)
      have e : segZ (n : Int) = ⟨(logP ++ decDigits n).toArray⟩ := segN_in (by omega) (by omega)
      rw [e]
      have hd := dec_len (u := n) (by omega)
      have hcat : ∀ W, (Op.stringOp .add ⟨#[108, 111, 103, 95]⟩ ⟨(decDigits n).toArray⟩).run Tryz.prog W = .ok (.string ⟨(logP ++ decDigits n).toArray⟩) W := fun W => run_string_add_lists W logP (decDigits n) (by unfold logP; simp) (by omega)
      have ci := itoaW_any n (by omega) w ht
      generalize decDigits n = dd at *
      have CI := Go.Lib.hid ci
      clear ci hd e
      go_enter Tryz.func23, Tryz.ntmps23
      go_wp2_with fail
      refine (CI.out).mono ?_
      rintro e w1 ⟨rfl, b1⟩
      go_wp2_with fail
      go_ret
      exact ⟨rfl, b1⟩
def llP (g : Nat) : Array Value := #[.pointer (some ⟨g, 0, none⟩)] ++ tab
theorem llP_size (g : Nat) : (llP g).size = 257 := by
  unfold llP
  rw [Array.size_append, tab_size]
  rfl
def llV (g many : Nat) (last : Int) : Array Value := llP g ++ #[.int .i64 (many : Int), .int .i64 last]
theorem llV_0 (g many : Nat) (last : Int) : (llV g many last)[0]? = some (.pointer (some ⟨g, 0, none⟩)) := by
  unfold llV
  rw [Array.getElem?_append_left (by rw [llP_size]; omega)]
  unfold llP
  rw [Array.getElem?_append_left (by simp)]
  rfl
theorem llV_tab (g many : Nat) (last : Int) (j : Nat) (h : j < 256) : (llV g many last)[1 + j]? = some (.int .u32 ((step8 j : Nat) : Int)) := by
  unfold llV
  rw [Array.getElem?_append_left (by rw [llP_size]; omega)]
  unfold llP
  rw [Array.getElem?_append_right (by simp)]
  simp only [List.size_toArray, List.length_singleton, Nat.add_sub_cancel_left]
  exact tab_get j h
theorem llV_257 (g many : Nat) (last : Int) : (llV g many last)[257]? = some (.int .i64 (many : Int)) := by
  unfold llV
  rw [Array.getElem?_append_right (by rw [llP_size]; omega), llP_size]
  rfl
theorem llV_258 (g many : Nat) (last : Int) : (llV g many last)[258]? = some (.int .i64 last) := by
  unfold llV
  rw [Array.getElem?_append_right (by rw [llP_size]; omega), llP_size]
  rfl
theorem llV_set257 (g many : Nat) (last : Int) (n : Nat) : (llV g many last).setIfInBounds 257 (.int .i64 (n : Int)) = llV g n last := by
  unfold llV
  rw [Array.setIfInBounds_append_right (by rw [llP_size]; omega), llP_size]
  rfl
theorem llV_set258 (g many : Nat) (last z : Int) : (llV g many last).setIfInBounds 258 (.int .i64 z) = llV g many z := by
  unfold llV
  rw [Array.setIfInBounds_append_right (by rw [llP_size]; omega), llP_size]
  rfl
abbrev LlT (gl g many : Nat) (last : Int) : Thing := BxT gl (llV g many last) 81
section
variable {base : Nat} {w : World} {P Q : Thing} {gl g many : Nat} {last : Int}
theorem ll_cells (h : Pair base w P (With Q (LlT gl g many last))) : w.cell? ⟨gl, 0, none⟩ = some (.pointer (some ⟨g, 0, none⟩)) ∧ w.cell? ⟨gl, 257, none⟩ = some (.int .i64 (many : Int)) ∧ w.cell? ⟨gl, 258, none⟩ = some (.int .i64 last) ∧ w.frozen? ⟨gl, 257, none⟩ = false ∧ w.frozen? ⟨gl, 258, none⟩ = false ∧ TabO w gl 1 := by
  have hh := pair_bx h
  refine ⟨by rw [cell_of_row w gl 0 _ _ _ hh]; exact llV_0 .., by rw [cell_of_row w gl 257 _ _ _ hh]; exact llV_257 .., by rw [cell_of_row w gl 258 _ _ _ hh]; exact llV_258 .., by simp [World.frozen?, hh], by simp [World.frozen?, hh], (Array.getElem?_eq_some_iff.1 hh).1, fun j hj => by rw [cell_of_row w gl (1 + j) _ _ _ hh]; exact llV_tab g many last j hj⟩
theorem ll_set (kp : Keeps P) (kq : Keeps Q) (h : Pair base w P (With Q (LlT gl g many last))) {i : Nat} {v : Value} {m : Nat} {z : Int} (he : (llV g many last).setIfInBounds i v = llV g m z) : Pair base (w.setCell ⟨gl, i, none⟩ v) P (With Q (LlT gl g m z)) ∧ Below base w (w.setCell ⟨gl, i, none⟩ v) := by
  have hh := pair_bx h
  refine lg_put kp kq h ?_
  rw [setCell_eq_setRow w gl i _ _ _ v hh, setRow_heap w gl _ _ _ _ hh, he]
theorem ll_set1 (kp : Keeps P) (kq : Keeps Q) (h : Pair base w P (With Q (LlT gl g many last))) (n : Nat) : Pair base (w.setCell ⟨gl, 257, none⟩ (.int .i64 (n : Int))) P (With Q (LlT gl g n last)) ∧ Below base w (w.setCell ⟨gl, 257, none⟩ (.int .i64 (n : Int))) := ll_set kp kq h (llV_set257 ..)
theorem ll_set2 (kp : Keeps P) (kq : Keeps Q) (h : Pair base w P (With Q (LlT gl g many last))) (z : Int) : Pair base (w.setCell ⟨gl, 258, none⟩ (.int .i64 z)) P (With Q (LlT gl g many z)) ∧ Below base w (w.setCell ⟨gl, 258, none⟩ (.int .i64 z)) := ll_set kp kq h (llV_set258 ..)
end
theorem ll_built : ∀ g : Nat, Tryz.prog.built 81 [(0, .pointer (some ⟨g, 0, none⟩)), (1, .agg tab)] = some (llV g 0 0) := by
  intro g
  kernel_rfl
theorem ll_build (g : Nat) (w : World) : (Instr.build 81 #[(0, .pointer (some ⟨g, 0, none⟩)), (1, .agg tab)]).run Tryz.prog w = .ok (.agg (llV g 0 0)) w := run_build w _ _ _ (ll_built g)
end Go.Proofs.YtppidbdkejkopaaGreatDoor.WlWalk
