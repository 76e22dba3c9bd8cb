/-
  Joined texts: FtSum, FtPut, FtTake, WgTab, WgLog.
-/
import Derived.Lib.AppendZerosOnto
import Derived.Laws.Tables
import Derived.Test.YtppidbdkejkopaaGreatDoorMh5
namespace Go.Proofs.YtppidbdkejkopaaGreatDoor.FrWalk
open Go.RowKit MemRow NumMem CrcMath CrcWalk FrMath
theorem u8_info_one : ∃ i, Tryz.prog.info? 5 = some i ∧ i.zero = some (.int .u8 0) ∧ i.size = 1 ∧ i.bytes = 1 := by
  have hi := u8_info
  cases hq : Tryz.prog.info? 5 with
  | none => simp [hq] at hi
  | some i => simp [hq] at hi; exact ⟨i, rfl, hi.1, hi.2.1, hi.2.2⟩
set_option maxHeartbeats 2000000 in
set_option maxRecDepth 100000 in
theorem grow_any (n : Nat) (w : World) (h0 : 0 < n) (hn : n ≤ 140737488355328) :
    Calls Tryz.prog 118 #[.slice none 0 0, .int .i64 n] w fun e w' => ∃ cap, e = .returned (.slice (some ⟨w.heap.size, 0, none⟩) 0 cap) ∧ Own w' w.heap.size 5 (some ⟨w.heap.size, 0, none⟩) 0 cap [] ∧ Below w.heap.size w w' := by
  obtain ⟨i, g1, g2, g3, g4⟩ := u8_info_one
  have hrz : ∀ ty, (Builtin.append_ #[58, 3] ty #[.slice none 0 0, .int .i64 n]).run Tryz.prog w = .ok (.slice (some ⟨w.heap.size, 0, none⟩) n (grownCap w n 0 5)) (w.drew.alloc (.cells (#[] ++ Builtin.zeroCells #[.int .u8 0] n ++ Builtin.zeroCells #[.int .u8 0] (grownCap w n 0 5 - n)) 5)) := fun ty => by
    have h := Lib.run_append_grow_zeros (P := Tryz.prog) w 58 3 ty 5 i (.int .u8 0) .i64 .i64 Tryz.underlying58 Tryz.underlying3 g1 g2 none 0 0 [] (by simp [Builtin.firstCells]) n h0 (by omega) (by omega) (by omega) (by rw [g4]; omega) (by
      rw [Nat.zero_add, g4]
      exact growslice_fits h0 (by omega))
    rw [Nat.zero_add] at h
    exact h
  have hge := grownCap_ge w n 0 5
  have hle := grownCap_le_maxLen w n 0 5 (by unfold maxLen; omega)
  obtain ⟨G, hG⟩ : ∃ G, G = grownCap w n 0 5 := ⟨_, rfl⟩
  rw [← hG] at hrz hge hle
  have own : Own (w.alloc (.cells (Builtin.zeroCells #[.int .u8 0] n ++ Builtin.zeroCells #[.int .u8 0] (G - n)) 5)).drew w.heap.size 5 (some ⟨w.heap.size, 0, none⟩) 0 G [] :=
    ⟨by simp [cellsOf], .inr ⟨w.heap.size, G, _, rfl, Nat.le_refl _, heap_alloc_new w _, Nat.zero_le _, hle, by simp only [Array.size_append, size_zeroCells]; simp; omega, by simp [cellsOf]⟩⟩
  have OWN := Go.Lib.hid own
  have bel : Below w.heap.size w (w.alloc (.cells (Builtin.zeroCells #[.int .u8 0] n ++ Builtin.zeroCells #[.int .u8 0] (G - n)) 5)).drew :=
    let h := (Below.refl w.heap.size w).alloc (Nat.le_refl _) (.cells (Builtin.zeroCells #[.int .u8 0] n ++ Builtin.zeroCells #[.int .u8 0] (G - n)) 5)
    ⟨h.os, h.tape, h.output, h.size, h.block⟩
  have BEL := Go.Lib.hid bel
  clear own bel hG
  unfold maxLen at hle
  go_enter Tryz.func118, Tryz.ntmps118
  go_wp2_with (at_builtin; refine Lib.wpList_append_run _ rfl _ _ _ _ rfl _ _ rfl rfl _ _ (hrz _) ?_)
  go_ret
  exact ⟨G, rfl, OWN.out, BEL.out⟩
theorem flat_take (xs : List (List UInt8)) (j : Nat) (h : j < xs.length) : (xs.take (j + 1)).flatten = (xs.take j).flatten ++ xs.getD j [] := by
  rw [rows_take xs j h, List.flatten_append]
  simp
theorem flat_take_le (xs : List (List UInt8)) (j : Nat) : (xs.take j).flatten.length ≤ xs.flatten.length := by
  have h := congrArg (fun l => (List.flatten l).length) (List.take_append_drop j xs)
  simp only [List.flatten_append, List.length_append] at h
  omega
set_option maxHeartbeats 4000000 in
set_option maxRecDepth 100000 in
theorem concat_any (A : Option Addr) (n cap : Nat) (xs : List (List UInt8)) (w : World) (h : RdB w A n cap xs) (h0 : 0 < xs.flatten.length) (hs : xs.flatten.length ≤ 1000000000) :
    Calls Tryz.prog 82 #[.slice A n cap] w fun e w' => ∃ A' c', e = .returned (.slice A' xs.flatten.length c') ∧ Own w' w.heap.size 5 A' xs.flatten.length c' xs.flatten ∧ Below w.heap.size w w' := by
  have hn : 0 < n := by
    rcases Nat.eq_zero_or_pos n with hz | hz
    · rw [hz] at h
      rw [List.eq_nil_of_length_eq_zero h.len] at h0
      simp at h0
    · exact hz
  have hm := h.le
  unfold maxLen at hm
  have HL := Go.Lib.hid h.len
  have R0 := Go.Lib.hid h
  generalize hT : xs.flatten.length = T at *
  have HT := Go.Lib.hid hT
  clear h hT
  go_enter Tryz.func82, Tryz.ntmps82
  go_wp2_with fail
  go_loopw [3, 5, 11] (fun sz _ i wr => ∃ j s : Nat, j ≤ n ∧ i = .int .i64 j ∧ sz = .int .i64 (s : Int) ∧ Hid (s = (xs.take j).flatten.length) ∧ w = wr) (fun _ _ i _ => n - (intOf i).toNat)
  case atStart => exact ⟨0, 0, by omega, rfl, rfl, Go.Lib.hid rfl, rfl⟩
  case round =>
    obtain ⟨j, s, hj, rfl, rfl, HS, rfl⟩ := hrel
    have hsl := flat_take_le xs j
    rw [← HS.out, HT.out] at hsl
    by_cases hlt : j < n
    · obtain ⟨b, o, rfl, _, kc⟩ := R0.out.at_ (by omega)
      obtain ⟨A1, n1, c1, k1, r1⟩ := kc j hlt
      have hf := flat_take xs j (by rw [HL.out]; exact hlt)
      have hfl := congrArg List.length hf
      rw [List.length_append, ← HS.out, r1.len] at hfl
      have hsl2 := flat_take_le xs (j + 1)
      rw [HT.out, hfl] at hsl2
      have HF := Go.Lib.hid hfl
      clear kc r1 hf hfl
      go_wp2_with fail
      go_roundw
      case rel => exact ⟨j + 1, s + n1, by omega, by go_num, by go_num, Go.Lib.hid HF.out.symm, by first | trivial | rfl⟩
      case measure => simp [intOf]; omega
    · obtain rfl : n = j := by omega
      obtain rfl : s = T := by rw [HS.out, ← HT.out, List.take_of_length_le (by rw [HL.out]; exact Nat.le_refl _)]
      clear hsl
      go_wp2_with fail
      refine (grow_any s w h0 (by omega)).mono ?_
      rintro e w2 ⟨cg, rfl, o2, b2⟩
      go_wp2_with fail
      go_loopw [6, 8, 27] (fun ns _ i wr => ∃ (j : Nat) (A' : Option Addr) (c' : Nat) (q : Nat) (x : List UInt8), j ≤ n ∧ i = .int .i64 j ∧ ns = .slice A' q c' ∧ Hid (x = (xs.take j).flatten) ∧ Own wr w.heap.size 5 A' q c' x ∧ Below w.heap.size w wr) (fun _ _ i _ => n - (intOf i).toNat)
      case atStart => exact ⟨0, _, _, 0, [], by omega, rfl, rfl, Go.Lib.hid rfl, o2, b2⟩
      case round =>
        obtain ⟨j, A', c', q, x, hj, rfl, rfl, HX, oq, bq⟩ := hrel
        clear o2 b2
        have hxl := flat_take_le xs j
        rw [← HX.out, HT.out, oq.len] at hxl
        by_cases hlt : j < n
        · obtain ⟨b, o, rfl, _, kc⟩ := (R0.out.below bq).at_ (by omega)
          obtain ⟨A1, n1, c1, k1, r1⟩ := kc j hlt
          have hf := flat_take xs j (by rw [HL.out]; exact hlt)
          rw [← HX.out] at hf
          have hxl2 := flat_take_le xs (j + 1)
          rw [hf, HT.out, List.length_append, oq.len, r1.len] at hxl2
          have HF := Go.Lib.hid hf
          have hsz : q + n1 ≤ 140737488355328 := by omega
          have bs := bq.size
          clear kc hf
          go_wp2_with (at_builtin; refine wpList_append_more rfl (.tmp 31) (.tmp 32) 58 rfl 5 Tryz.underlying58 u8_info rfl rfl oq r1 hsz bs w bq ?_; intro A3 c3 w3 o3 b3)
          go_roundw
          case rel => exact ⟨j + 1, A3, c3, _, _, by omega, by go_num, rfl, Go.Lib.hid HF.out.symm, o3, b3⟩
          case measure => simp [intOf]; omega
        · obtain rfl : n = j := by omega
          have hx : x = xs.flatten := by rw [HX.out, List.take_of_length_le (by rw [HL.out]; exact Nat.le_refl _)]
          have hq : q = s := by rw [← oq.len, hx, HT.out]
          rw [hq, hx] at oq
          rw [hq]
          clear hq hx HX
          go_wp2_with fail
          go_ret
          exact ⟨A', c', rfl, oq, bq⟩
end Go.Proofs.YtppidbdkejkopaaGreatDoor.FrWalk
namespace Go.Proofs.YtppidbdkejkopaaGreatDoor.FrWalk
open Go.RowKit MemRow NumMem CrcMath CrcWalk FrMath
set_option maxHeartbeats 1000000 in
set_option maxRecDepth 100000 in
theorem cloneO_any (A : Option Addr) (n cap : Nat) (l : List UInt8) (w : World) (h : Rd w A n cap l) (hn : n ≤ 140737488355328) :
    Calls Tryz.prog 99 #[.slice A n cap] w fun e w' => ∃ A' c', e = .returned (.slice A' n c') ∧ Own w' w.heap.size 5 A' n c' l ∧ Below w.heap.size w w' := by
  cases A with
  | none =>
    have hn0 : n = 0 := by
      rcases Nat.eq_zero_or_pos n with h0 | h0
      · exact h0
      · obtain ⟨b, o, hh, _⟩ := h.2.2.2 h0
        cases hh
    subst hn0
    have hl := List.eq_nil_of_length_eq_zero h.len
    have HL := Go.Lib.hid hl
    clear hl h
    have hq := fun W => Go.Lib.run_eql_slice_nil (P := Tryz.prog) W 58 5 none 0 cap 0 0 Tryz.underlying58
    go_enter Tryz.func99, Tryz.ntmps99
    go_wp2_with fail
    go_ret
    exact ⟨none, 0, rfl, by rw [HL.out]; exact OwnC.nil (k := 1) _ _, Below.refl _ _⟩
  | some a =>
    have hb : Below w.heap.size w (w.alloc (.cells #[] 5)) := (Below.refl _ _).alloc (Nat.le_refl _) _
    have hq := fun W => Go.Lib.run_eql_slice_nil (P := Tryz.prog) W 58 5 (some a) n cap 0 0 Tryz.underlying58
    go_enter Tryz.func99, Tryz.ntmps99
    go_wp2_with (at_builtin; refine wpList_append_fresh rfl (.tmp 5) (.tmp 6) 58 rfl 5 Tryz.underlying58 u8_info rfl rfl (Own.empty w 5 (Nat.le_refl _)) (h.below hb) hn hb.size w hb ?_; intro A5 c5 w5 o5 b5)
    go_ret
    exact ⟨A5, c5, rfl, o5, b5⟩
theorem take_parts (l : List UInt8) (N : Nat) : l.take (8 + N) = l.take 4 ++ ((l.drop 4).take 4 ++ (l.drop 8).take N) := by
  rw [show 8 + N = 4 + (4 + N) by omega, List.take_add, List.take_add, List.drop_drop]
theorem frame_iff {l : List UInt8} {N : Nat} (hN : word (l.take 4) = N) (h : 8 + N ≤ l.length) : frameF ((l.drop 8).take N) = l.take (8 + N) ↔ word ((l.drop 4).take 4) = sum (l.take 4 ++ (l.drop 8).take N) := by
  have h4 : (l.take 4).length = 4 := by rw [List.length_take]; omega
  have h5 : ((l.drop 4).take 4).length = 4 := by rw [List.length_take, List.length_drop]; omega
  have h8 : ((l.drop 8).take N).length = N := by rw [List.length_take, List.length_drop]; omega
  have e4 : le4 ((l.drop 8).take N).length = l.take 4 := by rw [h8, ← hN, le4_word _ h4]
  rw [take_parts l N]
  unfold frameF
  rw [e4]
  constructor
  · intro e
    have e1 := List.append_cancel_left e
    have e2 := (List.append_inj e1 (by rw [h5, le4_length])).1
    rw [← e2, word_le4 (sum_lt _)]
  · intro e
    rw [← e, le4_word _ h5]
end Go.Proofs.YtppidbdkejkopaaGreatDoor.FrWalk
namespace Go.Proofs.YtppidbdkejkopaaGreatDoor.CrcWalk
open Go.RowKit CrcMath NumMem
structure TabO (w : World) (g ot : Nat) : Prop where
  lt : g < w.heap.size
  cell : ∀ j, j < 256 → w.cell? ⟨g, ot + j, none⟩ = some (.int .u32 ((step8 j : Nat) : Int))
theorem TabO.below {w w' : World} {g ot : Nat} (h : TabO w g ot) (hb : Below w.heap.size w w') : TabO w' g ot := ⟨Nat.lt_of_lt_of_le h.lt hb.size, fun j hj => (hb.cell (p := ⟨g, ot + j, none⟩) h.lt).trans (h.cell j hj)⟩
theorem TabO.drewN {w : World} {g ot : Nat} (h : TabO w g ot) (n : Nat) : TabO (w.drewN n) g ot := ⟨h.lt, h.cell⟩
theorem TabO.drew {w : World} {g ot : Nat} (h : TabO w g ot) : TabO w.drew g ot := ⟨h.lt, h.cell⟩
set_option maxRecDepth 100000 in
set_option maxHeartbeats 1000000 in
theorem sumT_any (g ot : Nat) (A : Option Addr) (n cap : Nat) (l : List UInt8) (w : World) (ht : TabO w g ot) (hr : Rd w A n cap l) :
    Calls Tryz.prog 117 #[.pointer (some ⟨g, ot, none⟩), .slice A n cap] w fun e w' => e = .returned (.int .u32 (sum l : Nat)) ∧ w = w' := by
  have hn := hr.le
  unfold maxLen at hn
  have hl := hr.len
  have HL := Go.Lib.hid hl
  clear hl
  go_enter Tryz.func117, Tryz.ntmps117
  go_wp2
  go_loop [5, 11] (fun r i => ∃ k : Nat, k ≤ n ∧ r = .int .u32 ((reg ones (l.take k) : Nat) : Int) ∧ i = .int .i64 k) (fun _ i => n - (intOf i).toNat)
  case atStart => exact ⟨0, by omega, rfl, rfl⟩
  case round =>
    obtain ⟨k, hk, rfl, rfl⟩ := hrel
    by_cases hlt : k < n
    · obtain ⟨b, o, rfl, hbl, hc⟩ := hr.at_ (by omega)
      have hck := hc k hlt
      clear hc
      have hx := reg_lt ones_lt (l.take k)
      have hs := reg_take ones l k (by rw [HL.out]; exact hlt)
      have HS := Go.Lib.hid hs
      clear hs
      generalize reg ones (l.take k) = x at *
      have hcl := UInt8.toNat_lt (l.getD k 0)
      generalize (l.getD k 0).toNat = c at *
      have e1 := low_byte x c hcl
      obtain ⟨j, hj⟩ : ∃ j, (x ^^^ c) % 256 = j := ⟨_, rfl⟩
      have hj2 : j < 256 := by omega
      have e2 := upd_bits x c j hx hcl hj
      have e3 := ht.cell j hj2
      rw [hj] at e1
      clear hj hr hbl
      go_wp2
      go_round
      case rel => exact ⟨k + 1, by omega, by rw [HS.out], by go_num⟩
      case measure => simp [intOf]; omega
    · obtain rfl : n = k := by omega
      have hsg : IntKind.u32.signed = false := rfl
      have hx := reg_lt ones_lt (l.take n)
      have e1 := inv_bits _ hx
      have HE := Go.Lib.hid e1
      clear e1
      go_wp2
      go_ret
      refine ⟨ret_int ?_, rfl⟩
      rw [HE.out, List.take_of_length_le (by rw [HL.out]; exact Nat.le_refl _)]
      rfl
end Go.Proofs.YtppidbdkejkopaaGreatDoor.CrcWalk
namespace Go.Proofs.YtppidbdkejkopaaGreatDoor.FrWalk
open Go.RowKit MemRow NumMem CrcMath CrcWalk FrMath
set_option maxHeartbeats 1000000 in
set_option maxRecDepth 100000 in
theorem sumOfT_any (g ot : Nat) (A B : Option Addr) (n ca m cb : Nat) (l k : List UInt8) (w : World) (ht : TabO w g ot) (ha : Rd w A n ca l) (hb : Rd w B m cb k) (h0 : 0 < n) (hsz : n + m ≤ 140737488355328) :
    Calls Tryz.prog 81 #[.pointer (some ⟨g, ot, none⟩), .slice A n ca, .slice B m cb] w fun e w' => e = .returned (.int .u32 (sum (l ++ k) : Nat)) ∧ Below w.heap.size w w' := by
  have hq := fun W => slice_full A n ca ha.le_cap W
  have ha2 : Rd w A n n l := ⟨ha.1, Nat.le_refl _, ha.le, ha.2.2.2⟩
  obtain ⟨A1, c1, w1, hap, r1, b1⟩ := run_append_full ha2 hb h0 hsz 58
  have t1 := ht.below b1
  clear ha ha2 hb
  go_enter Tryz.func81, Tryz.ntmps81
  go_wp2_with (at_builtin; refine Lib.wpList_append_run _ rfl _ _ _ _ rfl _ _ rfl rfl _ _ hap ?_)
  refine (sumT_any g ot A1 (n + m) c1 _ w1 t1 r1).mono ?_
  rintro e w' ⟨rfl, rfl⟩
  go_wp2_with fail
  go_ret
  exact ⟨rfl, b1⟩
set_option maxHeartbeats 2000000 in
set_option maxRecDepth 100000 in
theorem putT9_any (g ot : Nat) (A : Option Addr) (n cap : Nat) (l : List UInt8) (w : World) (ht : TabO w g ot) (h : Rd w A n cap l) :
    Calls Tryz.prog 48 #[.pointer (some ⟨g, ot, none⟩), .slice A n cap] w (PutOut l w) := by
  have hl := h.len
  by_cases hn : n ≤ 16384
  · have i1 : ¬ (n : Int) > 16384 := by omega
    have ec : putC l = 0 := by unfold putC maxF; rw [if_neg (by omega)]
    have eb : putB l = frameF l := by unfold putB maxF; rw [if_neg (by omega)]
    unfold PutOut
    rw [ec, eb]
    have hw : IntKind.u32.wrap (n : Int) = (n : Int) := IntWalk.u32_in _ (by omega)
    have HL := Go.Lib.hid hl
    clear ec eb hl
    go_enter Tryz.func48, Tryz.ntmps48
    go_wp2_with fail
    refine (putWord_any n w).mono ?_
    rintro e w1 ⟨A1, c1, rfl, r1, b1⟩
    have t1 := ht.below b1
    have ra1 := h.below b1
    go_wp2_with fail
    refine (sumOfT_any g ot A1 A 4 c1 n cap (le4 n) l w1 t1 r1 ra1 (by omega) (by omega)).mono ?_
    rintro e w2 ⟨rfl, b2⟩
    generalize hv : sum (le4 n ++ l) = v at *
    have HV := Go.Lib.hid hv
    have r2 := r1.below b2
    have ra2 := ra1.below b2
    have B2 := below_chain b1 b2
    clear hv r1 ra1 b1 b2 t1 ht h
    go_wp2_with fail
    refine (putWord_any v w2).mono ?_
    rintro e w3 ⟨A3, c3, rfl, r3, b3⟩
    have al : Below w3.heap.size w3 (w3.alloc (.cells #[.slice A1 4 c1, .slice A3 4 c3, .slice A n cap] 58)) := (Below.refl _ _).alloc (Nat.le_refl _) _
    have hh := heap_alloc_new w3 (.cells #[.slice A1 4 c1, .slice A3 4 c3, .slice A n cap] 58)
    have rb : RdB (w3.alloc (.cells #[.slice A1 4 c1, .slice A3 4 c3, .slice A n cap] 58)) (some ⟨w3.heap.size, 0, none⟩) 3 3 [le4 n, le4 v, l] := by
      refine ⟨rfl, Nat.le_refl _, by unfold maxLen; omega, fun _ => ⟨w3.heap.size, 0, rfl, (Array.getElem?_eq_some_iff.1 hh).1, fun i hi => ?_⟩⟩
      obtain rfl | rfl | rfl : i = 0 ∨ i = 1 ∨ i = 2 := by omega
      · exact ⟨A1, 4, c1, by rw [cell_of_row _ _ _ _ _ _ hh]; rfl, (r2.below b3).below al⟩
      · exact ⟨A3, 4, c3, by rw [cell_of_row _ _ _ _ _ _ hh]; rfl, r3.below al⟩
      · exact ⟨A, n, cap, by rw [cell_of_row _ _ _ _ _ _ hh]; rfl, (ra2.below b3).below al⟩
    have B3 := below_chain (below_chain B2 b3) al
    have e7 : [le4 n, le4 v, l].flatten = frameF l := by
      rw [← HV.out, ← HL.out]
      simp [frameF]
    have hfl := frameF_length l
    rw [HL.out] at hfl
    have cc := concat_any (some ⟨w3.heap.size, 0, none⟩) 3 3 _ _ rb (by rw [e7]; omega) (by rw [e7]; omega)
    rw [e7] at cc
    clear rb r2 ra2 r3 hh al b3 B2 e7 hfl
    go_wp2_with fail
    refine cc.mono ?_
    rintro e w4 ⟨A4, c4, rfl, o4, b4⟩
    have B4 := below_chain B3 b4
    have r4 := o4.rd
    clear o4 B3 b4 cc
    go_wp2_with fail
    go_ret2
    exact ⟨A4, _, c4, rfl, r4, B4⟩
  · have i1 : (n : Int) > 16384 := by omega
    have ec : putC l = 3 := by unfold putC maxF; rw [if_pos (by omega)]
    have eb : putB l = [] := by unfold putB maxF; rw [if_pos (by omega)]
    unfold PutOut
    rw [ec, eb]
    clear ec eb hl
    go_enter Tryz.func48, Tryz.ntmps48
    go_wp2_with fail
    go_ret2
    exact ⟨none, 0, 0, rfl, Rd.nil _, Below.refl _ _⟩
set_option maxHeartbeats 4000000 in
set_option maxRecDepth 100000 in
theorem takeT9_any (g ot : Nat) (A : Option Addr) (n cap : Nat) (l : List UInt8) (w : World) (ht : TabO w g ot) (h : Rd w A n cap l) :
    Calls Tryz.prog 68 #[.pointer (some ⟨g, ot, none⟩), .slice A n cap] w (TakeOut l w) := by
  have hl := h.len
  have hnm := h.le
  have hcp := h.le_cap
  unfold maxLen at hnm
  by_cases h8 : n < 8
  · have i1 : (n : Int) < 8 := by omega
    have ht := take_none_short (l := l) (by omega)
    clear hl
    go_enter Tryz.func68, Tryz.ntmps68
    go_wp2_with fail
    go_ret2
    exact none_out ht (Below.refl _ _)
  · have i1 : ¬ (n : Int) < 8 := by omega
    have q4 : ∀ W, (Instr.slice 58 (.slice A n cap) none (some (.int .i64 4)) none).run Tryz.prog W = .ok (.slice A 4 cap) W := fun W => slice_upto A n cap 4 (by omega) W
    obtain ⟨A2, c2, q8, r8⟩ := slice_mid h (i := 4) (j := 8) (x := 4) (y := 8) rfl rfl (by omega) (by omega)
    rw [show 8 - 4 = 4 from rfl] at q8 r8
    obtain ⟨A3, qd, rd⟩ := slice_low h (i := 8) (by omega)
    have qd' : ∀ W, (Instr.slice 58 (.slice A n cap) (some (.int .i64 8)) none none).run Tryz.prog W = .ok (.slice A3 (n - 8) (cap - 8)) W := qd
    have r4 := h.first (k := 4) (by omega)
    have HL := Go.Lib.hid hl
    clear qd hl h
    go_enter Tryz.func68, Tryz.ntmps68
    go_wp2_with fail
    go_quiet (fail)
    have bq : Below w.heap.size w (w.drewN nq) := bel_drewN (Below.refl _ _) nq
    have r4q := r4.below bq
    have r8q := r8.below bq
    have rdq := rd.below bq
    have tq := ht.below bq
    have hbase := bq.size
    clear q4 q8 qd' r4 r8 rd ht
    generalize w.drewN nq = wq at *
    go_wp2_with fail
    refine (takeWord_any A cap _ wq r4q).mono ?_
    rintro e w' ⟨rfl, rfl⟩
    generalize hN : word (l.take 4) = N at *
    have hNl : N < 4294967296 := by
      have := word_lt (l.take 4)
      rw [List.length_take, HL.out, Nat.min_eq_left (by omega), hN] at this
      exact this
    have HN := Go.Lib.hid hN
    have hw : IntKind.i64.wrap (N : Int) = (N : Int) := IntWalk.i64_in _ (by omega)
    clear hN
    by_cases hb : 16384 < N
    · have i2 : (N : Int) > 16384 := by omega
      have ht : takeF l = none := by
        have := HL.out
        unfold takeF maxF
        rw [HN.out, if_neg (by omega), if_pos hb]
      go_wp2_with fail
      go_ret2
      exact none_out ht bq
    · have i2 : ¬ (N : Int) > 16384 := by omega
      by_cases hb2 : n - 8 < N
      · have i3 : (N : Int) > ((n - 8 : Nat) : Int) := by omega
        have ht : takeF l = none := by
          have := HL.out
          unfold takeF maxF
          rw [HN.out, if_neg (by omega), if_neg hb, if_pos (by omega)]
        go_wp2_with fail
        go_ret2
        exact none_out ht bq
      · have i3 : ¬ (N : Int) > ((n - 8 : Nat) : Int) := by omega
        have hcd := rdq.le_cap
        have qn : ∀ W, (Instr.slice 58 (.slice A3 (n - 8) (cap - 8)) none (some (.int .i64 (N : Int))) none).run Tryz.prog W = .ok (.slice A3 N (cap - 8)) W := fun W => slice_upto A3 (n - 8) (cap - 8) N (by omega) W
        have rn := rdq.first (k := N) (by omega)
        have hit := frame_iff HN.out (by rw [HL.out]; omega)
        have HX : Hid (takeF l = if word ((l.drop 4).take 4) = sum (l.take 4 ++ (l.drop 8).take N) then some ((l.drop 8).take N) else none) := by
          have := HL.out
          refine Go.Lib.hid ?_
          unfold takeF maxF
          rw [HN.out, if_neg (by omega), if_neg hb, if_neg (by omega)]
          by_cases hf : frameF ((l.drop 8).take N) = l.take (8 + N)
          · rw [if_pos hf, if_pos (hit.1 hf)]
          · rw [if_neg hf, if_neg (fun hc => hf (hit.2 hc))]
        have hxl := rn.len
        have so := sumOfT_any g ot A A3 4 cap N (cap - 8) _ _ wq tq r4q rn (by omega) (by omega)
        have tw := takeWord_any A2 c2 _ wq r8q
        generalize word ((l.drop 4).take 4) = s1 at *
        generalize sum (l.take 4 ++ (l.drop 8).take N) = s2 at *
        clear hit rdq r8q r4q tq HN
        generalize (l.drop 8).take N = x at *
        go_wp2_with fail
        refine tw.mono ?_
        rintro e w' ⟨rfl, rfl⟩
        go_wp2_with fail
        refine so.mono ?_
        rintro e w2 ⟨rfl, b2⟩
        have rn2 := rn.below b2
        have B2 := below_chain bq b2
        clear so tw rn b2
        by_cases he : s1 = s2
        · subst he
          have ht : takeF l = some x := by
            have := HX.out
            rwa [if_pos rfl] at this
          have HT := Go.Lib.hid ht
          have hw8 : IntKind.i64.wrap (8 + (N : Int)) = 8 + (N : Int) := IntWalk.i64_in _ (by omega)
          clear ht HX
          go_wp2_with fail
          refine (cloneO_any A3 N (cap - 8) x w2 rn2 (by omega)).mono ?_
          rintro e w3 ⟨A4, c4, rfl, o4, b4⟩
          have B4 := below_chain B2 b4
          have hb2 := B2.size
          clear b4
          go_wp2_with fail
          go_ret2
          refine ⟨A4, N, c4, ?_, ?_, B4⟩
          · rw [takeN_some HT.out, hxl]
            rfl
          · rw [takeB_some HT.out]
            exact own_low (k := 1) o4 hb2
        · have i4 : ¬ (s1 : Int) = (s2 : Int) := by omega
          have ht : takeF l = none := by
            have := HX.out
            rwa [if_neg he] at this
          have HT := Go.Lib.hid ht
          clear ht HX he
          go_wp2_with fail
          go_ret2
          exact none_out HT.out B2
end Go.Proofs.YtppidbdkejkopaaGreatDoor.FrWalk
namespace Go.Proofs.YtppidbdkejkopaaGreatDoor.WlWalk
open Go.RowKit MemRow Ev NameMath NameWalk EvWalk NumMem DkWalk CrcMath CrcWalk
open Go.Lib (decDigits)
set_option maxHeartbeats 2000000 in
set_option maxRecDepth 100000 in
theorem segL_any (z : Int) (w : World) (ht : TabW w) :
    Calls Tryz.prog 23 #[.int .i64 z] w fun e w' => e = .returned (.string (segZ z)) ∧ Below w.heap.size w w' := by
  by_cases h0 : z < 1
  · have e : segZ z = ByteArray.empty := segN_out (by omega)
    rw [e]
    have b0 := Below.refl w.heap.size w
    go_enter Tryz.func23, Tryz.ntmps23
    go_wp2_with fail
    go_ret
    exact ⟨rfl, b0⟩
  · by_cases h1 : z > 200
    · have e : segZ z = ByteArray.empty := segN_out (by omega)
      rw [e]
      have b0 := Below.refl w.heap.size w
      go_enter Tryz.func23, Tryz.ntmps23
      go_wp2_with fail
      go_ret
      exact ⟨rfl, b0⟩
    · obtain ⟨n, rfl⟩ := Int.eq_ofNat_of_zero_le (by omega : 0 ≤ z)
      have e : segZ (n : Int) = ⟨(logP ++ decDigits n).toArray⟩ := segN_in (by omega) (by omega)
      rw [e]
      have hd := dec_len (u := n) (by omega)
      have hcat : ∀ W, (Op.stringOp .add ⟨#[108, 111, 103, 95]⟩ ⟨(decDigits n).toArray⟩).run Tryz.prog W = .ok (.string ⟨(logP ++ decDigits n).toArray⟩) W := fun W => run_string_add_lists W logP (decDigits n) (by unfold logP; simp) (by omega)
      have ci := itoaW_any n (by omega) w ht
      generalize decDigits n = dd at *
      have CI := Go.Lib.hid ci
      clear ci hd e
      go_enter Tryz.func23, Tryz.ntmps23
      go_wp2_with fail
      refine (CI.out).mono ?_
      rintro e w1 ⟨rfl, b1⟩
      go_wp2_with fail
      go_ret
      exact ⟨rfl, b1⟩
def llP (g : Nat) : Array Value := #[.pointer (some ⟨g, 0, none⟩)] ++ tab
theorem llP_size (g : Nat) : (llP g).size = 257 := by
  unfold llP
  rw [Array.size_append, tab_size]
  rfl
def llV (g many : Nat) (last : Int) : Array Value := llP g ++ #[.int .i64 (many : Int), .int .i64 last]
theorem llV_0 (g many : Nat) (last : Int) : (llV g many last)[0]? = some (.pointer (some ⟨g, 0, none⟩)) := by
  unfold llV
  rw [Array.getElem?_append_left (by rw [llP_size]; omega)]
  unfold llP
  rw [Array.getElem?_append_left (by simp)]
  rfl
theorem llV_tab (g many : Nat) (last : Int) (j : Nat) (h : j < 256) : (llV g many last)[1 + j]? = some (.int .u32 ((step8 j : Nat) : Int)) := by
  unfold llV
  rw [Array.getElem?_append_left (by rw [llP_size]; omega)]
  unfold llP
  rw [Array.getElem?_append_right (by simp)]
  simp only [List.size_toArray, List.length_singleton, Nat.add_sub_cancel_left]
  exact tab_get j h
theorem llV_257 (g many : Nat) (last : Int) : (llV g many last)[257]? = some (.int .i64 (many : Int)) := by
  unfold llV
  rw [Array.getElem?_append_right (by rw [llP_size]; omega), llP_size]
  rfl
theorem llV_258 (g many : Nat) (last : Int) : (llV g many last)[258]? = some (.int .i64 last) := by
  unfold llV
  rw [Array.getElem?_append_right (by rw [llP_size]; omega), llP_size]
  rfl
theorem llV_set257 (g many : Nat) (last : Int) (n : Nat) : (llV g many last).setIfInBounds 257 (.int .i64 (n : Int)) = llV g n last := by
  unfold llV
  rw [Array.setIfInBounds_append_right (by rw [llP_size]; omega), llP_size]
  rfl
theorem llV_set258 (g many : Nat) (last z : Int) : (llV g many last).setIfInBounds 258 (.int .i64 z) = llV g many z := by
  unfold llV
  rw [Array.setIfInBounds_append_right (by rw [llP_size]; omega), llP_size]
  rfl
abbrev LlT (gl g many : Nat) (last : Int) : Thing := BxT gl (llV g many last) 81
section
variable {base : Nat} {w : World} {P Q : Thing} {gl g many : Nat} {last : Int}
theorem ll_cells (h : Pair base w P (With Q (LlT gl g many last))) : w.cell? ⟨gl, 0, none⟩ = some (.pointer (some ⟨g, 0, none⟩)) ∧ w.cell? ⟨gl, 257, none⟩ = some (.int .i64 (many : Int)) ∧ w.cell? ⟨gl, 258, none⟩ = some (.int .i64 last) ∧ w.frozen? ⟨gl, 257, none⟩ = false ∧ w.frozen? ⟨gl, 258, none⟩ = false ∧ TabO w gl 1 := by
  have hh := pair_bx h
  refine ⟨by rw [cell_of_row w gl 0 _ _ _ hh]; exact llV_0 .., by rw [cell_of_row w gl 257 _ _ _ hh]; exact llV_257 .., by rw [cell_of_row w gl 258 _ _ _ hh]; exact llV_258 .., by simp [World.frozen?, hh], by simp [World.frozen?, hh], (Array.getElem?_eq_some_iff.1 hh).1, fun j hj => by rw [cell_of_row w gl (1 + j) _ _ _ hh]; exact llV_tab g many last j hj⟩
theorem ll_set (kp : Keeps P) (kq : Keeps Q) (h : Pair base w P (With Q (LlT gl g many last))) {i : Nat} {v : Value} {m : Nat} {z : Int} (he : (llV g many last).setIfInBounds i v = llV g m z) : Pair base (w.setCell ⟨gl, i, none⟩ v) P (With Q (LlT gl g m z)) ∧ Below base w (w.setCell ⟨gl, i, none⟩ v) := by
  have hh := pair_bx h
  refine lg_put kp kq h ?_
  rw [setCell_eq_setRow w gl i _ _ _ v hh, setRow_heap w gl _ _ _ _ hh, he]
theorem ll_set1 (kp : Keeps P) (kq : Keeps Q) (h : Pair base w P (With Q (LlT gl g many last))) (n : Nat) : Pair base (w.setCell ⟨gl, 257, none⟩ (.int .i64 (n : Int))) P (With Q (LlT gl g n last)) ∧ Below base w (w.setCell ⟨gl, 257, none⟩ (.int .i64 (n : Int))) := ll_set kp kq h (llV_set257 ..)
theorem ll_set2 (kp : Keeps P) (kq : Keeps Q) (h : Pair base w P (With Q (LlT gl g many last))) (z : Int) : Pair base (w.setCell ⟨gl, 258, none⟩ (.int .i64 z)) P (With Q (LlT gl g many z)) ∧ Below base w (w.setCell ⟨gl, 258, none⟩ (.int .i64 z)) := ll_set kp kq h (llV_set258 ..)
end
theorem ll_built : ∀ g : Nat, Tryz.prog.built 81 [(0, .pointer (some ⟨g, 0, none⟩)), (1, .agg tab)] = some (llV g 0 0) := by
  intro g
  kernel_rfl
theorem ll_build (g : Nat) (w : World) : (Instr.build 81 #[(0, .pointer (some ⟨g, 0, none⟩)), (1, .agg tab)]).run Tryz.prog w = .ok (.agg (llV g 0 0)) w := run_build w _ _ _ (ll_built g)
end Go.Proofs.YtppidbdkejkopaaGreatDoor.WlWalk
