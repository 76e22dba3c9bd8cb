/-
  Contracts of the document's own answers for layer 3 (registrarref03): Fold.
-/
import Derived.Test.YtinmmaoedmepbaaNameRefB
import Derived.Test.YtinmmaoedmepbaaNumMem
namespace Go.Proofs.Ytinmmaoedmepbaa.NameWalk
open Go.RowKit Go.Proofs.Ytinmmaoedmepbaa.NameMath Go.Proofs.Ytinmmaoedmepbaa.NumMem

theorem rd_str {w : World} {A : Option Addr} {n cap : Nat} {l : List UInt8} (h : Rd w A n cap l) : (convert 31 9 (.slice A n cap)).run Try.prog w = .ok (.string ⟨l.toArray⟩) w :=
  h.string (P := Try.prog) 31 9 5 Try.underlying31 Try.underlying5 Try.underlying9

theorem alloc_at (w : World) (o : Obj) : (w.alloc o).heap[w.heap.size]? = some o := heap_alloc_new w _

theorem one_str (w : World) (z : Int) (c : UInt8) (hz : z = (c.toNat : Int)) : (convert 31 9 (.slice (some ⟨w.heap.size, 0, none⟩) 1 1)).run Try.prog (w.alloc (.cells #[.int .u8 z] 5)) = .ok (.string ⟨#[c]⟩) (w.alloc (.cells #[.int .u8 z] 5)) := by
  subst hz
  have h : Rd (w.alloc (.cells #[.int .u8 (c.toNat : Int)] 5)) (some ⟨w.heap.size, 0, none⟩) 1 1 [c] := by
    refine Rd.of_block (alloc_at w _) rfl (Nat.le_refl _) (by unfold maxLen; omega) ?_
    intro i hi
    obtain rfl : i = 0 := by omega
    rfl
  exact rd_str h

theorem two_str (w : World) (a b : UInt8) : (convert 31 9 (.slice (some ⟨w.heap.size, 0, none⟩) 2 2)).run Try.prog (w.alloc (.cells #[.int .u8 (a.toNat : Int), .int .u8 (b.toNat : Int)] 5)) = .ok (.string ⟨#[a, b]⟩) (w.alloc (.cells #[.int .u8 (a.toNat : Int), .int .u8 (b.toNat : Int)] 5)) := by
  have h : Rd (w.alloc (.cells #[.int .u8 (a.toNat : Int), .int .u8 (b.toNat : Int)] 5)) (some ⟨w.heap.size, 0, none⟩) 2 2 [a, b] := by
    refine Rd.of_block (alloc_at w _) rfl (Nat.le_refl _) (by unfold maxLen; omega) ?_
    intro i hi
    have : i = 0 ∨ i = 1 := by omega
    rcases this with rfl | rfl <;> rfl
  exact rd_str h


set_option maxHeartbeats 8000000 in
set_option maxRecDepth 100000 in
theorem refFold_any (s : ByteArray) (w : World) (hs : s.size ≤ 4611686018427387) :
    Calls Try.prog 16 #[.string s] w fun e w' => e = .returned (.string ⟨(fold s.data.toList).toArray⟩) ∧ Below w.heap.size w w' := by
  have hsz := size_list s
  have hfl := fold_len s.data.toList
  generalize hF : (⟨(fold s.data.toList).toArray⟩ : ByteArray) = F
  have hFl : F.data.toList = fold s.data.toList := by rw [← hF]
  have HF := Go.Lib.hid hFl
  have HS := Go.Lib.hid hsz
  have HFL := Go.Lib.hid hfl
  clear hF hFl hsz hfl
  go_enter Try.func16, Try.ntmps16
  go_wp2
  go_loopw [3, 4] (fun o a wr => ∃ (pos : Nat) (O : ByteArray), o = .string O ∧ a = .int .i64 (pos : Int) ∧ pos ≤ s.size ∧ O.data.toList ++ fold (s.data.toList.drop pos) = fold s.data.toList ∧ Below w.heap.size w wr) (fun _ a _ => s.size - (intOf a).toNat)
  case atStart => exact ⟨0, ⟨#[]⟩, rfl, rfl, by omega, rfl, Below.refl _ _⟩
  case round =>
    obtain ⟨pos, O, rfl, rfl, hple, hacc, hb⟩ := hrel
    have hO : O.size ≤ s.size := by
      rw [size_list O]
      have h1 := congrArg List.length hacc
      rw [List.length_append] at h1
      have := HFL.out
      have := HS.out
      omega
    by_cases hp : pos < s.size
    · have q1 : (pos : Int) < s.size := by omega
      have q0 : (0 : Int) ≤ pos := by omega
      have hdp := drop_at hp
      have hcl := Go.Lib.hid (fun w => refLetter_any s pos w hp (by omega))
      have hcf := Go.Lib.hid (fun w => refFolded_any s pos w hp (by omega))
      have hlen : (s.data.toList.drop pos).length = s.size - pos := by rw [List.length_drop, ← HS.out]
      have HA := Go.Lib.hid hacc
      have HD := Go.Lib.hid hdp
      clear hacc hdp
      have hx := UInt8.toNat_lt (s[pos]'hp)
      generalize hU : (⟨(upB (s.data.toList.drop pos)).toArray⟩ : ByteArray) = U at *
      have hUl : U.data.toList = upB (s.data.toList.drop pos) := by rw [← hU]
      have HU := Go.Lib.hid hUl
      clear hU hUl
      by_cases hN0 : lw (s.data.toList.drop pos) = 0
      · by_cases c1 : 65 ≤ (s[pos]'hp).toNat ∧ (s[pos]'hp).toNat ≤ 90
        · have hr := ref_upper (s.data.toList.drop (pos + 1)) c1
          rw [← HD.out] at hr
          have HR := Go.Lib.hid hr
          rw [hN0] at hcl
          clear hr hlen hN0
          generalize hy : (s[pos]'hp).toNat = y at *
          obtain ⟨c1, c2⟩ := c1
          have k1 : (65 : Int) ≤ y := by omega
          have k2 : (y : Int) ≤ 90 := by omega
          have hm : O.size + 1 ≤ 9223372036854775807 := by omega
          have hcn : (UInt8.ofNat (y + 32)).toNat = y + 32 := by simp; omega
          generalize UInt8.ofNat (y + 32) = c at *
          have hcz : (y : Int) - 65 + 97 = (c.toNat : Int) := by omega
          have HCZ := Go.Lib.hid hcz
          clear hcn hcz
          go_wp2_with fail
          refine (hcl.out _).mono ?_
          rintro e w2 ⟨rfl, b2⟩
          have B2 := below_chain hb b2
          go_wp2_with fail
          refine (hcf.out _).mono ?_
          rintro e w3 ⟨rfl, b3⟩
          have B3 := below_chain B2 b3
          have hstr := one_str w3 (↑y - 65 + 97) c HCZ.out
          go_wp2_with fail
          go_roundw
          case rel =>
            refine ⟨pos + 1, O ++ ⟨#[c]⟩, rfl, by simp, by omega, ?_, ?_⟩
            · rw [ba_append, ← HA.out, HR.out]
              simp
            · exact B3.alloc (by have := B3.size; omega) _
          case measure =>
            simp [intOf]
            omega
        · by_cases c3 : (s[pos]'hp).toNat = 32 ∨ (s[pos]'hp).toNat = 46 ∨ (s[pos]'hp).toNat = 47
          · have hr := ref_gap (s.data.toList.drop (pos + 1)) c3
            rw [← HD.out] at hr
            have HR := Go.Lib.hid hr
            rw [hN0] at hcl
            clear hr hlen hN0 c1
            generalize hy : (s[pos]'hp).toNat = y at *
            have hm : O.size + 1 ≤ 9223372036854775807 := by omega
            rcases c3 with rfl | rfl | rfl
            all_goals
              go_wp2_with fail
              refine (hcl.out _).mono ?_
              rintro e w2 ⟨rfl, b2⟩
              have B2 := below_chain hb b2
              go_wp2_with fail
              refine (hcf.out _).mono ?_
              rintro e w3 ⟨rfl, b3⟩
              have B3 := below_chain B2 b3
              go_wp2_with fail
              go_roundw
              case rel =>
                refine ⟨pos + 1, O ++ ⟨#[45]⟩, rfl, by simp, by omega, ?_, B3⟩
                rw [ba_append, ← HA.out, HR.out]
                simp
              case measure =>
                simp [intOf]
                omega
          · by_cases c4 : upB (s.data.toList.drop pos) = []
            · have hr := ref_none (a := s[pos]'hp) (l := s.data.toList.drop (pos + 1)) (by rw [← HD.out]; exact hN0) c1 c3 (by rw [← HD.out]; exact c4)
              rw [← HD.out] at hr
              have HR := Go.Lib.hid hr
              have hUe : U = ⟨#[]⟩ := ba_ext (by rw [HU.out, c4])
              subst hUe
              rw [hN0] at hcl
              have hcases : ((s[pos]'hp).toNat < 65 ∧ (s[pos]'hp).toNat ≠ 32 ∧ (s[pos]'hp).toNat ≠ 46 ∧ (s[pos]'hp).toNat ≠ 47) ∨ 90 < (s[pos]'hp).toNat := by omega
              clear hr hlen hN0 c1 c3 c4
              generalize hy : (s[pos]'hp).toNat = y at *
              rcases hcases with ⟨d1, d2, d3, d4⟩ | d1
              · have k1 : ¬ (65 : Int) ≤ y := by omega
                have k3 : ¬ (y : Int) = 32 := by omega
                have k4 : ¬ (y : Int) = 46 := by omega
                have k5 : ¬ (y : Int) = 47 := by omega
                have e3 : ((y : Int) == 32) = false := beq_eq_false_iff_ne.2 k3
                have e4 : ((y : Int) == 46) = false := beq_eq_false_iff_ne.2 k4
                have e5 : ((y : Int) == 47) = false := beq_eq_false_iff_ne.2 k5
                clear k3 k4 k5
                go_wp2_with fail
                refine (hcl.out _).mono ?_
                rintro e w2 ⟨rfl, b2⟩
                have B2 := below_chain hb b2
                go_wp2_with fail
                refine (hcf.out _).mono ?_
                rintro e w3 ⟨rfl, b3⟩
                have B3 := below_chain B2 b3
                go_wp2_with fail
                go_roundw
                case rel =>
                  refine ⟨pos + 1, O, rfl, by simp, by omega, ?_, B3⟩
                  rw [← HA.out, HR.out]
                case measure =>
                  simp [intOf]
                  omega
              · have k1 : (65 : Int) ≤ y := by omega
                have k2 : ¬ (y : Int) ≤ 90 := by omega
                have k3 : ¬ (y : Int) = 32 := by omega
                have k4 : ¬ (y : Int) = 46 := by omega
                have k5 : ¬ (y : Int) = 47 := by omega
                have e3 : ((y : Int) == 32) = false := beq_eq_false_iff_ne.2 k3
                have e4 : ((y : Int) == 46) = false := beq_eq_false_iff_ne.2 k4
                have e5 : ((y : Int) == 47) = false := beq_eq_false_iff_ne.2 k5
                clear k3 k4 k5
                go_wp2_with fail
                refine (hcl.out _).mono ?_
                rintro e w2 ⟨rfl, b2⟩
                have B2 := below_chain hb b2
                go_wp2_with fail
                refine (hcf.out _).mono ?_
                rintro e w3 ⟨rfl, b3⟩
                have B3 := below_chain B2 b3
                go_wp2_with fail
                go_roundw
                case rel =>
                  refine ⟨pos + 1, O, rfl, by simp, by omega, ?_, B3⟩
                  rw [← HA.out, HR.out]
                case measure =>
                  simp [intOf]
                  omega
            · have hr := ref_up c4
              have hUs : U.size = 2 := by rw [size_list, HU.out, hr.2.2]
              have hlp : pos + 2 ≤ s.size := by have := hr.1; rw [hlen] at this; omega
              have HR := Go.Lib.hid hr.2.1
              have hUne : ¬ U.toList = [] := by
                intro e
                rw [ByteArray.toList_eq, HU.out] at e
                exact c4 e
              have hUne3 : U.toList.isEmpty = false := by
                cases hh : U.toList with
                | nil => exact absurd hh hUne
                | cons x y => rfl
              have hUne2 : ¬ U = ⟨#[]⟩ := by
                intro e
                rw [e] at hUs
                exact absurd hUs (by decide)
              rw [hN0] at hcl
              have hcases : ((s[pos]'hp).toNat < 65 ∧ (s[pos]'hp).toNat ≠ 32 ∧ (s[pos]'hp).toNat ≠ 46 ∧ (s[pos]'hp).toNat ≠ 47) ∨ 90 < (s[pos]'hp).toNat := by omega
              clear hr hlen hN0 c1 c3 c4
              generalize hy : (s[pos]'hp).toNat = y at *
              have hm : O.size + U.size ≤ 9223372036854775807 := by omega
              rcases hcases with ⟨d1, d2, d3, d4⟩ | d1
              · have k1 : ¬ (65 : Int) ≤ y := by omega
                have k3 : ¬ (y : Int) = 32 := by omega
                have k4 : ¬ (y : Int) = 46 := by omega
                have k5 : ¬ (y : Int) = 47 := by omega
                have e3 : ((y : Int) == 32) = false := beq_eq_false_iff_ne.2 k3
                have e4 : ((y : Int) == 46) = false := beq_eq_false_iff_ne.2 k4
                have e5 : ((y : Int) == 47) = false := beq_eq_false_iff_ne.2 k5
                clear k3 k4 k5
                have HUS := Go.Lib.hid hUs
                clear hUs
                go_wp2_with fail
                refine (hcl.out _).mono ?_
                rintro e w2 ⟨rfl, b2⟩
                have B2 := below_chain hb b2
                go_wp2_with fail
                refine (hcf.out _).mono ?_
                rintro e w3 ⟨rfl, b3⟩
                have B3 := below_chain B2 b3
                go_wp2_with fail
                go_roundw
                case rel =>
                  refine ⟨pos + 2, O ++ U, rfl, by simp, by omega, ?_, B3⟩
                  rw [ba_append, ← HA.out, HR.out, HU.out, List.drop_drop, List.append_assoc]
                case measure =>
                  simp [intOf]
                  omega
              · have k1 : (65 : Int) ≤ y := by omega
                have k2 : ¬ (y : Int) ≤ 90 := by omega
                have k3 : ¬ (y : Int) = 32 := by omega
                have k4 : ¬ (y : Int) = 46 := by omega
                have k5 : ¬ (y : Int) = 47 := by omega
                have e3 : ((y : Int) == 32) = false := beq_eq_false_iff_ne.2 k3
                have e4 : ((y : Int) == 46) = false := beq_eq_false_iff_ne.2 k4
                have e5 : ((y : Int) == 47) = false := beq_eq_false_iff_ne.2 k5
                clear k3 k4 k5
                have HUS := Go.Lib.hid hUs
                clear hUs
                go_wp2_with fail
                refine (hcl.out _).mono ?_
                rintro e w2 ⟨rfl, b2⟩
                have B2 := below_chain hb b2
                go_wp2_with fail
                refine (hcf.out _).mono ?_
                rintro e w3 ⟨rfl, b3⟩
                have B3 := below_chain B2 b3
                go_wp2_with fail
                go_roundw
                case rel =>
                  refine ⟨pos + 2, O ++ U, rfl, by simp, by omega, ?_, B3⟩
                  rw [ba_append, ← HA.out, HR.out, HU.out, List.drop_drop, List.append_assoc]
                case measure =>
                  simp [intOf]
                  omega
      · have h3 := lw_some hN0
        rw [hlen, List.drop_drop] at h3
        generalize hN : lw (s.data.toList.drop pos) = N at *
        have hle := h3.1
        have HR := Go.Lib.hid h3.2.2
        obtain ⟨j, hj⟩ : ∃ j : Nat, j = pos + N := ⟨_, rfl⟩
        have hEx : (s.extract pos j).data.toList = (s.data.toList.drop pos).take N := by
          rw [ByteArray.data_extract, Array.toList_extract, hj]
          show (s.data.toList.drop pos).take (pos + N - pos) = _
          rw [Nat.add_sub_cancel_left]
        have hEs : (s.extract pos j).size ≤ s.size := by
          rw [size_list, hEx, List.length_take]
          omega
        have HEX := Go.Lib.hid hEx
        have n1 : (0 : Int) < N := by omega
        have hz : (pos : Int) + N = j := by omega
        have n2 : (pos : Int) ≤ j := by omega
        have n3 : (j : Int) ≤ s.size := by omega
        have hm : O.size + (s.extract pos j).size ≤ 9223372036854775807 := by omega
        have HJ := Go.Lib.hid hj
        generalize hE : s.extract pos j = E at *
        have hE2 := hE
        clear h3 hN hEx hj hlen hN0 hEs
        go_wp2_with fail
        refine (hcl.out _).mono ?_
        rintro e w2 ⟨rfl, b2⟩
        have B2 := below_chain hb b2
        go_wp2_with fail
        refine (hcf.out _).mono ?_
        rintro e w3 ⟨rfl, b3⟩
        have B3 := below_chain B2 b3
        go_wp2_with fail
        go_roundw
        case rel =>
          refine ⟨j, O ++ E, rfl, by simp, by omega, ?_, B3⟩
          rw [ba_append, ← HA.out, HR.out, HEX.out, ← HJ.out, List.append_assoc]
        case measure =>
          have := HJ.out
          simp [intOf]
          omega
    · have q1 : ¬ (pos : Int) < s.size := by omega
      have hOF : O = F := by
        apply ba_ext
        rw [HF.out, ← hacc, List.drop_eq_nil_of_le (by have := HS.out; omega)]
        simp [fold]
      subst hOF
      clear hacc
      go_wp2
      go_ret
      exact ⟨rfl, hb⟩

end Go.Proofs.Ytinmmaoedmepbaa.NameWalk
