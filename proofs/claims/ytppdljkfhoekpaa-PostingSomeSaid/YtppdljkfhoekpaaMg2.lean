/-
  Layer 13: what is asked of the landed posting's Both and Either; the laws' words shown, rising.
-/
import Derived.Deep.Slices
import Derived.Lib.SmallJoins
import Derived.ChangeSame
import Derived.Deep.RegionHeld
import Derived.Deep.QuietTactic
import Derived.BigQuiet
import Derived.Deep.DeepCutAuto
import Derived.Maps.AppendAt
import Derived.OwnWalk
import Derived.Test.YtppdljkfhoekpaaProg
import Derived.Test.YtppdljkfhoekpaaMg1
namespace Go.Proofs.Ytppdljkfhoekpaa.PoWalk
open Go.RowKit Go.Proofs.Ytppdljkfhoekpaa.MemRow Go.Proofs.Ytppdljkfhoekpaa.Ev Go.Proofs.Ytppdljkfhoekpaa.NameMath Go.Proofs.Ytppdljkfhoekpaa.NameWalk Go.Proofs.Ytppdljkfhoekpaa.EvWalk Go.Proofs.Ytppdljkfhoekpaa.NumMem Go.Proofs.Ytppdljkfhoekpaa.SmWalk

theorem rdi_below {w w' : World} {A : Option Addr} {n cap : Nat} {l : List Int} (h : RdI w A n cap l) (hb : Below w.heap.size w w') : RdI w' A n cap l := RdC.below h hb
structure TwoApi : Prop where
  both : ∀ {A B : Option Addr} {n m ca cb : Nat} {a b : List Int} {w : World}, RdI w A n ca a → RdI w B m cb b → Inc a → Inc b → n ≤ 1000 → m ≤ 1000 →
    Calls Try.prog 12 #[.slice A n ca, .slice B m cb] w fun e w' => ∃ C k c, e = .returned (.slice C k c) ∧ RdI w' C k c (bothF a b) ∧ Below w.heap.size w w'
  either : ∀ {A B : Option Addr} {n m ca cb : Nat} {a b : List Int} {w : World}, RdI w A n ca a → RdI w B m cb b → Inc a → Inc b → n ≤ 1000 → m ≤ 1000 →
    Calls Try.prog 14 #[.slice A n ca, .slice B m cb] w fun e w' => ∃ C k c, e = .returned (.slice C k c) ∧ RdI w' C k c (eitherF a b) ∧ Below w.heap.size w w'

theorem lit_ints (w : World) (g : Nat) (hg : g = w.heap.size) (l : List Int) (n : Nat) (ar : Array Value) (he : ar = (nums l).toArray) (hl : l.length = n) (hn : n ≤ 1000) : RdI (w.alloc (.cells ar 3)) (some ⟨g, 0, none⟩) n n l ∧ Below w.heap.size w (w.alloc (.cells ar 3)) := by
  subst he hg
  exact ⟨RdC.new w 3 (nums l) (by rw [nums_length, hl, Nat.mul_one]) (by unfold maxLen; omega), (Below.refl _ _).alloc (Nat.le_refl _) _⟩
set_option maxHeartbeats 4000000 in
set_option maxRecDepth 100000 in
theorem shown13_any (api : TwoApi) (w : World) : Calls Try.prog 9 #[] w fun e w' => e = .returned (.bool true) ∧ Below w.heap.size w w' := by
  obtain ⟨r1, b1⟩ := lit_ints w w.heap.size rfl [1, 3, 5] 3 #[.int .i64 1, .int .i64 3, .int .i64 5] rfl rfl (by decide)
  obtain ⟨r2, b2⟩ := lit_ints (w.alloc (.cells #[.int .i64 1, .int .i64 3, .int .i64 5] 3)) (w.heap.size + 1) (by simp only [World.alloc, Array.size_push]) [3, 4, 5] 3 #[.int .i64 3, .int .i64 4, .int .i64 5] rfl rfl (by decide)
  have r1 := RdC.below r1 b2
  have B2 := below_chain b1 b2
  clear b1 b2
  go_enter Try.func9, Try.ntmps9
  go_wp2_with fail
  refine (api.both r1 r2 (by simp [Inc]) (by simp [Inc]) (by decide) (by decide)).mono ?_
  rintro e w3 ⟨C, k, c, rfl, r3, b3⟩
  have B3 := below_chain B2 b3
  rw [show bothF [1, 3, 5] [3, 4, 5] = [3, 5] by decide] at r3
  obtain rfl : k = 2 := r3.len.symm
  obtain ⟨r4, b4⟩ := lit_ints w3 w3.heap.size rfl [1, 3] 2 #[.int .i64 1, .int .i64 3] rfl rfl (by decide)
  obtain ⟨r5, b5⟩ := lit_ints (w3.alloc (.cells #[.int .i64 1, .int .i64 3] 3)) (w3.heap.size + 1) (by simp only [World.alloc, Array.size_push]) [2, 3] 2 #[.int .i64 2, .int .i64 3] rfl rfl (by decide)
  have r4 := RdC.below r4 b5
  have r3 : RdI _ C 2 c [3, 5] := RdC.below (RdC.below r3 b4) b5
  have B5 := below_chain (below_chain B3 b4) b5
  clear b3 b4 b5 B2 B3 r1 r2
  go_wp2_with fail
  refine (api.either r4 r5 (by simp [Inc]) (by simp [Inc]) (by decide) (by decide)).mono ?_
  rintro e w6 ⟨D, k, d, rfl, r6, b6⟩
  have B6 := below_chain B5 b6
  rw [show eitherF [1, 3] [2, 3] = [1, 2, 3] by decide] at r6
  obtain rfl : k = 3 := r6.len.symm
  have r3 : RdI w6 C 2 c [3, 5] := RdC.below r3 b6
  clear b6 B5 r4 r5
  obtain ⟨bc, oc, rfl, _, kc⟩ := r3.at_ (by decide)
  obtain ⟨bd, od, rfl, _, kd⟩ := r6.at_ (by decide)
  have y1 := kc 0 (by decide)
  have y2 := kd 1 (by decide)
  have y1 : w6.cell? ⟨bc, oc, none⟩ = some (.int .i64 3) := y1
  have y2 : w6.cell? ⟨bd, od + 1, none⟩ = some (.int .i64 2) := y2
  clear kc kd r3 r6
  go_wp2_with fail
  go_ret
  exact ⟨by simp, B6⟩

/-- Numbers that rise, of the first sixty. -/
def risS (out : List Int) (x : Int) : List Int := if out.length = 0 ∨ out.getD (out.length - 1) 0 < x then out ++ [x] else out
def risF (l : List Int) : List Int := (l.take 60).foldl risS []
theorem inc_last {l : List Int} (h : Inc l) : ∀ x ∈ l, x ≤ l.getD (l.length - 1) 0 := by
  intro x hx
  obtain ⟨i, hi, rfl⟩ := List.getElem_of_mem hx
  by_cases e : i = l.length - 1
  · subst e
    simp [List.getD, List.getElem?_eq_getElem hi]
  · have := inc_lt h (show i < l.length - 1 by omega) (show l.length - 1 < l.length by omega)
    simp only [List.getD, List.getElem?_eq_getElem hi, Option.getD_some] at this
    simp only [List.getD]
    omega
theorem risS_inc {out : List Int} (h : Inc out) (x : Int) : Inc (risS out x) := by
  unfold risS
  by_cases hc : out.length = 0 ∨ out.getD (out.length - 1) 0 < x
  · rw [if_pos hc]
    refine List.pairwise_append.2 ⟨h, by simp, fun a ha b hb => ?_⟩
    rw [List.mem_singleton] at hb
    rw [hb]
    have := inc_last h a ha
    have : 0 < out.length := List.length_pos_of_mem ha
    rcases hc with hc | hc <;> omega
  · rw [if_neg hc]; exact h
theorem risS_len (out : List Int) (x : Int) : (risS out x).length ≤ out.length + 1 := by unfold risS; split <;> simp
theorem ris_fold (l out : List Int) (h : Inc out) : Inc (l.foldl risS out) ∧ (l.foldl risS out).length ≤ out.length + l.length := by
  induction l generalizing out with
  | nil => exact ⟨h, by simp⟩
  | cons x l ih =>
    obtain ⟨h1, h2⟩ := ih (risS out x) (risS_inc h x)
    have := risS_len out x
    exact ⟨h1, by rw [List.foldl_cons, List.length_cons]; omega⟩
theorem ris_inc (l : List Int) : Inc (risF l) := (ris_fold _ [] Inc.nil).1
theorem ris_len (l : List Int) : (risF l).length ≤ 60 := by
  have := (ris_fold (l.take 60) [] Inc.nil).2
  rw [List.length_take] at this
  simp only [List.length_nil] at this
  unfold risF
  omega
theorem int_take (l : List Int) {j : Nat} (h : j < l.length) : l.take (j + 1) = l.take j ++ [l.getD j 0] := by
  rw [List.take_add_one]
  simp [List.getD, List.getElem?_eq_getElem h]
set_option maxHeartbeats 4000000 in
set_option maxRecDepth 100000 in
theorem rising_any (A : Option Addr) (n cap : Nat) (l : List Int) (w : World) (ha : RdI w A n cap l) :
    Calls Try.prog 10 #[.slice A n cap] w fun e w' => ∃ C k c, e = .returned (.slice C k c) ∧ RdI w' C k c (risF l) ∧ k ≤ 60 ∧ Below w.heap.size w w' := by
  have hn := RdC.le ha
  unfold maxLen at hn
  have HN := Go.Lib.hid ha.len
  have HP := Go.Lib.hid (fun j (hj : j < n) => show (l.take (j + 1)).foldl risS [] = risS ((l.take j).foldl risS []) (l.getD j 0) by rw [int_take l (by rw [HN.out]; exact hj), List.foldl_append]; rfl)
  have HL := Go.Lib.hid (fun j => show ((l.take j).foldl risS []).length ≤ j by
    have := (ris_fold (l.take j) [] Inc.nil).2
    rw [List.length_take] at this
    simp only [List.length_nil] at this
    omega)
  have HT := Go.Lib.hid (fun j (hj : ¬ (j < n ∧ j < 60)) (h2 : j ≤ n) (h3 : j ≤ 60) => show (l.take j).foldl risS [] = risF l by
    unfold risF
    by_cases h : j = 60
    · rw [h]
    · rw [List.take_of_length_le (by rw [HN.out]; omega), List.take_of_length_le (by rw [HN.out]; omega)])
  have al : Below w.heap.size w (w.alloc (.cells #[] 3)) := (Below.refl _ _).alloc (Nat.le_refl _) _
  have o0 : OwnC 1 (w.alloc (.cells #[] 3)) w.heap.size 3 (some ⟨w.heap.size, 0, none⟩) 0 0 [] := OwnC.empty w 3 (Nat.le_refl _)
  go_enter Try.func10, Try.ntmps10
  go_wp2_with fail
  go_loopw [3, 4] (fun ov iv wr => ∃ (C : Option Addr) (k c j : Nat), ov = .slice C k c ∧ iv = .int .i64 (j : Int) ∧ j ≤ n ∧ j ≤ 60 ∧ OwnC 1 wr w.heap.size 3 C k c (nums ((l.take j).foldl risS [])) ∧ Below w.heap.size w wr) (fun _ iv _ => n - (intOf iv).toNat)
  case atStart => exact ⟨_, 0, 0, 0, rfl, rfl, Nat.zero_le _, by omega, o0, al⟩
  case round =>
    obtain ⟨C, k, c, j, rfl, rfl, hjn, hj60, ho, hB⟩ := hrel
    clear o0 al
    go_upto_region 3 with (fail)
    go_cut [13] (fun v wx => v = .bool (decide (j < n ∧ j < 60)) ∧ wr = wx)
    case first =>
      by_cases h1 : j < n
      · have i1 : (j : Int) < n := by omega
        by_cases h2 : j < 60
        · have i2 : (j : Int) < 60 := by omega
          go_wp2_with fail
          go_meet
          exact ⟨by simp [h1, h2], rfl⟩
        · have i2 : ¬ (j : Int) < 60 := by omega
          go_wp2_with fail
          go_meet
          exact ⟨by simp [h1, h2], rfl⟩
      · have i1 : ¬ (j : Int) < n := by omega
        go_wp2_with fail
        go_meet
        exact ⟨by simp [h1], rfl⟩
    obtain ⟨rfl, rfl⟩ := hcut
    have hlen := HL.out j
    have hk := OwnC.len ho
    rw [nums_length, Nat.mul_one] at hk
    have hk60 : k ≤ 60 := by omega
    by_cases hc : j < n ∧ j < 60
    · rw [show decide (j < n ∧ j < 60) = true by simpa using hc]
      obtain ⟨h1, h2⟩ := hc
      have i1 : (j : Int) < n := by omega
      obtain ⟨ba, oa, rfl, _, ka⟩ := ha.at_ (by omega)
      have ya := ka j h1
      have hst := HP.out j h1
      have HS := Go.Lib.hid hst
      clear ka hst hlen
      generalize l.getD j 0 = x at *
      generalize (l.take j).foldl risS [] = O at *
      have HK := Go.Lib.hid hk
      clear hk
      go_upto_region 5 with (fail)
      go_cut [31] (fun v wx => v = .bool (decide (O.length = 0 ∨ O.getD (O.length - 1) 0 < x)) ∧ ∃ q, wx = wr.drewN q)
      case first =>
        have y1 := bcell hB ya
        by_cases hk0 : k = 0
        · have i5 : ((k : Int) == 0) = true := by rw [beq_iff_eq]; omega
          have hl : decide (O.length = 0 ∨ O.getD (O.length - 1) 0 < x) = true := decide_eq_true (.inl (by rw [HK.out]; exact hk0))
          have HLF := Go.Lib.hid hl
          clear hl
          go_quiet (fail)
          go_wp2_with fail
          go_meet
          exact ⟨by rw [HLF.out], _, rfl⟩
        · have i5 : ((k : Int) == 0) = false := by rw [beq_eq_false_iff_ne]; omega
          have n1 : IntKind.i64.wrap ((k : Int) - 1) = ((k - 1 : Nat) : Int) := by rw [IntWalk.i64_in _ (by omega)]; omega
          have rO : RdI wr C k c O := OwnC.rd ho
          obtain ⟨bc, oc, rfl, _, kc⟩ := rO.at_ (by omega)
          have y2 := kc (k - 1) (by omega)
          have j2 : ((k - 1 : Nat) : Int) < k := by omega
          clear kc
          by_cases hz : O.getD (k - 1) 0 < x
          · have hl : decide (O.length = 0 ∨ O.getD (O.length - 1) 0 < x) = true := by rw [HK.out]; exact decide_eq_true (.inr hz)
            have HLF := Go.Lib.hid hl
            clear hl
            generalize O.getD (k - 1) 0 = z at *
            generalize k - 1 = t at *
            go_quiet (fail)
            go_wp2_with fail
            go_meet
            exact ⟨by rw [HLF.out], _, rfl⟩
          · have hl : decide (O.length = 0 ∨ O.getD (O.length - 1) 0 < x) = false := by rw [HK.out]; exact decide_eq_false (fun h => h.elim hk0 hz)
            have HLF := Go.Lib.hid hl
            clear hl
            generalize O.getD (k - 1) 0 = z at *
            generalize k - 1 = t at *
            go_quiet (fail)
            go_wp2_with fail
            go_meet
            exact ⟨by rw [HLF.out], _, rfl⟩
      case rest =>
        obtain ⟨rfl, q, rfl⟩ := hcut
        have hB2 := bel_dn hB q
        have o2 := ho.below (w' := wr.drewN q) (bel_dn (Below.refl _ _) q)
        have y1 := bcell hB2 ya
        clear ho hB
        generalize wr.drewN q = w2 at *
        have HS := Go.Lib.hid (HS.out.trans (show risS O x = if O.length = 0 ∨ O.getD (O.length - 1) 0 < x then O ++ [x] else O from rfl))
        cases hc : decide (O.length = 0 ∨ O.getD (O.length - 1) 0 < x) with
        | true =>
          rw [if_pos (of_decide_eq_true hc)] at HS
          clear hc
          have al := (Below.refl w2.heap.size w2).alloc (Nat.le_refl _) (.cells #[.int .i64 x] 3)
          have d1 : RdC 1 (w2.alloc (.cells #[.int .i64 x] 3)) (some ⟨w2.heap.size, 0, none⟩) 1 1 (nums [x]) := RdC.new w2 3 (nums [x]) rfl (by decide)
          have o3 := o2.below al
          go_wp2_with (at_builtin; refine wpList_append_cells rfl (.tmp 32) (.tmp 37) 22 rfl 3 (.int .i64 0) 8 Try.underlying22 int_info rfl (by decide) rfl rfl o3 d1 (nums_one _) (by unfold maxLen; omega) (by omega) (Nat.le_trans hB2.size al.size) ?_; intro A8 c8 w8 o8 g8 _; have b8 := below_grown_own o3 (hB2.trans (al.mono hB2.size)) g8 (Nat.le_trans hB2.size al.size))
          go_roundw
          case rel => exact ⟨A8, k + 1, c8, j + 1, rfl, by go_num, by omega, by omega, by rw [HS.out, nums_append]; exact o8, b8⟩
          case measure => simp [intOf]; omega
        | false =>
          rw [if_neg (of_decide_eq_false hc)] at HS
          clear hc
          go_wp2_with fail
          go_roundw
          case rel => exact ⟨C, k, c, j + 1, rfl, by go_num, by omega, by omega, by rw [HS.out]; exact o2, hB2⟩
          case measure => simp [intOf]; omega
    · rw [show decide (j < n ∧ j < 60) = false by simpa using hc]
      have e := HT.out j hc hjn hj60
      rw [e] at ho
      clear e hc
      go_wp2_with fail
      go_ret
      exact ⟨C, k, c, rfl, OwnC.rd ho, hk60, hB⟩

end Go.Proofs.Ytppdljkfhoekpaa.PoWalk

/-
  Walk of a statement of layer 13: PostingTwo.
-/
namespace Go.Proofs.Ytppdljkfhoekpaa.PoWalk
open Go.RowKit Go.Proofs.Ytppdljkfhoekpaa.MemRow Go.Proofs.Ytppdljkfhoekpaa.Ev Go.Proofs.Ytppdljkfhoekpaa.NameMath Go.Proofs.Ytppdljkfhoekpaa.NameWalk Go.Proofs.Ytppdljkfhoekpaa.EvWalk Go.Proofs.Ytppdljkfhoekpaa.NumMem Go.Proofs.Ytppdljkfhoekpaa.SmWalk

set_option maxHeartbeats 8000000 in
set_option maxRecDepth 100000 in
theorem two_walk (api : TwoApi) (A B : Option Addr) (n m ca cb : Nat) (a b : List Int) (w0 : World) (ha : RdI w0 A n ca a) (hb : RdI w0 B m cb b) :
    Calls Try.prog 3 #[.slice A n ca, .slice B m cb] w0 fun e w' => e = .returned (.bool true) ∧ Below w0.heap.size w0 w' := by
  go_enter Try.func3, Try.ntmps3
  go_wp2_with fail
  refine (shown13_any api w0).mono ?_
  rintro e w1 ⟨rfl, B1⟩
  have ha := rdi_below ha B1
  have hb := rdi_below hb B1
  go_wp2_with fail
  refine (rising_any _ _ _ _ _ ha).mono ?_
  rintro e w10 ⟨C10, k10, c10, rfl, ra, la, b10⟩
  have B10 := below_chain B1 b10
  have ha := rdi_below ha b10
  have hb := rdi_below hb b10
  clear B1 b10
  have ia := ris_inc a
  generalize risF a = a at *
  clear ha
  have ja : k10 ≤ 1000 := by omega
  go_wp2_with fail
  refine (rising_any _ _ _ _ _ hb).mono ?_
  rintro e w11 ⟨C11, k11, c11, rfl, rb, lb, b11⟩
  have B11 := below_chain B10 b11
  have hb := rdi_below hb b11
  have ra := rdi_below ra b11
  clear B10 b11
  have ib := ris_inc b
  generalize risF b = b at *
  clear hb
  have jb : k11 ≤ 1000 := by omega
  go_wp2_with fail
  refine (api.both ra rb ia ib ja jb).mono ?_
  rintro e w12 ⟨C12, k12, c12, rfl, r12, b12⟩
  have B12 := below_chain B11 b12
  have ra := rdi_below ra b12
  have rb := rdi_below rb b12
  clear B11 b12
  go_wp2_with fail
  refine (refBoth_any _ _ _ _ _ _ _ _ _ ra rb ja).mono ?_
  rintro e w13 ⟨C13, k13, c13, rfl, r13, b13⟩
  have B13 := below_chain B12 b13
  have ra := rdi_below ra b13
  have rb := rdi_below rb b13
  have r12 := rdi_below r12 b13
  clear B12 b13
  go_wp2_with fail
  refine (refInts_any _ _ _ _ _ _ _ _ r12 r13).mono ?_
  rintro e w14 ⟨rfl, q14, rfl⟩
  have b14 := bel_dn (Below.refl w13.heap.size w13) q14
  generalize w13.drewN q14 = w14 at *
  have B14 := below_chain B13 b14
  have ra := rdi_below ra b14
  have rb := rdi_below rb b14
  have r12 := rdi_below r12 b14
  have r13 := rdi_below r13 b14
  clear B13 b14
  clear r12
  clear r13
  go_wp2_with fail
  refine (api.either ra rb ia ib ja jb).mono ?_
  rintro e w15 ⟨C15, k15, c15, rfl, r15, b15⟩
  have B15 := below_chain B14 b15
  have ra := rdi_below ra b15
  have rb := rdi_below rb b15
  clear B14 b15
  go_wp2_with fail
  refine (refEither_any _ _ _ _ _ _ _ _ _ ra rb (by omega) (by omega)).mono ?_
  rintro e w16 ⟨C16, k16, c16, rfl, r16, b16⟩
  rw [refE_eq ia ib] at r16
  have B16 := below_chain B15 b16
  have ra := rdi_below ra b16
  have rb := rdi_below rb b16
  have r15 := rdi_below r15 b16
  clear B15 b16
  go_wp2_with fail
  refine (refInts_any _ _ _ _ _ _ _ _ r15 r16).mono ?_
  rintro e w17 ⟨rfl, q17, rfl⟩
  have b17 := bel_dn (Below.refl w16.heap.size w16) q17
  generalize w16.drewN q17 = w17 at *
  have B17 := below_chain B16 b17
  have ra := rdi_below ra b17
  have rb := rdi_below rb b17
  have r15 := rdi_below r15 b17
  have r16 := rdi_below r16 b17
  clear B16 b17
  clear r15
  clear r16
  go_wp2_with fail
  refine (api.both rb ra ib ia jb ja).mono ?_
  rintro e w18 ⟨C18, k18, c18, rfl, r18, b18⟩
  rw [both_comm ia ib] at r18
  have B18 := below_chain B17 b18
  have ra := rdi_below ra b18
  have rb := rdi_below rb b18
  clear B17 b18
  go_wp2_with fail
  refine (api.both ra rb ia ib ja jb).mono ?_
  rintro e w19 ⟨C19, k19, c19, rfl, r19, b19⟩
  have B19 := below_chain B18 b19
  have ra := rdi_below ra b19
  have rb := rdi_below rb b19
  have r18 := rdi_below r18 b19
  clear B18 b19
  go_wp2_with fail
  refine (refInts_any _ _ _ _ _ _ _ _ r18 r19).mono ?_
  rintro e w20 ⟨rfl, q20, rfl⟩
  have b20 := bel_dn (Below.refl w19.heap.size w19) q20
  generalize w19.drewN q20 = w20 at *
  have B20 := below_chain B19 b20
  have ra := rdi_below ra b20
  have rb := rdi_below rb b20
  have r18 := rdi_below r18 b20
  have r19 := rdi_below r19 b20
  clear B19 b20
  clear r18
  clear r19
  go_wp2_with fail
  refine (api.either rb ra ib ia jb ja).mono ?_
  rintro e w21 ⟨C21, k21, c21, rfl, r21, b21⟩
  rw [either_comm ia ib] at r21
  have B21 := below_chain B20 b21
  have ra := rdi_below ra b21
  have rb := rdi_below rb b21
  clear B20 b21
  go_wp2_with fail
  refine (api.either ra rb ia ib ja jb).mono ?_
  rintro e w22 ⟨C22, k22, c22, rfl, r22, b22⟩
  have B22 := below_chain B21 b22
  have ra := rdi_below ra b22
  have rb := rdi_below rb b22
  have r21 := rdi_below r21 b22
  clear B21 b22
  go_wp2_with fail
  refine (refInts_any _ _ _ _ _ _ _ _ r21 r22).mono ?_
  rintro e w23 ⟨rfl, q23, rfl⟩
  have b23 := bel_dn (Below.refl w22.heap.size w22) q23
  generalize w22.drewN q23 = w23 at *
  have B23 := below_chain B22 b23
  have ra := rdi_below ra b23
  have rb := rdi_below rb b23
  have r21 := rdi_below r21 b23
  have r22 := rdi_below r22 b23
  clear B22 b23
  clear r21
  clear r22
  go_wp2_with fail
  refine (api.both ra ra ia ia ja ja).mono ?_
  rintro e w24 ⟨C24, k24, c24, rfl, r24, b24⟩
  rw [both_self ia] at r24
  have B24 := below_chain B23 b24
  have ra := rdi_below ra b24
  have rb := rdi_below rb b24
  clear B23 b24
  go_wp2_with fail
  refine (refInts_any _ _ _ _ _ _ _ _ r24 ra).mono ?_
  rintro e w25 ⟨rfl, q25, rfl⟩
  have b25 := bel_dn (Below.refl w24.heap.size w24) q25
  generalize w24.drewN q25 = w25 at *
  have B25 := below_chain B24 b25
  have ra := rdi_below ra b25
  have rb := rdi_below rb b25
  have r24 := rdi_below r24 b25
  clear B24 b25
  clear r24
  go_wp2_with fail
  refine (api.both ra rb ia ib ja jb).mono ?_
  rintro e w26 ⟨C26, k26, c26, rfl, r26, b26⟩
  have B26 := below_chain B25 b26
  have ra := rdi_below ra b26
  have rb := rdi_below rb b26
  clear B25 b26
  go_wp2_with fail
  refine (api.either ra rb ia ib ja jb).mono ?_
  rintro e w27 ⟨C27, k27, c27, rfl, r27, b27⟩
  have B27 := below_chain B26 b27
  have ra := rdi_below ra b27
  have rb := rdi_below rb b27
  have r26 := rdi_below r26 b27
  clear B26 b27
  have hsum := both_either ia ib
  rw [r26.len, r27.len, ra.len, rb.len] at hsum
  have n1 : IntKind.i64.wrap ((k26 : Int) + (k27 : Int)) = (k10 : Int) + (k11 : Int) := by rw [IntWalk.i64_in _ (by omega)]; omega
  have n2 : IntKind.i64.wrap ((k10 : Int) + (k11 : Int)) = (k10 : Int) + (k11 : Int) := IntWalk.i64_in _ (by omega)
  go_wp2_with fail
  go_ret
  exact ⟨by simp, B27⟩

end Go.Proofs.Ytppdljkfhoekpaa.PoWalk

/-
  Walk of a statement of layer 13: PostingThree.
-/
namespace Go.Proofs.Ytppdljkfhoekpaa.PoWalk
open Go.RowKit Go.Proofs.Ytppdljkfhoekpaa.MemRow Go.Proofs.Ytppdljkfhoekpaa.Ev Go.Proofs.Ytppdljkfhoekpaa.NameMath Go.Proofs.Ytppdljkfhoekpaa.NameWalk Go.Proofs.Ytppdljkfhoekpaa.EvWalk Go.Proofs.Ytppdljkfhoekpaa.NumMem Go.Proofs.Ytppdljkfhoekpaa.SmWalk

set_option maxHeartbeats 8000000 in
set_option maxRecDepth 100000 in
theorem three_walk (api : TwoApi) (A B C : Option Addr) (n m k ca cb cc : Nat) (a b c : List Int) (w0 : World) (ha : RdI w0 A n ca a) (hb : RdI w0 B m cb b) (hc : RdI w0 C k cc c) :
    Calls Try.prog 6 #[.slice A n ca, .slice B m cb, .slice C k cc] w0 fun e w' => e = .returned (.bool true) ∧ Below w0.heap.size w0 w' := by
  go_enter Try.func6, Try.ntmps6
  go_wp2_with fail
  refine (shown13_any api w0).mono ?_
  rintro e w1 ⟨rfl, B1⟩
  have ha := rdi_below ha B1
  have hb := rdi_below hb B1
  have hc := rdi_below hc B1
  go_wp2_with fail
  refine (rising_any _ _ _ _ _ ha).mono ?_
  rintro e w10 ⟨C10, k10, c10, rfl, ra, la, b10⟩
  have B10 := below_chain B1 b10
  have ha := rdi_below ha b10
  have hb := rdi_below hb b10
  have hc := rdi_below hc b10
  clear B1 b10
  have ia := ris_inc a
  generalize risF a = a at *
  clear ha
  have ja : k10 ≤ 1000 := by omega
  go_wp2_with fail
  refine (rising_any _ _ _ _ _ hb).mono ?_
  rintro e w11 ⟨C11, k11, c11, rfl, rb, lb, b11⟩
  have B11 := below_chain B10 b11
  have hb := rdi_below hb b11
  have hc := rdi_below hc b11
  have ra := rdi_below ra b11
  clear B10 b11
  have ib := ris_inc b
  generalize risF b = b at *
  clear hb
  have jb : k11 ≤ 1000 := by omega
  go_wp2_with fail
  refine (rising_any _ _ _ _ _ hc).mono ?_
  rintro e w12 ⟨C12, k12, c12, rfl, rc, lc, b12⟩
  have B12 := below_chain B11 b12
  have hc := rdi_below hc b12
  have ra := rdi_below ra b12
  have rb := rdi_below rb b12
  clear B11 b12
  have ic := ris_inc c
  generalize risF c = c at *
  clear hc
  have jc : k12 ≤ 1000 := by omega
  have ea := ra.len
  have eb := rb.len
  have ec := rc.len
  go_wp2_with fail
  refine (api.both ra rb ia ib ja jb).mono ?_
  rintro e w13 ⟨C13, k13, c13, rfl, r13, b13⟩
  have B13 := below_chain B12 b13
  have ra := rdi_below ra b13
  have rb := rdi_below rb b13
  have rc := rdi_below rc b13
  clear B12 b13
  have j13 : k13 ≤ 1000 := by have := both_len a b; rw [r13.len] at this; omega
  go_wp2_with fail
  refine (api.both r13 rc (both_inc ia b) ic j13 jc).mono ?_
  rintro e w14 ⟨C14, k14, c14, rfl, r14, b14⟩
  have B14 := below_chain B13 b14
  have ra := rdi_below ra b14
  have rb := rdi_below rb b14
  have rc := rdi_below rc b14
  have r13 := rdi_below r13 b14
  clear B13 b14
  go_wp2_with fail
  refine (api.both rb rc ib ic jb jc).mono ?_
  rintro e w15 ⟨C15, k15, c15, rfl, r15, b15⟩
  have B15 := below_chain B14 b15
  have ra := rdi_below ra b15
  have rb := rdi_below rb b15
  have rc := rdi_below rc b15
  have r13 := rdi_below r13 b15
  have r14 := rdi_below r14 b15
  clear B14 b15
  have j15 : k15 ≤ 1000 := by have := both_len b c; rw [r15.len] at this; omega
  go_wp2_with fail
  refine (api.both ra r15 ia (both_inc ib c) ja j15).mono ?_
  rintro e w16 ⟨C16, k16, c16, rfl, r16, b16⟩
  rw [← both_assoc ia] at r16
  have B16 := below_chain B15 b16
  have ra := rdi_below ra b16
  have rb := rdi_below rb b16
  have rc := rdi_below rc b16
  have r13 := rdi_below r13 b16
  have r14 := rdi_below r14 b16
  have r15 := rdi_below r15 b16
  clear B15 b16
  go_wp2_with fail
  refine (refInts_any _ _ _ _ _ _ _ _ r14 r16).mono ?_
  rintro e w17 ⟨rfl, q17, rfl⟩
  have b17 := bel_dn (Below.refl w16.heap.size w16) q17
  generalize w16.drewN q17 = w17 at *
  have B17 := below_chain B16 b17
  have ra := rdi_below ra b17
  have rb := rdi_below rb b17
  have rc := rdi_below rc b17
  have r13 := rdi_below r13 b17
  have r14 := rdi_below r14 b17
  have r15 := rdi_below r15 b17
  have r16 := rdi_below r16 b17
  clear B16 b17
  clear r14
  clear r16
  go_wp2_with fail
  refine (api.either ra rb ia ib ja jb).mono ?_
  rintro e w18 ⟨C18, k18, c18, rfl, r18, b18⟩
  have B18 := below_chain B17 b18
  have ra := rdi_below ra b18
  have rb := rdi_below rb b18
  have rc := rdi_below rc b18
  have r13 := rdi_below r13 b18
  have r15 := rdi_below r15 b18
  clear B17 b18
  have j18 : k18 ≤ 1000 := by have := either_len ia ib; rw [r18.len] at this; omega
  go_wp2_with fail
  refine (api.either r18 rc (either_inc a ib) ic j18 jc).mono ?_
  rintro e w19 ⟨C19, k19, c19, rfl, r19, b19⟩
  have B19 := below_chain B18 b19
  have ra := rdi_below ra b19
  have rb := rdi_below rb b19
  have rc := rdi_below rc b19
  have r13 := rdi_below r13 b19
  have r15 := rdi_below r15 b19
  have r18 := rdi_below r18 b19
  clear B18 b19
  go_wp2_with fail
  refine (api.either rb rc ib ic jb jc).mono ?_
  rintro e w20 ⟨C20, k20, c20, rfl, r20, b20⟩
  have B20 := below_chain B19 b20
  have ra := rdi_below ra b20
  have rb := rdi_below rb b20
  have rc := rdi_below rc b20
  have r13 := rdi_below r13 b20
  have r15 := rdi_below r15 b20
  have r18 := rdi_below r18 b20
  have r19 := rdi_below r19 b20
  clear B19 b20
  have j20 : k20 ≤ 1000 := by have := either_len ib ic; rw [r20.len] at this; omega
  go_wp2_with fail
  refine (api.either ra r20 ia (either_inc b ic) ja j20).mono ?_
  rintro e w21 ⟨C21, k21, c21, rfl, r21, b21⟩
  rw [← either_assoc ic] at r21
  have B21 := below_chain B20 b21
  have ra := rdi_below ra b21
  have rb := rdi_below rb b21
  have rc := rdi_below rc b21
  have r13 := rdi_below r13 b21
  have r15 := rdi_below r15 b21
  have r18 := rdi_below r18 b21
  have r19 := rdi_below r19 b21
  have r20 := rdi_below r20 b21
  clear B20 b21
  go_wp2_with fail
  refine (refInts_any _ _ _ _ _ _ _ _ r19 r21).mono ?_
  rintro e w22 ⟨rfl, q22, rfl⟩
  have b22 := bel_dn (Below.refl w21.heap.size w21) q22
  generalize w21.drewN q22 = w22 at *
  have B22 := below_chain B21 b22
  have ra := rdi_below ra b22
  have rb := rdi_below rb b22
  have rc := rdi_below rc b22
  have r13 := rdi_below r13 b22
  have r15 := rdi_below r15 b22
  have r18 := rdi_below r18 b22
  have r19 := rdi_below r19 b22
  have r20 := rdi_below r20 b22
  have r21 := rdi_below r21 b22
  clear B21 b22
  clear r19
  clear r21
  go_wp2_with fail
  refine (api.either rb rc ib ic jb jc).mono ?_
  rintro e w23 ⟨C23, k23, c23, rfl, r23, b23⟩
  have B23 := below_chain B22 b23
  have ra := rdi_below ra b23
  have rb := rdi_below rb b23
  have rc := rdi_below rc b23
  have r13 := rdi_below r13 b23
  have r15 := rdi_below r15 b23
  have r18 := rdi_below r18 b23
  have r20 := rdi_below r20 b23
  clear B22 b23
  have j23 : k23 ≤ 1000 := by have := either_len ib ic; rw [r23.len] at this; omega
  go_wp2_with fail
  refine (api.both ra r23 ia (either_inc b ic) ja j23).mono ?_
  rintro e w24 ⟨C24, k24, c24, rfl, r24, b24⟩
  rw [both_dist ia] at r24
  have B24 := below_chain B23 b24
  have ra := rdi_below ra b24
  have rb := rdi_below rb b24
  have rc := rdi_below rc b24
  have r13 := rdi_below r13 b24
  have r15 := rdi_below r15 b24
  have r18 := rdi_below r18 b24
  have r20 := rdi_below r20 b24
  have r23 := rdi_below r23 b24
  clear B23 b24
  go_wp2_with fail
  refine (api.both ra rb ia ib ja jb).mono ?_
  rintro e w25 ⟨C25, k25, c25, rfl, r25, b25⟩
  have B25 := below_chain B24 b25
  have ra := rdi_below ra b25
  have rb := rdi_below rb b25
  have rc := rdi_below rc b25
  have r13 := rdi_below r13 b25
  have r15 := rdi_below r15 b25
  have r18 := rdi_below r18 b25
  have r20 := rdi_below r20 b25
  have r23 := rdi_below r23 b25
  have r24 := rdi_below r24 b25
  clear B24 b25
  have j25 : k25 ≤ 1000 := by have := both_len a b; rw [r25.len] at this; omega
  go_wp2_with fail
  refine (api.both ra rc ia ic ja jc).mono ?_
  rintro e w26 ⟨C26, k26, c26, rfl, r26, b26⟩
  have B26 := below_chain B25 b26
  have ra := rdi_below ra b26
  have rb := rdi_below rb b26
  have rc := rdi_below rc b26
  have r13 := rdi_below r13 b26
  have r15 := rdi_below r15 b26
  have r18 := rdi_below r18 b26
  have r20 := rdi_below r20 b26
  have r23 := rdi_below r23 b26
  have r24 := rdi_below r24 b26
  have r25 := rdi_below r25 b26
  clear B25 b26
  have j26 : k26 ≤ 1000 := by have := both_len a c; rw [r26.len] at this; omega
  go_wp2_with fail
  refine (api.either r25 r26 (both_inc ia b) (both_inc ia c) j25 j26).mono ?_
  rintro e w27 ⟨C27, k27, c27, rfl, r27, b27⟩
  have B27 := below_chain B26 b27
  have ra := rdi_below ra b27
  have rb := rdi_below rb b27
  have rc := rdi_below rc b27
  have r13 := rdi_below r13 b27
  have r15 := rdi_below r15 b27
  have r18 := rdi_below r18 b27
  have r20 := rdi_below r20 b27
  have r23 := rdi_below r23 b27
  have r24 := rdi_below r24 b27
  have r25 := rdi_below r25 b27
  have r26 := rdi_below r26 b27
  clear B26 b27
  go_wp2_with fail
  refine (refInts_any _ _ _ _ _ _ _ _ r24 r27).mono ?_
  rintro e w28 ⟨rfl, q28, rfl⟩
  have b28 := bel_dn (Below.refl w27.heap.size w27) q28
  generalize w27.drewN q28 = w28 at *
  have B28 := below_chain B27 b28
  have ra := rdi_below ra b28
  have rb := rdi_below rb b28
  have rc := rdi_below rc b28
  have r13 := rdi_below r13 b28
  have r15 := rdi_below r15 b28
  have r18 := rdi_below r18 b28
  have r20 := rdi_below r20 b28
  have r23 := rdi_below r23 b28
  have r24 := rdi_below r24 b28
  have r25 := rdi_below r25 b28
  have r26 := rdi_below r26 b28
  have r27 := rdi_below r27 b28
  clear B27 b28
  clear r24
  clear r27
  go_wp2_with fail
  refine (api.both ra rb ia ib ja jb).mono ?_
  rintro e w29 ⟨C29, k29, c29, rfl, r29, b29⟩
  have B29 := below_chain B28 b29
  have ra := rdi_below ra b29
  have rb := rdi_below rb b29
  have rc := rdi_below rc b29
  have r13 := rdi_below r13 b29
  have r15 := rdi_below r15 b29
  have r18 := rdi_below r18 b29
  have r20 := rdi_below r20 b29
  have r23 := rdi_below r23 b29
  have r25 := rdi_below r25 b29
  have r26 := rdi_below r26 b29
  clear B28 b29
  have j29 : k29 ≤ 1000 := by have := both_len a b; rw [r29.len] at this; omega
  go_wp2_with fail
  refine (api.either ra r29 ia (both_inc ia b) ja j29).mono ?_
  rintro e w30 ⟨C30, k30, c30, rfl, r30, b30⟩
  rw [either_abs ia] at r30
  have B30 := below_chain B29 b30
  have ra := rdi_below ra b30
  have rb := rdi_below rb b30
  have rc := rdi_below rc b30
  have r13 := rdi_below r13 b30
  have r15 := rdi_below r15 b30
  have r18 := rdi_below r18 b30
  have r20 := rdi_below r20 b30
  have r23 := rdi_below r23 b30
  have r25 := rdi_below r25 b30
  have r26 := rdi_below r26 b30
  have r29 := rdi_below r29 b30
  clear B29 b30
  go_wp2_with fail
  refine (refInts_any _ _ _ _ _ _ _ _ r30 ra).mono ?_
  rintro e w31 ⟨rfl, q31, rfl⟩
  have b31 := bel_dn (Below.refl w30.heap.size w30) q31
  generalize w30.drewN q31 = w31 at *
  have B31 := below_chain B30 b31
  have ra := rdi_below ra b31
  have rb := rdi_below rb b31
  have rc := rdi_below rc b31
  have r13 := rdi_below r13 b31
  have r15 := rdi_below r15 b31
  have r18 := rdi_below r18 b31
  have r20 := rdi_below r20 b31
  have r23 := rdi_below r23 b31
  have r25 := rdi_below r25 b31
  have r26 := rdi_below r26 b31
  have r29 := rdi_below r29 b31
  have r30 := rdi_below r30 b31
  clear B30 b31
  clear r30
  go_wp2_with fail
  go_ret
  exact ⟨by simp, B31⟩

end Go.Proofs.Ytppdljkfhoekpaa.PoWalk

/-
  Layer 6's readings: clauses and queries as data; arguments that are ones.
-/
namespace Go.Proofs.Ytppdljkfhoekpaa.Qu
open Go.RowKit Go.ChangeShapes Go.WideShapes Go.Joins Go.Deep Go.Proofs.Ytppdljkfhoekpaa.MemRow Go.Proofs.Ytppdljkfhoekpaa.Ev Go.Proofs.Ytppdljkfhoekpaa.Open

/-- A clause as data. -/
structure Cl where
  tags : List ByteArray
  types : List ByteArray
def noCl : Cl := ⟨[], []⟩

/-- The two cells at an address read as a clause. -/
def ClCells (w : World) (b o : Nat) (c : Cl) : Prop :=
  ∃ T nT cT Y nY cY, w.cell? ⟨b, o, none⟩ = some (.slice T nT cT) ∧ w.cell? ⟨b, o + 1, none⟩ = some (.slice Y nY cY) ∧ RdS w T nT cT c.tags ∧ RdS w Y nY cY c.types
theorem ClCells.below {w w' : World} {b o : Nat} {c : Cl} (h : ClCells w b o c) (hb : Below w.heap.size w w') : ClCells w' b o c := by
  obtain ⟨T, nT, cT, Y, nY, cY, h0, h1, h2, h3⟩ := h
  exact ⟨T, nT, cT, Y, nY, cY, bcell hb h0, bcell hb h1, RdC.below h2 hb, RdC.below h3 hb⟩

/-- A slice that reads as clauses. -/
def RdQ (w : World) (A : Option Addr) (n cap : Nat) (q : List Cl) : Prop :=
  q.length = n ∧ n ≤ cap ∧ cap ≤ maxLen ∧ (0 < n → ∃ b o, A = some ⟨b, o, none⟩ ∧ b < w.heap.size ∧ ∀ i, i < n → ClCells w b (o + i * 2) (q.getD i noCl))
theorem RdQ.nil (w : World) : RdQ w none 0 0 [] := ⟨rfl, Nat.le_refl _, Nat.zero_le _, fun h => absurd h (by omega)⟩
theorem RdQ.empty (w : World) (A : Option Addr) {cap : Nat} (h : cap ≤ maxLen) : RdQ w A 0 cap [] := ⟨rfl, Nat.zero_le _, h, fun h => absurd h (by omega)⟩
theorem RdQ.len {w : World} {A : Option Addr} {n cap : Nat} {q : List Cl} (h : RdQ w A n cap q) : q.length = n := h.1
theorem RdQ.le {w : World} {A : Option Addr} {n cap : Nat} {q : List Cl} (h : RdQ w A n cap q) : n ≤ maxLen := Nat.le_trans h.2.1 h.2.2.1
theorem RdQ.at_ {w : World} {A : Option Addr} {n cap : Nat} {q : List Cl} (h : RdQ w A n cap q) (hn : 0 < n) : ∃ b o, A = some ⟨b, o, none⟩ ∧ b < w.heap.size ∧ ∀ i, i < n → ClCells w b (o + i * 2) (q.getD i noCl) := h.2.2.2 hn
theorem RdQ.below {w w' : World} {A : Option Addr} {n cap : Nat} {q : List Cl} (h : RdQ w A n cap q) (hb : Below w.heap.size w w') : RdQ w' A n cap q :=
  ⟨h.1, h.2.1, h.2.2.1, fun hn => by
    obtain ⟨b, o, hA, hlt, hc⟩ := h.2.2.2 hn
    exact ⟨b, o, hA, Nat.lt_of_lt_of_le hlt hb.size, fun i hi => (hc i hi).below hb⟩⟩

/-- The value v is the clause c. -/
def IsCl (w : World) (v : Value) (c : Cl) : Prop := ∃ T nT cT Y nY cY, v = .agg #[.slice T nT cT, .slice Y nY cY] ∧ RdS w T nT cT c.tags ∧ RdS w Y nY cY c.types
theorem IsCl.below {w w' : World} {v : Value} {c : Cl} (h : IsCl w v c) (hb : Below w.heap.size w w') : IsCl w' v c := by
  obtain ⟨T, nT, cT, Y, nY, cY, rfl, h1, h2⟩ := h
  exact ⟨T, nT, cT, Y, nY, cY, rfl, RdC.below h1 hb, RdC.below h2 hb⟩
/-- The value v is the query q. -/
def IsQ (w : World) (v : Value) (q : List Cl) : Prop := ∃ A n ca, v = .agg #[.slice A n ca] ∧ RdQ w A n ca q
theorem IsQ.below {w w' : World} {v : Value} {q : List Cl} (h : IsQ w v q) (hb : Below w.heap.size w w') : IsQ w' v q := by
  obtain ⟨A, n, ca, rfl, h1⟩ := h
  exact ⟨A, n, ca, rfl, h1.below hb⟩

/-- All of it is of a size that a machine has. -/
structure ClOk (c : Cl) : Prop where
  tags : ∀ x ∈ c.tags, x.size ≤ maxLen
  types : ∀ x ∈ c.types, x.size ≤ maxLen
def QOk (q : List Cl) : Prop := ∀ c ∈ q, ClOk c

section
variable {H : Type} {enc : TypeId × Value → H} {P : Program} {W : World} {base : Nat} {t e : TypeId} {v : Value} {d : DataW H} {p : List MemPlace}
/-- A struct of one field of one cell, opened. -/
theorem open_agg1 {w : World} {b : Nat} {spare : Nat → Bool} {held : Bool} {r : Reach} {b0 : Nat} {f0 : Field} (hs : P.underlying t = some (.struct #[f0])) (hone : oneCellFields P #[f0] = true) (hC : P.cellsOf t = 1)
    (hv : Value.okWide P w r b0 t v) (h : DataW.Trod enc P w b spare held t v d p) :
    ∃ (v0 : Value) (y0 : DataW H × List MemPlace) (n : Nat), v = .agg #[v0] ∧ DataW.trod enc P w b spare held n f0.type [v0] = some y0 := by
  obtain ⟨cs, rfl, hsz⟩ := okWide_struct hs hv
  have h1 : cs.size = 1 := hsz.trans hC
  obtain ⟨c0, rfl⟩ : ∃ c0, cs = #[c0] := by
    match cs, h1 with
    | ⟨[c0]⟩, _ => exact ⟨c0, rfl⟩
  obtain ⟨fuel, hf⟩ := h
  obtain ⟨y0, n, _, _, h0⟩ := trod_struct1 hs hf
  obtain ⟨o0, k0⟩ := hone_of hone 0 f0 rfl
  exact ⟨c0, y0, n, rfl, by simpa [Value.cells, o0, k0] using h0⟩

/-- A slice of clauses that came in. -/
theorem tr_clauses {f0 f1 : Field} {tS tU : TypeId} {fuel : Nat} {y : DataW H × List MemPlace} (ht : P.underlying t = some (.slice e)) (he : P.underlying e = some (.struct #[f0, f1]))
    (ce : P.cellsOf e = 2) (o0 : f0.offset = 0) (o1 : f1.offset = 1) (c0 : P.cellsOf f0.type = 1) (c1 : P.cellsOf f1.type = 1) (t0 : P.underlying f0.type = some (.slice tS)) (t1 : P.underlying f1.type = some (.slice tU)) (hS : P.underlying tS = some .string) (cS : P.cellsOf tS = 1) (hU : P.underlying tU = some .string) (cU : P.cellsOf tU = 1)
    (h : DataW.trod enc P W 0 (fun _ => true) true fuel t [v] = some y) :
    ∃ A n ca q, v = .slice A n ca ∧ RdQ W A n ca q ∧ QOk q := by
  rcases open_slice_pairs ht he ce o0 o1 c0 c1 h with ⟨hcs, _⟩ | ⟨a, l, c, m, nn, V0, V1, D0, D1, P0, P1, hcs, _, hl, hm, hmm, _, hx⟩
  · simp only [List.cons.injEq, and_true] at hcs
    subst hcs
    exact ⟨none, 0, 0, [], rfl, RdQ.nil W, fun c hc => by simp at hc⟩
  · simp only [List.cons.injEq, and_true] at hcs
    subst hcs
    have hm' : m = c := by simpa using hmm
    subst hm'
    have each : ∀ i, i < m → ∃ f : Cl, ClOk f ∧ ∃ T nT cT Y nY cY, V0 i = .slice T nT cT ∧ V1 i = .slice Y nY cY ∧ RdS W T nT cT f.tags ∧ RdS W Y nY cY f.types := by
      intro i hi
      obtain ⟨_, _, h0, h1⟩ := hx i hi
      obtain ⟨T, nT, cT, ss, e0, r0, w0⟩ := tr_strs t0 hS cS h0
      obtain ⟨Y, nY, cY, us, e1, r1, w1⟩ := tr_strs t1 hU cU h1
      exact ⟨⟨ss, us⟩, ⟨w0, w1⟩, T, nT, cT, Y, nY, cY, e0, e1, r0, r1⟩
    have hex : ∃ F : Nat → Cl, ∀ i, i < m → ClOk (F i) ∧ ∃ T nT cT Y nY cY, V0 i = .slice T nT cT ∧ V1 i = .slice Y nY cY ∧ RdS W T nT cT (F i).tags ∧ RdS W Y nY cY (F i).types :=
      ⟨fun i => if hi : i < m then (each i hi).choose else noCl, fun i hi => by simp only [hi, dif_pos]; exact (each i hi).choose_spec⟩
    obtain ⟨F, hF⟩ := hex
    refine ⟨_, l, m, (List.range l).map F, rfl, ⟨by simp, hl, hm, fun hn => ?_⟩, ?_⟩
    · have hc0 := (hx 0 (by omega)).1
      rw [Nat.zero_mul] at hc0
      have e0 := spot_none hc0
      have hb := World.block_lt_of_cell? W _ hc0
      rw [e0, add_at] at hb
      refine ⟨a.block, a.off, by rw [← e0], hb, fun i hi => ?_⟩
      have hFj : ((List.range l).map F).getD i noCl = F i := by simp [List.getD, hi]
      rw [hFj]
      obtain ⟨_, T, nT, cT, Y, nY, cY, v0, v1, r0, r1⟩ := hF i (by omega)
      obtain ⟨h0, h1, _, _⟩ := hx i (by omega)
      rw [e0, add_at, v0] at h0
      rw [e0, add_at, v1] at h1
      exact ⟨T, nT, cT, Y, nY, cY, h0, h1, r0, r1⟩
    · intro x hxm
      obtain ⟨j, hj, rfl⟩ := List.mem_map.1 hxm
      exact (hF j (by have := List.mem_range.1 hj; omega)).1
end

section
variable {H : Type} {enc : TypeId × Value → H}
set_option maxRecDepth 100000 in
/-- A query that came in. -/
theorem op_query {W : World} {base : Nat} {v : Value} {d : DataW H} {p : List MemPlace} (ho : Value.okWide Try.prog W .any base 30 v) (h : DataW.Trod enc Try.prog W 0 (fun _ => true) true 30 v d p) :
    ∃ q, IsQ W v q ∧ QOk q := by
  obtain ⟨v0, y0, n, rfl, h0⟩ := open_agg1 Try.underlying30 (by kernel_rfl) (by kernel_rfl) ho h
  obtain ⟨A, n, ca, q, rfl, hq, hok⟩ := tr_clauses Try.underlying28 Try.underlying54 (by kernel_rfl) rfl rfl (by kernel_rfl) (by kernel_rfl) Try.underlying39 Try.underlying39 Try.underlying9 (by kernel_rfl) Try.underlying9 (by kernel_rfl) h0
  exact ⟨q, ⟨A, n, ca, rfl, hq⟩, hok⟩
set_option maxRecDepth 100000 in
/-- A clause that came in. -/
theorem op_clause {W : World} {base : Nat} {v : Value} {d : DataW H} {p : List MemPlace} (ho : Value.okWide Try.prog W .any base 54 v) (h : DataW.Trod enc Try.prog W 0 (fun _ => true) true 54 v d p) :
    ∃ c, IsCl W v c ∧ ClOk c := by
  obtain ⟨v0, v1, y0, y1, n, rfl, _, _, h0, h1⟩ := open_agg2 Try.underlying54 (by kernel_rfl) (by kernel_rfl) ho h
  obtain ⟨T, nT, cT, ss, rfl, r0, w0⟩ := tr_strs Try.underlying39 Try.underlying9 (by kernel_rfl) h0
  obtain ⟨Y, nY, cY, us, rfl, r1, w1⟩ := tr_strs Try.underlying39 Try.underlying9 (by kernel_rfl) h1
  exact ⟨⟨ss, us⟩, ⟨T, nT, cT, Y, nY, cY, rfl, r0, r1⟩, w0, w1⟩
end

end Go.Proofs.Ytppdljkfhoekpaa.Qu

/-
  Contracts of the document's answers of layer 6: clause, Match.
-/
namespace Go.Proofs.Ytppdljkfhoekpaa.QuWalk
open Go.RowKit Go.Proofs.Ytppdljkfhoekpaa.MemRow Go.Proofs.Ytppdljkfhoekpaa.Ev Go.Proofs.Ytppdljkfhoekpaa.NameMath Go.Proofs.Ytppdljkfhoekpaa.NameWalk Go.Proofs.Ytppdljkfhoekpaa.EvWalk Go.Proofs.Ytppdljkfhoekpaa.Qu

/-- Whether a clause is true of an event. -/
def clauseB (c : Cl) (e : Ev) : Bool := c.tags.all (fun x => hasB e.tags x) && (decide (c.types = []) || hasB c.types e.t)
/-- Whether an event is asked for. -/
def matchQ (q : List Cl) (e : Ev) : Bool := q.any fun c => clauseB c e

/-- A block that holds a clause, and one that holds a query. -/
def ClAt (w : World) (g : Nat) (v0 v1 : Value) : Prop := w.heap[g]? = some (.cells #[v0, v1] 54 (0, 0))
theorem ClAt.new (w : World) (v0 v1 : Value) : ClAt (w.alloc (.cells #[v0, v1] 54)) w.heap.size v0 v1 := heap_alloc_new w _
theorem ClAt.lt {w : World} {g : Nat} {v0 v1 : Value} (h : ClAt w g v0 v1) : g < w.heap.size := (Array.getElem?_eq_some_iff.1 h).1
theorem ClAt.below {w w' : World} {g : Nat} {v0 v1 : Value} (h : ClAt w g v0 v1) (hb : Below w.heap.size w w') : ClAt w' g v0 v1 := (hb.block g h.lt).trans h
theorem ClAt.c0 {w : World} {g : Nat} {v0 v1 : Value} (h : ClAt w g v0 v1) : w.cell? ⟨g, 0, none⟩ = some v0 := by rw [cell_of_row w g 0 _ _ _ h]; rfl
theorem ClAt.c1 {w : World} {g : Nat} {v0 v1 : Value} (h : ClAt w g v0 v1) : w.cell? ⟨g, 1, none⟩ = some v1 := by rw [cell_of_row w g 1 _ _ _ h]; rfl
theorem ClAt.frozen {w : World} {g : Nat} {v0 v1 : Value} (h : ClAt w g v0 v1) (i : Nat) : w.frozen? ⟨g, i, none⟩ = false := by
  unfold ClAt at h
  simp [World.frozen?, h]
theorem ClAt.grown {w w' : World} {row : Option Nat} {g : Nat} {v0 v1 : Value} (h : ClAt w g v0 v1) (hg : w.grownBy w' row) (hne : some g ≠ row) : ClAt w' g v0 v1 := (hg.block g h.lt hne).trans h
def QAt (w : World) (g : Nat) (v0 : Value) : Prop := w.heap[g]? = some (.cells #[v0] 30 (0, 0))
theorem QAt.new (w : World) (v0 : Value) : QAt (w.alloc (.cells #[v0] 30)) w.heap.size v0 := heap_alloc_new w _
theorem QAt.lt {w : World} {g : Nat} {v0 : Value} (h : QAt w g v0) : g < w.heap.size := (Array.getElem?_eq_some_iff.1 h).1
theorem QAt.below {w w' : World} {g : Nat} {v0 : Value} (h : QAt w g v0) (hb : Below w.heap.size w w') : QAt w' g v0 := (hb.block g h.lt).trans h
theorem QAt.c0 {w : World} {g : Nat} {v0 : Value} (h : QAt w g v0) : w.cell? ⟨g, 0, none⟩ = some v0 := by rw [cell_of_row w g 0 _ _ _ h]; rfl
theorem QAt.frozen {w : World} {g : Nat} {v0 : Value} (h : QAt w g v0) (i : Nat) : w.frozen? ⟨g, i, none⟩ = false := by
  unfold QAt at h
  simp [World.frozen?, h]
theorem QAt.grown {w w' : World} {row : Option Nat} {g : Nat} {v0 : Value} (h : QAt w g v0) (hg : w.grownBy w' row) (hne : some g ≠ row) : QAt w' g v0 := (hg.block g h.lt hne).trans h

/-- The boxes of a clause (or a query) and an event. -/
structure CeAt (wr w : World) (c0 c1 e0 e1 e2 e3 : Value) : Prop where
  ec : ClAt wr w.heap.size c0 c1
  ee : EvAt wr (w.heap.size + 1) e0 e1 e2 e3
  bel : Below w.heap.size w wr
section
variable {wr w w' : World} {c0 c1 e0 e1 e2 e3 : Value}
theorem CeAt.below (h : CeAt wr w c0 c1 e0 e1 e2 e3) (hb : Below wr.heap.size wr w') : CeAt w' w c0 c1 e0 e1 e2 e3 := ⟨h.ec.below hb, h.ee.below hb h.ee.lt, below_chain h.bel hb⟩
theorem CeAt.drew (h : CeAt wr w c0 c1 e0 e1 e2 e3) : CeAt wr.drew w c0 c1 e0 e1 e2 e3 := ⟨h.ec, h.ee, bel_drew h.bel⟩
theorem CeAt.drewN (h : CeAt wr w c0 c1 e0 e1 e2 e3) (k : Nat) : CeAt (wr.drewN k) w c0 c1 e0 e1 e2 e3 := ⟨h.ec, h.ee, bel_drewN h.bel k⟩
theorem CeAt.new (w : World) (c0 c1 e0 e1 e2 e3 : Value) : CeAt ((w.alloc (.cells #[c0, c1] 54)).alloc (.cells #[e0, e1, e2, e3] 42)) w c0 c1 e0 e1 e2 e3 := by
  have a1 := ClAt.new w c0 c1
  have b1 : Below w.heap.size w (w.alloc (.cells #[c0, c1] 54)) := (Below.refl _ _).alloc (Nat.le_refl _) _
  generalize hw1 : w.alloc (.cells #[c0, c1] 54) = w1 at *
  have s1 : w1.heap.size = w.heap.size + 1 := by rw [← hw1]; simp
  have a2 := EvAt.new w1 e0 e1 e2 e3
  have b2 : Below w1.heap.size w1 (w1.alloc (.cells #[e0, e1, e2, e3] 42)) := (Below.refl _ _).alloc (Nat.le_refl _) _
  rw [s1] at a2
  exact ⟨a1.below b2, a2, below_chain b1 b2⟩
end

theorem all_snoc (l : List ByteArray) (p : ByteArray → Bool) (j : Nat) (h : j < l.length) : (l.take (j + 1)).all p = ((l.take j).all p && p (l.getD j ByteArray.empty)) := by
  rw [List.take_succ_eq_append_getElem h, List.all_append]
  simp [List.getD, List.getElem?_eq_getElem h]
theorem all_miss (l : List ByteArray) (p : ByteArray → Bool) (j : Nat) (h : j < l.length) (hp : p (l.getD j ByteArray.empty) = false) : l.all p = false := by
  cases ha : l.all p with
  | false => rfl
  | true =>
    rw [List.all_eq_true] at ha
    have := ha (l.getD j ByteArray.empty) (by simp only [List.getD, List.getElem?_eq_getElem h, Option.getD_some]; exact List.getElem_mem h)
    rw [hp] at this
    cases this
theorem cl_get {l : List Cl} {j : Nat} (h : j < l.length) : l.getD j noCl ∈ l := by
  simp only [List.getD, List.getElem?_eq_getElem h, Option.getD_some]
  exact List.getElem_mem h
theorem cl_take (l : List Cl) (j : Nat) (h : j < l.length) : l.take (j + 1) = l.take j ++ [l.getD j noCl] := by
  rw [List.take_succ_eq_append_getElem h]
  simp [List.getD, List.getElem?_eq_getElem h]

set_option maxHeartbeats 8000000 in
set_option maxRecDepth 100000 in
theorem refClause_any (v u : Value) (c : Cl) (ev : Ev) (w : World) (hv : IsCl w v c) (hu : IsEv w u ev) :
    Calls Try.prog 50 #[v, u] w fun e w' => e = .returned (.bool (clauseB c ev)) ∧ Below w.heap.size w w' := by
  have hu0 := hu
  obtain ⟨T, nT, cT, Y, nY, cY, rfl, rT, rY⟩ := hv
  obtain ⟨A, nA, cA, B, nB, cB, rfl, _, _⟩ := hu
  generalize hR : clauseB c ev = R
  have HR := Go.Lib.hid hR
  have LT := Go.Lib.hid rT.len
  have LY := Go.Lib.hid rY.len
  have hnT := RdC.le rT
  have hnY := RdC.le rY
  unfold maxLen at hnT hnY
  clear hR
  have s1 := CeAt.new w (.slice T nT cT) (.slice Y nY cY) (.string ev.s) (.string ev.t) (.slice A nA cA) (.slice B nB cB)
  go_enter Try.func50, Try.ntmps50
  go_wp2_with fail
  generalize (w.alloc (.cells #[.slice T nT cT, .slice Y nY cY] 54)).alloc (.cells #[.string ev.s, .string ev.t, .slice A nA cA, .slice B nB cB] 42) = w1 at *
  go_loopw [5, 6] (fun i _ wr => ∃ j : Nat, j ≤ nT ∧ i = .int .i64 j ∧ Hid ((c.tags.take j).all (fun x => hasB ev.tags x) = true) ∧ CeAt wr w (.slice T nT cT) (.slice Y nY cY) (.string ev.s) (.string ev.t) (.slice A nA cA) (.slice B nB cB)) (fun i _ _ => nT - (intOf i).toNat)
  case atStart => exact ⟨0, Nat.zero_le _, rfl, Go.Lib.hid (by simp), s1⟩
  case round =>
    obtain ⟨j, hj, rfl, HQ, sr⟩ := hrel
    clear s1
    have k0 := sr.ec.c0
    have k1 := sr.ec.c1
    by_cases hlt : j < nT
    · obtain ⟨bt, ot, rfl, _, kt⟩ := RdS.at_ (RdC.below rT sr.bel) (by omega)
      have ka := kt j hlt
      have i1 : (j : Int) < nT := by omega
      have hjl : j < c.tags.length := by rw [LT.out]; exact hlt
      have HS := Go.Lib.hid (all_snoc c.tags (fun x => hasB ev.tags x) j hjl)
      have HM := Go.Lib.hid (all_miss c.tags (fun x => hasB ev.tags x) j hjl)
      clear kt hjl
      generalize c.tags.getD j ByteArray.empty = x at *
      have j0 := sr.ee.c0
      have j1 := sr.ee.c1
      have j2 := sr.ee.c2
      have j3 := sr.ee.c3
      have b0 : Below wr.heap.size wr wr.drew := bel_drew (Below.refl _ _)
      have sd := sr.drew
      have hud := hu0.below sd.bel
      generalize hH : hasB ev.tags x = Hh at *
      have HH := Go.Lib.hid hH
      clear hH
      go_wp2_with fail
      go_region_held (fun w' => w'.cell? ⟨w.heap.size + 1, 0, none⟩ = some (.string ev.s) ∧ w'.cell? ⟨w.heap.size + 1, 1, none⟩ = some (.string ev.t) ∧ w'.cell? ⟨w.heap.size + 1, 2, none⟩ = some (.slice A nA cA) ∧ w'.cell? ⟨w.heap.size + 1, 3, none⟩ = some (.slice B nB cB) ∧ w'.cell? ⟨w.heap.size, 0, none⟩ = some (.slice (some ⟨bt, ot, none⟩) nT cT) ∧ w'.cell? ⟨bt, ot + j, none⟩ = some (.string x))
        (first | exact ⟨j0, j1, j2, j3, k0, ka⟩ | exact ⟨bcell b9 j0, bcell b9 j1, bcell b9 j2, bcell b9 j3, bcell b9 k0, bcell b9 ka⟩)
        (first | (go_at_call 38; refine (refHas_any _ ev x _ hud).mono ?_; rintro e w9 ⟨rfl, bb⟩; rw [HH.out]; have b9 := below_chain b0 bb; clear bb))
      have s9 := sr.below b9
      clear k0 k1 j0 j1 j2 j3 ka b0 sd hud sr b9
      cases Hh with
      | true =>
        have hq2 : (c.tags.take (j + 1)).all (fun x => hasB ev.tags x) = true := HS.out.trans (by simp [HQ.out])
        have HQ2 := Go.Lib.hid hq2
        clear hq2
        go_wp2_with fail
        go_roundw
        case rel => exact ⟨j + 1, by omega, by go_num, HQ2, s9⟩
        case measure => simp [intOf]; omega
      | false =>
        have hR : R = false := by
          rw [← HR.out]
          unfold clauseB
          rw [HM.out rfl]
          rfl
        subst hR
        have B9 := s9.bel
        go_wp2_with fail
        go_ret
        exact ⟨rfl, B9⟩
    · obtain rfl : nT = j := by omega
      have hq2 : c.tags.all (fun x => hasB ev.tags x) = true := by
        have h := HQ.out
        rwa [List.take_of_length_le (by rw [LT.out]; exact Nat.le_refl _)] at h
      have HQ2 := Go.Lib.hid hq2
      clear hq2 HQ
      go_wp2_with fail
      go_loopw [7] (fun i wq => ∃ k : Nat, k ≤ nY ∧ i = .int .i64 k ∧ Hid ((c.types.take k).any (fun y => decide (y = ev.t)) = false) ∧ CeAt wq w (.slice T nT cT) (.slice Y nY cY) (.string ev.s) (.string ev.t) (.slice A nA cA) (.slice B nB cB)) (fun i _ => nY - (intOf i).toNat)
      case atStart => exact ⟨0, Nat.zero_le _, rfl, Go.Lib.hid (by simp), sr⟩
      case round =>
        obtain ⟨k, hk, rfl, HQ, sq⟩ := hrel
        clear k0 k1 sr
        have k1 := sq.ec.c1
        by_cases hlt : k < nY
        · obtain ⟨bt, ot, rfl, _, kt⟩ := RdS.at_ (RdC.below rY sq.bel) (by omega)
          have ka := kt k hlt
          have i1 : (k : Int) < nY := by omega
          have hjl : k < c.types.length := by rw [LY.out]; exact hlt
          have hy := take_get c.types k hjl
          have HY := Go.Lib.hid hy
          have HMem := Go.Lib.hid (mem_getD c.types k hjl)
          clear kt hjl hy
          generalize c.types.getD k ByteArray.empty = y at *
          have j1 := sq.ee.c1
          by_cases hyt : y = ev.t
          · subst hyt
            have hR : R = true := by
              rw [← HR.out]
              unfold clauseB
              rw [HQ2.out, hasB_mem.2 HMem.out, Bool.or_true]
              rfl
            subst hR
            have B9 := sq.bel
            go_wp2_with fail
            go_quiet (fail)
            go_wp2_with fail
            go_ret
            exact ⟨rfl, bel_drewN B9 _⟩
          · have hne := str_ne hyt
            have hq3 : (c.types.take (k + 1)).any (fun y => decide (y = ev.t)) = false := by
              rw [HY.out, List.any_append, HQ.out]
              simp [hyt]
            have HQ3 := Go.Lib.hid hq3
            clear hq3 hyt
            go_wp2_with fail
            go_quiet (fail)
            go_wp2_with fail
            go_roundw
            case rel => exact ⟨k + 1, by omega, by go_num, HQ3, sq.drewN _⟩
            case measure => simp [intOf]; omega
        · obtain rfl : nY = k := by omega
          have hno : hasB c.types ev.t = false := by
            have h := HQ.out
            rwa [List.take_of_length_le (by rw [LY.out]; exact Nat.le_refl _)] at h
          have hR : R = decide (nY = 0) := by
            rw [← HR.out]
            unfold clauseB
            rw [HQ2.out, hno, Bool.or_false, Bool.true_and]
            by_cases h0 : nY = 0
            · have h1 : c.types = [] := List.eq_nil_of_length_eq_zero (by rw [LY.out]; exact h0)
              rw [decide_eq_true h0, decide_eq_true h1]
            · have h1 : ¬ c.types = [] := fun h => h0 (by rw [← LY.out, h]; rfl)
              rw [decide_eq_false h0, decide_eq_false h1]
          have HRR := Go.Lib.hid hR
          clear hR hno
          have B9 := sq.bel
          by_cases h0 : nY = 0
          · subst h0
            obtain rfl : R = true := by rw [HRR.out]; rfl
            go_wp2_with fail
            go_ret
            exact ⟨rfl, B9⟩
          · obtain rfl : R = false := by rw [HRR.out]; exact decide_eq_false h0
            have h1 : ((nY : Int) == 0) = false := by rw [beq_eq_false_iff_ne]; omega
            go_wp2_with fail
            go_ret
            exact ⟨rfl, B9⟩

end Go.Proofs.Ytppdljkfhoekpaa.QuWalk

/-
  Layer 5's readings: slices of events, and an argument that is one.
-/
namespace Go.Proofs.Ytppdljkfhoekpaa.Ev
open Go.RowKit Go.ChangeShapes Go.WideShapes Go.Joins Go.Deep Go.Proofs.Ytppdljkfhoekpaa.MemRow Go.Proofs.Ytppdljkfhoekpaa.Open

def noEv : Ev := ⟨ByteArray.empty, ByteArray.empty, [], []⟩

/-- The four cells at an address read as an event. -/
def EvCells (w : World) (b o : Nat) (e : Ev) : Prop :=
  ∃ A n ca B m cb, w.cell? ⟨b, o, none⟩ = some (.string e.s) ∧ w.cell? ⟨b, o + 1, none⟩ = some (.string e.t) ∧ w.cell? ⟨b, o + 2, none⟩ = some (.slice A n ca) ∧ w.cell? ⟨b, o + 3, none⟩ = some (.slice B m cb) ∧ RdS w A n ca e.tags ∧ RdF w B m cb e.fs
theorem EvCells.below {w w' : World} {b o : Nat} {e : Ev} (h : EvCells w b o e) (hb : Below w.heap.size w w') : EvCells w' b o e := by
  obtain ⟨A, n, ca, B, m, cb, h0, h1, h2, h3, h4, h5⟩ := h
  exact ⟨A, n, ca, B, m, cb, bcell hb h0, bcell hb h1, bcell hb h2, bcell hb h3, RdC.below h4 hb, RdC.below h5 hb⟩
theorem EvCells.drew {w : World} {b o : Nat} {e : Ev} (h : EvCells w b o e) (k : Nat) : EvCells (w.drewN k) b o e := h

/-- A slice that reads as events. -/
def RdE (w : World) (A : Option Addr) (n cap : Nat) (es : List Ev) : Prop :=
  es.length = n ∧ n ≤ cap ∧ cap ≤ maxLen ∧ (0 < n → ∃ b o, A = some ⟨b, o, none⟩ ∧ b < w.heap.size ∧ ∀ i, i < n → EvCells w b (o + i * 4) (es.getD i noEv))
theorem RdE.nil (w : World) : RdE w none 0 0 [] := ⟨rfl, Nat.le_refl _, Nat.zero_le _, fun h => absurd h (by omega)⟩
theorem RdE.len {w : World} {A : Option Addr} {n cap : Nat} {es : List Ev} (h : RdE w A n cap es) : es.length = n := h.1
theorem RdE.le {w : World} {A : Option Addr} {n cap : Nat} {es : List Ev} (h : RdE w A n cap es) : n ≤ maxLen := Nat.le_trans h.2.1 h.2.2.1
theorem RdE.at_ {w : World} {A : Option Addr} {n cap : Nat} {es : List Ev} (h : RdE w A n cap es) (hn : 0 < n) : ∃ b o, A = some ⟨b, o, none⟩ ∧ b < w.heap.size ∧ ∀ i, i < n → EvCells w b (o + i * 4) (es.getD i noEv) := h.2.2.2 hn
theorem RdE.below {w w' : World} {A : Option Addr} {n cap : Nat} {es : List Ev} (h : RdE w A n cap es) (hb : Below w.heap.size w w') : RdE w' A n cap es :=
  ⟨h.1, h.2.1, h.2.2.1, fun hn => by
    obtain ⟨b, o, hA, hlt, hc⟩ := h.2.2.2 hn
    exact ⟨b, o, hA, Nat.lt_of_lt_of_le hlt hb.size, fun i hi => (hc i hi).below hb⟩⟩

section
variable {H : Type} {enc : TypeId × Value → H} {P : Program} {W : World} {base : Nat} {t e : TypeId} {v : Value} {d : DataW H} {p : List MemPlace}
/-- A slice of events that came in. -/
theorem tr_events {f0 f1 f2 f3 g0 g1 : Field} {tS tF : TypeId} {fuel : Nat} {y : DataW H × List MemPlace} (ht : P.underlying t = some (.slice e)) (he : P.underlying e = some (.struct #[f0, f1, f2, f3])) (ce : P.cellsOf e = 4) (hone : oneCellFields P #[f0, f1, f2, f3] = true)
    (t0 : P.underlying f0.type = some .string) (t1 : P.underlying f1.type = some .string) (t2 : P.underlying f2.type = some (.slice tS)) (hS : P.underlying tS = some .string) (cS : P.cellsOf tS = 1)
    (t3 : P.underlying f3.type = some (.slice tF)) (hF : P.underlying tF = some (.struct #[g0, g1])) (cF : P.cellsOf tF = 2) (o0 : g0.offset = 0) (o1 : g1.offset = 1) (c0 : P.cellsOf g0.type = 1) (c1 : P.cellsOf g1.type = 1) (u0 : P.underlying g0.type = some .string) (u1 : P.underlying g1.type = some (.int .i64))
    (h : DataW.trod enc P W 0 (fun _ => true) true fuel t [v] = some y) :
    ∃ A n ca es, v = .slice A n ca ∧ RdE W A n ca es ∧ ∀ x ∈ es, EvOk x := by
  rcases open_slice ht h with ⟨hcs, _⟩ | ⟨a, l, c, m, nn, D, Pl, hcs, _, hl, hm, hmm, _, hx⟩
  · simp only [List.cons.injEq, and_true] at hcs
    subst hcs
    exact ⟨none, 0, 0, [], rfl, RdE.nil W, by simp⟩
  · simp only [List.cons.injEq, and_true] at hcs
    subst hcs
    have hm' : m = c := by simpa using hmm
    subst hm'
    have each : ∀ i, i < m → ∃ ev : Ev, EvOk ev ∧ ∃ A1 n1 k1 B1 m1 k2, W.cell? (a.add (i * 4)) = some (.string ev.s) ∧ W.cell? (a.add (i * 4 + 1)) = some (.string ev.t) ∧ W.cell? (a.add (i * 4 + 2)) = some (.slice A1 n1 k1) ∧ W.cell? (a.add (i * 4 + 3)) = some (.slice B1 m1 k2) ∧ RdS W A1 n1 k1 ev.tags ∧ RdF W B1 m1 k2 ev.fs := by
      intro i hi
      obtain ⟨cs', h1, h2⟩ := hx i hi
      rw [ce] at h1
      obtain ⟨_, hlen, hcell⟩ := World.cells?_some h1
      obtain ⟨y0, y1, y2, y3, n, _, _, q0, q1, q2, q3⟩ := trod_struct4 he h2
      obtain ⟨z0, k0⟩ := hone_of hone 0 f0 rfl
      obtain ⟨z1, k1⟩ := hone_of hone 1 f1 rfl
      obtain ⟨z2, k2⟩ := hone_of hone 2 f2 rfl
      obtain ⟨z3, k3⟩ := hone_of hone 3 f3 rfl
      match cs', hlen with
      | [v0, v1, v2, v3], _ =>
        have z0q : DataW.trod enc P W 0 (fun _ => true) true n f0.type [v0] = some y0 := by simpa [z0, k0] using q0
        have z1q : DataW.trod enc P W 0 (fun _ => true) true n f1.type [v1] = some y1 := by simpa [z1, k1] using q1
        have z2q : DataW.trod enc P W 0 (fun _ => true) true n f2.type [v2] = some y2 := by simpa [z2, k2] using q2
        have z3q : DataW.trod enc P W 0 (fun _ => true) true n f3.type [v3] = some y3 := by simpa [z3, k3] using q3
        have e0 := hcell 0 (by omega)
        have e1 := hcell 1 (by omega)
        have e2 := hcell 2 (by omega)
        have e3 := hcell 3 (by omega)
        rw [add_add] at e0 e1 e2 e3
        obtain ⟨s, x0, _, ws⟩ := DataW.trod_string t0 z0q
        obtain ⟨s', x1, _, wt⟩ := DataW.trod_string t1 z1q
        injection x0 with x0
        injection x1 with x1
        obtain ⟨A1, n1, k1', ss, rfl, r1, w1⟩ := tr_strs t2 hS cS z2q
        obtain ⟨B1, m1, k2', fs, rfl, r2, w2, w3⟩ := tr_flds t3 hF cF o0 o1 c0 c1 u0 u1 z3q
        subst x0 x1
        exact ⟨⟨s, s', ss, fs⟩, ⟨ws, wt, w1, w2, w3⟩, A1, n1, k1', B1, m1, k2', by simpa using e0, by simpa using e1, by simpa using e2, by simpa using e3, r1, r2⟩
    have hex : ∃ F : Nat → Ev, ∀ i, i < m → EvOk (F i) ∧ ∃ A1 n1 k1 B1 m1 k2, W.cell? (a.add (i * 4)) = some (.string (F i).s) ∧ W.cell? (a.add (i * 4 + 1)) = some (.string (F i).t) ∧ W.cell? (a.add (i * 4 + 2)) = some (.slice A1 n1 k1) ∧ W.cell? (a.add (i * 4 + 3)) = some (.slice B1 m1 k2) ∧ RdS W A1 n1 k1 (F i).tags ∧ RdF W B1 m1 k2 (F i).fs :=
      ⟨fun i => if hi : i < m then (each i hi).choose else noEv, fun i hi => by simp only [hi, dif_pos]; exact (each i hi).choose_spec⟩
    obtain ⟨F, hF'⟩ := hex
    refine ⟨_, l, m, (List.range l).map F, rfl, ⟨by simp, hl, hm, fun hn => ?_⟩, ?_⟩
    · obtain ⟨_, _, _, _, _, _, _, hc0, _⟩ := hF' 0 (by omega)
      rw [Nat.zero_mul] at hc0
      have e0 := spot_none hc0
      have hb := World.block_lt_of_cell? W _ hc0
      rw [e0, add_at] at hb
      refine ⟨a.block, a.off, by rw [← e0], hb, fun i hi => ?_⟩
      have hFj : ((List.range l).map F).getD i noEv = F i := by simp [List.getD, hi]
      rw [hFj]
      obtain ⟨_, A1, n1, k1, B1, m1, k2, h0, h1, h2, h3, r1, r2⟩ := hF' i (by omega)
      rw [e0, add_at] at h0 h1 h2 h3
      exact ⟨A1, n1, k1, B1, m1, k2, h0, h1, h2, h3, r1, r2⟩
    · intro x hxm
      obtain ⟨j, hj, rfl⟩ := List.mem_map.1 hxm
      exact (hF' j (by have := List.mem_range.1 hj; omega)).1
end

end Go.Proofs.Ytppdljkfhoekpaa.Ev

/-
  Layer 13: rows of events whose own rows are older; events at positions, as data.
-/
namespace Go.Proofs.Ytppdljkfhoekpaa.PoWalk
open Go.RowKit Go.Proofs.Ytppdljkfhoekpaa.MemRow Go.Proofs.Ytppdljkfhoekpaa.Ev Go.Proofs.Ytppdljkfhoekpaa.NameMath Go.Proofs.Ytppdljkfhoekpaa.NameWalk Go.Proofs.Ytppdljkfhoekpaa.EvWalk Go.Proofs.Ytppdljkfhoekpaa.NumMem Go.Proofs.Ytppdljkfhoekpaa.Qu Go.Proofs.Ytppdljkfhoekpaa.QuWalk

/-- A row that holds events whose own rows are as world w0 has them. -/
def EvsR (w0 : World) : List Ev → List Value → Prop
  | [], cs => cs = []
  | e :: es, cs => ∃ T nT cT F nF cF cs', cs = .string e.s :: .string e.t :: .slice T nT cT :: .slice F nF cF :: cs' ∧ RdS w0 T nT cT e.tags ∧ RdF w0 F nF cF e.fs ∧ EvsR w0 es cs'
theorem EvsR.snoc {w : World} {e : Ev} {T F : Option Addr} {nT cT nF cF : Nat} (o1 : RdS w T nT cT e.tags) (o2 : RdF w F nF cF e.fs) :
    ∀ (es : List Ev) (cs : List Value), EvsR w es cs → EvsR w (es ++ [e]) (cs ++ [.string e.s, .string e.t, .slice T nT cT, .slice F nF cF])
  | [], cs, h => by
    obtain rfl : cs = [] := h
    exact ⟨T, nT, cT, F, nF, cF, [], rfl, o1, o2, rfl⟩
  | x :: es, cs, ⟨T1, n1, c1, F1, m1, d1, cs', hc, p1, p2, h⟩ => by
    subst hc
    exact ⟨T1, n1, c1, F1, m1, d1, cs' ++ [.string e.s, .string e.t, .slice T nT cT, .slice F nF cF], rfl, p1, p2, EvsR.snoc o1 o2 es cs' h⟩
theorem EvsR.at_ {w : World} : ∀ (es : List Ev) (cs : List Value), EvsR w es cs → ∀ i, i < es.length →
    ∃ T nT cT F nF cF, cs[i * 4]? = some (.string (es.getD i noEv).s) ∧ cs[i * 4 + 1]? = some (.string (es.getD i noEv).t) ∧ cs[i * 4 + 2]? = some (.slice T nT cT) ∧ cs[i * 4 + 3]? = some (.slice F nF cF) ∧ RdS w T nT cT (es.getD i noEv).tags ∧ RdF w F nF cF (es.getD i noEv).fs
  | [], _, _, i, hi => by simp at hi
  | e :: es, cs, ⟨T, nT, cT, F, nF, cF, cs', hc, o1, o2, h⟩, i, hi => by
    subst hc
    cases i with
    | zero => exact ⟨T, nT, cT, F, nF, cF, rfl, rfl, rfl, rfl, o1, o2⟩
    | succ i =>
      obtain ⟨T1, n1, c1, F1, m1, d1, q0, q1, q2, q3, p1, p2⟩ := EvsR.at_ es cs' h i (by simpa using hi)
      have e4 : (i + 1) * 4 = i * 4 + 4 := by omega
      rw [e4]
      exact ⟨T1, n1, c1, F1, m1, d1, by simpa using q0, by simpa using q1, by simpa using q2, by simpa using q3, by simpa using p1, by simpa using p2⟩
theorem EvsR.one {w : World} : ∀ (es : List Ev) (cs : List Value), EvsR w es cs → ∀ v ∈ cs, v.oneCell' = true
  | [], cs, h, v, hv => by
    obtain rfl : cs = [] := h
    simp at hv
  | _ :: es, cs, ⟨T, nT, cT, Y, nY, cY, cs', e, _, _, h⟩, v, hv => by
    subst e
    simp only [List.mem_cons] at hv
    rcases hv with rfl | rfl | rfl | rfl | hv
    · rfl
    · rfl
    · rfl
    · rfl
    · exact EvsR.one es cs' h v hv

/-! ### Events at positions -/
abbrev Ls := List (Ev × Int)
def posP (p : Ev → Bool) (L : Ls) : List Int := (L.filter fun x => p x.1).map (·.2)
def tagP (L : Ls) (t : ByteArray) : List Int := posP (fun e => hasB e.tags t) L
def typP (L : Ls) (t : ByteArray) : List Int := posP (fun e => decide (e.t = t)) L
def upF (u : Int) (l : List Int) : List Int := l.filter fun x => decide (x ≤ u)
def findP (L : Ls) (q : List Cl) (u : Int) : List Int := upF u (posP (matchQ q) L)
def lastL (L : Ls) : Int := match L.getLast? with | some x => x.2 | none => 0
def addL (L : Ls) (e : Ev) (p : Int) : Int × Ls := if p < 1 ∨ p ≤ lastL L then (1, L) else (0, L ++ [(e, p)])
structure LOk (L : Ls) : Prop where
  inc : L.Pairwise fun a b => a.2 < b.2
  pos : ∀ x ∈ L, 1 ≤ x.2
  hi : ∀ x ∈ L, x.2 ≤ 9223372036854775807
  len : L.length ≤ 200
theorem LOk.nil : LOk [] := ⟨List.Pairwise.nil, (fun _ h => by cases h), (fun _ h => by cases h), (by decide)⟩
theorem posP_nil (p : Ev → Bool) : posP p [] = [] := rfl
theorem posP_append (p : Ev → Bool) (L M : Ls) : posP p (L ++ M) = posP p L ++ posP p M := by simp [posP]
theorem posP_one (p : Ev → Bool) (e : Ev) (x : Int) : posP p [(e, x)] = if p e = true then [x] else [] := by
  by_cases h : p e = true
  · rw [if_pos h]; simp [posP, h]
  · rw [if_neg h]; simp [posP, h]
theorem posP_mem {p : Ev → Bool} {L : Ls} {x : Int} : x ∈ posP p L ↔ ∃ e, (e, x) ∈ L ∧ p e = true := by
  unfold posP
  rw [List.mem_map]
  constructor
  · rintro ⟨y, hy, rfl⟩
    obtain ⟨h1, h2⟩ := List.mem_filter.1 hy
    exact ⟨y.1, h1, h2⟩
  · rintro ⟨e, h1, h2⟩
    exact ⟨(e, x), List.mem_filter.2 ⟨h1, h2⟩, rfl⟩
theorem posP_len (p : Ev → Bool) (L : Ls) : (posP p L).length ≤ L.length := by
  unfold posP
  rw [List.length_map]
  exact List.length_filter_le _ _
theorem posP_inc {L : Ls} (h : LOk L) (p : Ev → Bool) : Inc (posP p L) := by
  unfold posP Inc
  rw [List.pairwise_map]
  exact h.inc.sublist List.filter_sublist
theorem up_mem {u : Int} {l : List Int} {x : Int} : x ∈ upF u l ↔ x ∈ l ∧ x ≤ u := by unfold upF; rw [List.mem_filter]; simp
theorem up_inc {l : List Int} (h : Inc l) (u : Int) : Inc (upF u l) := h.sub List.filter_sublist
theorem up_all {u : Int} {l : List Int} (h : ∀ x ∈ l, x ≤ u) : upF u l = l := by
  unfold upF
  rw [List.filter_eq_self]
  intro x hx
  simpa using h x hx
theorem find_inc {L : Ls} (h : LOk L) (q : List Cl) (u : Int) : Inc (findP L q u) := up_inc (posP_inc h _) u
theorem find_mem {L : Ls} {q : List Cl} {u x : Int} : x ∈ findP L q u ↔ (∃ e, (e, x) ∈ L ∧ matchQ q e = true) ∧ x ≤ u := by
  unfold findP
  rw [up_mem, posP_mem]
theorem find_len (L : Ls) (q : List Cl) (u : Int) : (findP L q u).length ≤ L.length := Nat.le_trans (List.length_filter_le _ _) (posP_len _ L)
theorem lastL_snoc (L : Ls) (x : Ev × Int) : lastL (L ++ [x]) = x.2 := by simp [lastL]
theorem lastL_le {L : Ls} (h : LOk L) : ∀ x ∈ L, x.2 ≤ lastL L := by
  rcases List.eq_nil_or_concat L with rfl | ⟨M, y, rfl⟩
  · intro x hx; cases hx
  · intro x hx
    rw [List.concat_eq_append, lastL_snoc]
    have hp := h.inc
    rw [List.concat_eq_append] at hp hx
    rcases List.mem_append.1 hx with hx | hx
    · have := (List.pairwise_append.1 hp).2.2 x hx y (by simp)
      omega
    · rw [List.mem_singleton] at hx
      rw [hx]
      omega
theorem addL_yes {L : Ls} {e : Ev} {p : Int} (h1 : 1 ≤ p) (h2 : lastL L < p) : addL L e p = (0, L ++ [(e, p)]) := by
  unfold addL
  rw [if_neg (by omega)]
theorem addL_len (L : Ls) (e : Ev) (p : Int) : (addL L e p).2.length ≤ L.length + 1 := by
  unfold addL
  split <;> simp
theorem addL_ok {L : Ls} (h : LOk L) (e : Ev) {p : Int} (hp : p ≤ 9223372036854775807) (hl : L.length < 200) : LOk (addL L e p).2 := by
  unfold addL
  by_cases hc : p < 1 ∨ p ≤ lastL L
  · rw [if_pos hc]; exact h
  · rw [if_neg hc]
    refine ⟨List.pairwise_append.2 ⟨h.inc, by simp, fun a ha b hb => ?_⟩, fun x hx => ?_, fun x hx => ?_, by simp; omega⟩
    · rw [List.mem_singleton] at hb
      rw [hb]
      have := lastL_le h a ha
      show a.2 < p
      omega
    · rcases List.mem_append.1 hx with hx | hx
      · exact h.pos x hx
      · rw [List.mem_singleton] at hx
        rw [hx]
        show 1 ≤ p
        omega
    · rcases List.mem_append.1 hx with hx | hx
      · exact h.hi x hx
      · rw [List.mem_singleton] at hx
        rw [hx]
        exact hp
theorem ls_take (L : Ls) (j : Nat) (h : j < L.length) : L.take (j + 1) = L.take j ++ [L.getD j (noEv, 0)] := by
  rw [List.take_add_one]
  simp [List.getD, List.getElem?_eq_getElem h]
theorem posP_step (p : Ev → Bool) (L : Ls) {j : Nat} (h : j < L.length) : posP p (L.take (j + 1)) = posP p (L.take j) ++ (if p (L.getD j (noEv, 0)).1 = true then [(L.getD j (noEv, 0)).2] else []) := by
  rw [ls_take L j h, posP_append, posP_one]

end Go.Proofs.Ytppdljkfhoekpaa.PoWalk

/-
  Rows of clauses of a call's own, whose own rows are older.
-/
namespace Go.Proofs.Ytppdljkfhoekpaa.QuWalk
open Go.RowKit Go.Proofs.Ytppdljkfhoekpaa.MemRow Go.Proofs.Ytppdljkfhoekpaa.Ev Go.Proofs.Ytppdljkfhoekpaa.NameMath Go.Proofs.Ytppdljkfhoekpaa.NameWalk Go.Proofs.Ytppdljkfhoekpaa.EvWalk Go.Proofs.Ytppdljkfhoekpaa.Qu

theorem clause_info : (Try.prog.info? 54).map (fun i => (i.zero, i.size, i.bytes)) = some (some (.agg #[.slice none 0 0, .slice none 0 0]), 2, 48) := by kernel_rfl
theorem clause_size : (Try.prog.info? 54).map (·.size) = some 2 := by kernel_rfl
theorem elem_clauses : Try.prog.elem 28 = 54 := by kernel_rfl

/-- The cells cs are the clauses q, as world w0 has them. -/
def ClsR (w0 : World) : List Cl → List Value → Prop
  | [], cs => cs = []
  | c :: q, cs => ∃ T nT cT Y nY cY cs', cs = .slice T nT cT :: .slice Y nY cY :: cs' ∧ RdS w0 T nT cT c.tags ∧ RdS w0 Y nY cY c.types ∧ ClsR w0 q cs'
theorem ClsR.snoc {w : World} {c : Cl} {T Y : Option Addr} {nT cT nY cY : Nat} (o1 : RdS w T nT cT c.tags) (o2 : RdS w Y nY cY c.types) :
    ∀ (q : List Cl) (cs : List Value), ClsR w q cs → ClsR w (q ++ [c]) (cs ++ [.slice T nT cT, .slice Y nY cY])
  | [], cs, h => by
    obtain rfl : cs = [] := h
    exact ⟨T, nT, cT, Y, nY, cY, [], rfl, o1, o2, rfl⟩
  | x :: q, cs, ⟨T1, n1, c1, F1, m1, d1, cs', hc, p1, p2, h⟩ => by
    subst hc
    exact ⟨T1, n1, c1, F1, m1, d1, cs' ++ [.slice T nT cT, .slice Y nY cY], rfl, p1, p2, ClsR.snoc o1 o2 q cs' h⟩
theorem ClsR.below {w w' : World} (hb : Below w.heap.size w w') : ∀ (q : List Cl) (cs : List Value), ClsR w q cs → ClsR w' q cs
  | [], _, h => h
  | _ :: q, _, ⟨T, nT, cT, Y, nY, cY, cs', e, o1, o2, h⟩ => ⟨T, nT, cT, Y, nY, cY, cs', e, RdC.below o1 hb, RdC.below o2 hb, ClsR.below hb q cs' h⟩
theorem ClsR.at_ {w : World} : ∀ (q : List Cl) (cs : List Value), ClsR w q cs → ∀ i, i < q.length →
    ∃ T nT cT Y nY cY, cs[i * 2]? = some (.slice T nT cT) ∧ cs[i * 2 + 1]? = some (.slice Y nY cY) ∧ RdS w T nT cT (q.getD i noCl).tags ∧ RdS w Y nY cY (q.getD i noCl).types
  | [], _, _, i, hi => by simp at hi
  | c :: q, cs, ⟨T, nT, cT, Y, nY, cY, cs', hc, o1, o2, h⟩, i, hi => by
    subst hc
    cases i with
    | zero => exact ⟨T, nT, cT, Y, nY, cY, rfl, rfl, o1, o2⟩
    | succ i =>
      obtain ⟨T1, n1, c1, F1, m1, d1, q0, q1, p1, p2⟩ := ClsR.at_ q cs' h i (by simpa using hi)
      have e2 : (i + 1) * 2 = i * 2 + 2 := by omega
      rw [e2]
      exact ⟨T1, n1, c1, F1, m1, d1, by simpa using q0, by simpa using q1, by simpa using p1, by simpa using p2⟩
/-- A slice of a call's own that holds clauses, their rows as world w0 has them. -/
def OwnQ (w0 w : World) (base : Nat) (A : Option Addr) (n cap : Nat) (q : List Cl) : Prop := ∃ cs, OwnC 2 w base 54 A n cap cs ∧ q.length = n ∧ ClsR w0 q cs
theorem OwnQ.nil (w0 w : World) (base : Nat) : OwnQ w0 w base none 0 0 [] := ⟨[], OwnC.nil _ _, rfl, rfl⟩
theorem OwnQ.len {w0 w : World} {base : Nat} {A : Option Addr} {n cap : Nat} {q : List Cl} (h : OwnQ w0 w base A n cap q) : q.length = n := by
  obtain ⟨_, _, h, _⟩ := h
  exact h
theorem OwnQ.below {w0 w w' : World} {base : Nat} {A : Option Addr} {n cap : Nat} {q : List Cl} (h : OwnQ w0 w base A n cap q) (hb : Below w.heap.size w w') : OwnQ w0 w' base A n cap q := by
  obtain ⟨cs, o, hl, hc⟩ := h
  exact ⟨cs, OwnC.below o hb, hl, hc⟩
theorem OwnQ.grown {w0 w w' : World} {base : Nat} {A : Option Addr} {n cap : Nat} {q : List Cl} {g : Nat} (h : OwnQ w0 w base A n cap q) (hg : w.grownBy w' (some g)) (hb : g < base) : OwnQ w0 w' base A n cap q := by
  obtain ⟨cs, o, hl, hc⟩ := h
  exact ⟨cs, OwnC.grown o hg fun a hA e => by
    have := (OwnC.lt o a hA).1
    injection e with e
    omega, hl, hc⟩
theorem OwnQ.rd {w0 w : World} {base : Nat} {A : Option Addr} {n cap : Nat} {q : List Cl} (h : OwnQ w0 w base A n cap q) (hb : Below w0.heap.size w0 w) : RdQ w A n cap q := by
  obtain ⟨cs, o, hl, hc⟩ := h
  have r := OwnC.rd o
  refine ⟨hl, r.2.1, r.2.2.1, fun hn => ?_⟩
  obtain ⟨b, a, hA, hlt, hcell⟩ := RdC.at_ r (by omega) hn
  refine ⟨b, a, hA, hlt, fun i hi => ?_⟩
  obtain ⟨T, nT, cT, Y, nY, cY, q0, q1, p1, p2⟩ := ClsR.at_ q cs hc i (by omega)
  exact ⟨T, nT, cT, Y, nY, cY, hcell _ _ q0, by rw [Nat.add_assoc]; exact hcell _ _ q1, RdC.below p1 hb, RdC.below p2 hb⟩
/-- A clause more. -/
theorem OwnQ.more {w0 w' : World} {base : Nat} {A' : Option Addr} {n cap' : Nat} {q : List Cl} {cs : List Value} {c : Cl} {T Y : Option Addr} {nT cT nY cY : Nat} (hl : q.length = n) (hc : ClsR w0 q cs) (o1 : RdS w0 T nT cT c.tags) (o2 : RdS w0 Y nY cY c.types)
    (ho' : OwnC 2 w' base 54 A' (n + 1) cap' (cs ++ [.slice T nT cT, .slice Y nY cY])) : OwnQ w0 w' base A' (n + 1) cap' (q ++ [c]) :=
  ⟨_, ho', by rw [List.length_append, hl]; rfl, ClsR.snoc o1 o2 q cs hc⟩
theorem cl_one (T Y : Option Addr) (nT cT nY cY : Nat) : ∀ v ∈ ([.slice T nT cT, .slice Y nY cY] : List Value), v.oneCell' = true := by
  intro v hv
  simp only [List.mem_cons, List.not_mem_nil, or_false] at hv
  rcases hv with rfl | rfl <;> rfl
theorem ClAt.set0 {w : World} {g : Nat} {v0 v1 : Value} (h : ClAt w g v0 v1) (x : Value) : ClAt (w.setCell ⟨g, 0, none⟩ x) g x v1 := by
  unfold ClAt at h ⊢
  simp only [World.setCell, Array.getElem?_modify, h]
  rfl
theorem ClAt.set1 {w : World} {g : Nat} {v0 v1 : Value} (h : ClAt w g v0 v1) (x : Value) : ClAt (w.setCell ⟨g, 1, none⟩ x) g v0 x := by
  unfold ClAt at h ⊢
  simp only [World.setCell, Array.getElem?_modify, h]
  rfl
theorem ClAt.far {w : World} {g b i : Nat} {v0 v1 : Value} (h : ClAt w g v0 v1) (hne : g ≠ b) (x : Value) : ClAt (w.setCell ⟨b, i, none⟩ x) g v0 v1 := by
  unfold ClAt at h ⊢
  simp only [World.setCell, Array.getElem?_modify]
  rw [if_neg (fun e => hne e.symm)]
  exact h
theorem QAt.set {w : World} {g : Nat} {v0 : Value} (h : QAt w g v0) (x : Value) : QAt (w.setCell ⟨g, 0, none⟩ x) g x := by
  unfold QAt at h ⊢
  simp only [World.setCell, Array.getElem?_modify, h]
  rfl
theorem QAt.far {w : World} {g b i : Nat} {v0 : Value} (h : QAt w g v0) (hne : g ≠ b) (x : Value) : QAt (w.setCell ⟨b, i, none⟩ x) g v0 := by
  unfold QAt at h ⊢
  simp only [World.setCell, Array.getElem?_modify]
  rw [if_neg (fun e => hne e.symm)]
  exact h
theorem grownSet (w : World) (g i : Nat) (x : Value) : w.grownBy (w.setCell ⟨g, i, none⟩ x) (some g) := by
  refine ⟨rfl, rfl, rfl, by simp [World.setCell], fun k _ hne => ?_⟩
  have : g ≠ k := fun e => hne (by rw [e])
  simp [World.setCell, Array.getElem?_modify, this]

/-- What stands while a query is made of another one: the argument's box, the result's cell, the query that is made. -/
structure MkAt (w0 wr w : World) (vq : Value) (A : Option Addr) (n cap : Nat) (q : List Cl) : Prop where
  eq : QAt wr w.heap.size vq
  res : QAt wr (w.heap.size + 1) (.slice none 0 0)
  out : QAt wr (w.heap.size + 1 + 1) (.slice A n cap)
  own : OwnQ w0 wr (w.heap.size + 1 + 1 + 1) A n cap q
  bel : Below w.heap.size w wr
section
variable {w0 wr w w' : World} {vq : Value} {A : Option Addr} {n cap : Nat} {q : List Cl}
theorem MkAt.below (h : MkAt w0 wr w vq A n cap q) (hb : Below wr.heap.size wr w') : MkAt w0 w' w vq A n cap q := ⟨h.eq.below hb, h.res.below hb, h.out.below hb, h.own.below hb, below_chain h.bel hb⟩
theorem MkAt.far (h : MkAt w0 wr w vq A n cap q) {g : Nat} (hg : w.heap.size + 1 + 1 < g) (hA : ∀ a, A = some a → a.block ≠ g) (i : Nat) (x : Value) : MkAt w0 (wr.setCell ⟨g, i, none⟩ x) w vq A n cap q := by
  obtain ⟨cs, o, hl, hc⟩ := h.own
  exact ⟨h.eq.far (by omega) x, h.res.far (by omega) x, h.out.far (by omega) x, ⟨cs, OwnC.grown o (grownSet wr g i x) (fun a ha e => hA a ha (by injection e)), hl, hc⟩, h.bel.setCell (by show w.heap.size ≤ g; omega) x⟩
theorem MkAt.new (w0 w : World) (vq : Value) : MkAt w0 (((w.alloc (.cells #[vq] 30)).alloc (.cells #[.slice none 0 0] 30)).alloc (.cells #[.slice none 0 0] 30)) w vq none 0 0 [] := by
  have a1 := QAt.new w vq
  have b1 : Below w.heap.size w (w.alloc (.cells #[vq] 30)) := (Below.refl _ _).alloc (Nat.le_refl _) _
  generalize hw1 : w.alloc (.cells #[vq] 30) = w1 at *
  have s1 : w1.heap.size = w.heap.size + 1 := by rw [← hw1]; simp
  have a2 := QAt.new w1 (.slice none 0 0)
  have b2 : Below w1.heap.size w1 (w1.alloc (.cells #[.slice none 0 0] 30)) := (Below.refl _ _).alloc (Nat.le_refl _) _
  generalize hw2 : w1.alloc (.cells #[.slice none 0 0] 30) = w2 at *
  have s2 : w2.heap.size = w.heap.size + 1 + 1 := by rw [← hw2]; simp [s1]
  have a3 := QAt.new w2 (.slice none 0 0)
  have b3 : Below w2.heap.size w2 (w2.alloc (.cells #[.slice none 0 0] 30)) := (Below.refl _ _).alloc (Nat.le_refl _) _
  rw [s1] at a2
  rw [s2] at a3
  exact ⟨(a1.below b2).below b3, a2.below b3, a3, OwnQ.nil _ _ _, below_chain (below_chain b1 b2) b3⟩
/-- A clause is appended, and the query's cell is written. -/
theorem MkAt.more {cs : List Value} {c : Cl} {T Y : Option Addr} {nT cT nY cY : Nat} {A' : Option Addr} {cap' : Nat} {w8 : World} (h : MkAt w0 wr w vq A n cap q) (ho : OwnC 2 wr (w.heap.size + 1 + 1 + 1) 54 A n cap cs) (hc : ClsR w0 q cs) (o1 : RdS w0 T nT cT c.tags) (o2 : RdS w0 Y nY cY c.types)
    (ho8 : OwnC 2 w8 (w.heap.size + 1 + 1 + 1) 54 A' (n + 1) cap' (cs ++ [.slice T nT cT, .slice Y nY cY])) (hg : wr.grownBy w8 (A.map (·.block))) :
    w8.frozen? ⟨w.heap.size + 1 + 1, 0, none⟩ = false ∧ w8.cell? ⟨w.heap.size + 1 + 1, 0, none⟩ = some (.slice A n cap) ∧ MkAt w0 (w8.setCell ⟨w.heap.size + 1 + 1, 0, none⟩ (.slice A' (n + 1) cap')) w vq A' (n + 1) cap' (q ++ [c]) := by
  have low : ∀ r, A.map (·.block) = some r → w.heap.size + 1 + 1 + 1 ≤ r := fun r e => by
    cases A with
    | none => cases e
    | some a =>
      simp only [Option.map_some, Option.some.injEq] at e
      have := (OwnC.lt ho a rfl).1
      omega
  have hF : ∀ k, k < w.heap.size + 1 + 1 + 1 → some k ≠ A.map (·.block) := fun k hk e => by have := low k e.symm; omega
  have e8 := h.out.grown hg (hF _ (by omega))
  have hs := grownSet w8 (w.heap.size + 1 + 1) 0 (.slice A' (n + 1) cap')
  refine ⟨e8.frozen 0, e8.c0, (h.eq.grown hg (hF _ (by omega))).far (by omega) _, (h.res.grown hg (hF _ (by omega))).far (by omega) _, e8.set _, OwnQ.grown (OwnQ.more h.own.len hc o1 o2 ho8) hs (by omega), ?_⟩
  have b8 := h.bel.grown hg h.bel.size (fun r e => by have := low r e; omega)
  exact b8.setCell (by show w.heap.size ≤ w.heap.size + 1 + 1; omega) _
end

end Go.Proofs.Ytppdljkfhoekpaa.QuWalk

/-
  The laws' words of layer 6: few.
-/
namespace Go.Proofs.Ytppdljkfhoekpaa.QuWalk
open Go.RowKit Go.Proofs.Ytppdljkfhoekpaa.MemRow Go.Proofs.Ytppdljkfhoekpaa.Ev Go.Proofs.Ytppdljkfhoekpaa.NameMath Go.Proofs.Ytppdljkfhoekpaa.NameWalk Go.Proofs.Ytppdljkfhoekpaa.EvWalk Go.Proofs.Ytppdljkfhoekpaa.Qu

/-- At most eight clauses, of eight tags and eight types each. -/
def fewC (c : Cl) : Cl := ⟨c.tags.take 8, c.types.take 8⟩
def fewQ (q : List Cl) : List Cl := (q.take 8).map fewC
theorem fewC_ok {c : Cl} (h : ClOk c) : ClOk (fewC c) := ⟨fun x hx => h.tags x (List.mem_of_mem_take hx), fun x hx => h.types x (List.mem_of_mem_take hx)⟩
theorem fewQ_ok {q : List Cl} (h : QOk q) : QOk (fewQ q) := fun c hc => by
  obtain ⟨d, hd, rfl⟩ := List.mem_map.1 hc
  exact fewC_ok (h d (List.mem_of_mem_take hd))
theorem fewQ_len (q : List Cl) : (fewQ q).length ≤ 8 := by simp only [fewQ, List.length_map, List.length_take]; omega
theorem fewQ_terms (q : List Cl) : ∀ c ∈ fewQ q, c.tags.length ≤ 8 ∧ c.types.length ≤ 8 := fun c hc => by
  obtain ⟨d, hd, rfl⟩ := List.mem_map.1 hc
  simp only [fewC, List.length_take]
  omega
theorem fewQ_snoc (q : List Cl) (j : Nat) (h : j < q.length) (h8 : j < 8) : fewQ (q.take (j + 1)) = fewQ (q.take j) ++ [fewC (q.getD j noCl)] := by
  unfold fewQ
  rw [List.take_take, List.take_take, Nat.min_eq_right (by omega), Nat.min_eq_right (by omega), cl_take q j h, List.map_append]
  rfl
theorem fewQ_take (q : List Cl) (j : Nat) (h : q.length ≤ j ∨ 8 ≤ j) : fewQ (q.take j) = fewQ q := by
  unfold fewQ
  rw [List.take_take]
  rcases h with h | h
  · congr 1
    rcases Nat.le_total 8 j with h8 | h8
    · rw [Nat.min_eq_left h8]
    · rw [Nat.min_eq_right h8, List.take_of_length_le h, List.take_of_length_le (by omega)]
  · rw [Nat.min_eq_left h]

end Go.Proofs.Ytppdljkfhoekpaa.QuWalk

/-
  The laws' words of layer 13: few, less.
-/
namespace Go.Proofs.Ytppdljkfhoekpaa.PoWalk
open Go.RowKit Go.Proofs.Ytppdljkfhoekpaa.MemRow Go.Proofs.Ytppdljkfhoekpaa.Ev Go.Proofs.Ytppdljkfhoekpaa.NameMath Go.Proofs.Ytppdljkfhoekpaa.NameWalk Go.Proofs.Ytppdljkfhoekpaa.EvWalk Go.Proofs.Ytppdljkfhoekpaa.NumMem Go.Proofs.Ytppdljkfhoekpaa.Qu Go.Proofs.Ytppdljkfhoekpaa.QuWalk

set_option maxHeartbeats 8000000 in
set_option maxRecDepth 100000 in
theorem less13_any (v : Value) (q : List Cl) (w0 w : World) (hv : IsQ w0 v q) (hb0 : Below w0.heap.size w0 w) :
    Calls Try.prog 25 #[v] w fun e w' => ∃ A n ca, e = .returned (.agg #[.slice A n ca]) ∧ OwnQ w0 w' (w.heap.size + 1 + 1 + 1) A n ca (fewQ q) ∧ Below w.heap.size w w' := by
  obtain ⟨C, n, cap, rfl, rC⟩ := hv
  have LC := Go.Lib.hid rC.len
  have hn := rC.le
  unfold maxLen at hn
  have s1 := MkAt.new w0 w (.slice C n cap)
  go_enter Try.func25, Try.ntmps25
  go_upto_region 2 with (fail)
  generalize ((w.alloc (.cells #[.slice C n cap] 30)).alloc (.cells #[.slice none 0 0] 30)).alloc (.cells #[.slice none 0 0] 30) = w1 at *
  go_wp2_with fail
  go_loopw [4, 5] (fun i _ wr => ∃ (j : Nat) (A : Option Addr) (ca : Nat), j ≤ n ∧ j ≤ 8 ∧ i = .int .i64 j ∧ MkAt w0 wr w (.slice C n cap) A j ca (fewQ (q.take j))) (fun i _ _ => n - (intOf i).toNat)
  case atStart => exact ⟨0, none, 0, Nat.zero_le _, by omega, rfl, s1⟩
  case round =>
    obtain ⟨j, A, ca, hjn, hj8, rfl, sr⟩ := hrel
    clear s1
    have k0 := sr.eq.c0
    by_cases hlt : j < n ∧ j < 8
    · obtain ⟨h1, h2⟩ := hlt
      obtain ⟨bt, ot, rfl, _, kt⟩ := rC.at_ (by omega)
      obtain ⟨T, nT, cT, Y, nY, cY, x0', x1', rT, rY⟩ := kt j h1
      have x0 := bcell (below_chain hb0 sr.bel) x0'
      have x1 := bcell (below_chain hb0 sr.bel) x1'
      have i1 : (j : Int) < n := by omega
      have i2 : (j : Int) < 8 := by omega
      have HS := Go.Lib.hid (fewQ_snoc q j (by rw [LC.out]; exact h1) h2)
      clear kt x0' x1'
      generalize q.getD j noCl = c at *
      go_upto_region 6 with (fail)
      have al : Below wr.heap.size wr (wr.alloc (.cells #[.slice T nT cT, .slice Y nY cY] 54)) := (Below.refl _ _).alloc (Nat.le_refl _) _
      have c5 := ClAt.new wr (.slice T nT cT) (.slice Y nY cY)
      have s5 := sr.below al
      have glt : w.heap.size + 1 + 1 < wr.heap.size := sr.out.lt
      have gA : ∀ a, A = some a → a.block ≠ wr.heap.size := fun a hA => by
        obtain ⟨cs, o, _, _⟩ := sr.own
        have := (OwnC.lt o a hA).2
        omega
      have GA := Go.Lib.hid gA
      generalize wr.alloc (.cells #[.slice T nT cT, .slice Y nY cY] 54) = w5 at *
      generalize wr.heap.size = g at *
      have LT := Go.Lib.hid rT.len
      have LY := Go.Lib.hid rY.len
      have hnT := RdC.le rT
      have hnY := RdC.le rY
      unfold maxLen at hnT hnY
      clear sr k0 x0 x1 al gA
      have k5 := c5.c0
      go_upto_if 26 with (fail)
      go_cut [5] (fun p wx => p = .pointer (some ⟨g, 0, none⟩) ∧ ∃ nT', ClAt wx g (.slice T nT' cT) (.slice Y nY cY) ∧ RdS w0 T nT' cT (c.tags.take 8) ∧ MkAt w0 wx w (.slice (some ⟨bt, ot, none⟩) n cap) A j ca (fewQ (q.take j)))
      case first =>
        by_cases h8 : 8 < nT
        · obtain ⟨q1, d1⟩ := slice_hi (P := Try.prog) 39 9 Try.underlying39 elem_strs string_size rT (m := 8) (by omega)
          rw [strs_take] at d1
          have q1' : ∀ W, (Instr.slice 39 (.slice T nT cT) none (some (.int .i64 8)) none).run Try.prog W = .ok (.slice T 8 cT) W := q1
          have i3 : (8 : Int) < nT := by omega
          have z5 := c5.frozen 0
          have c6 := c5.set0 (.slice T 8 cT)
          have s6 := s5.far glt GA.out 0 (.slice T 8 cT)
          have C6 := Go.Lib.hid c6
          have S6 := Go.Lib.hid s6
          clear q1 c6 s6
          go_wp2_with fail
          go_meet
          exact ⟨rfl, 8, C6.out, d1, S6.out⟩
        · have i3 : ¬ (8 : Int) < nT := by omega
          have d1 : RdS w0 T nT cT (c.tags.take 8) := by rw [List.take_of_length_le (by rw [LT.out]; omega)]; exact rT
          go_wp2_with fail
          go_meet
          exact ⟨rfl, nT, c5, d1, s5⟩
      case rest =>
        obtain ⟨rfl, nT', c6, d6, s6⟩ := hcut
        clear k5 c5 s5
        have k6 := c6.c1
        go_upto_if 34 with (fail)
        go_cut [5] (fun p wx => p = .pointer (some ⟨g, 0, none⟩) ∧ ∃ nY', ClAt wx g (.slice T nT' cT) (.slice Y nY' cY) ∧ RdS w0 Y nY' cY (c.types.take 8) ∧ MkAt w0 wx w (.slice (some ⟨bt, ot, none⟩) n cap) A j ca (fewQ (q.take j)))
        case first =>
          by_cases h8 : 8 < nY
          · obtain ⟨q1, d1⟩ := slice_hi (P := Try.prog) 39 9 Try.underlying39 elem_strs string_size rY (m := 8) (by omega)
            rw [strs_take] at d1
            have q1' : ∀ W, (Instr.slice 39 (.slice Y nY cY) none (some (.int .i64 8)) none).run Try.prog W = .ok (.slice Y 8 cY) W := q1
            have i3 : (8 : Int) < nY := by omega
            have z5 := c6.frozen 1
            have c7 := c6.set1 (.slice Y 8 cY)
            have s7 := s6.far glt GA.out 1 (.slice Y 8 cY)
            have C7 := Go.Lib.hid c7
            have S7 := Go.Lib.hid s7
            clear q1 c7 s7
            go_wp2_with fail
            go_meet
            exact ⟨rfl, 8, C7.out, d1, S7.out⟩
          · have i3 : ¬ (8 : Int) < nY := by omega
            have d1 : RdS w0 Y nY cY (c.types.take 8) := by rw [List.take_of_length_le (by rw [LY.out]; omega)]; exact rY
            go_wp2_with fail
            go_meet
            exact ⟨rfl, nY, c6, d1, s6⟩
        case rest =>
          obtain ⟨rfl, nY', c7, d7, s7⟩ := hcut
          clear k6 c6 s6
          have k0 := c7.c0
          have k1 := c7.c1
          have o0 := s7.out.c0
          have al : Below wc.heap.size wc (wc.alloc (.cells #[.slice T nT' cT, .slice Y nY' cY] 54)) := (Below.refl _ _).alloc (Nat.le_refl _) _
          have s8 := s7.below al
          have d8 : RdC 2 (wc.alloc (.cells #[.slice T nT' cT, .slice Y nY' cY] 54)) (some ⟨wc.heap.size, 0, none⟩) 1 1 [.slice T nT' cT, .slice Y nY' cY] := RdC.new wc 54 [.slice T nT' cT, .slice Y nY' cY] rfl (by decide)
          have big : w.heap.size + 1 + 1 + 1 ≤ (wc.alloc (.cells #[.slice T nT' cT, .slice Y nY' cY] 54)).heap.size := s8.out.lt
          have h63 : j + 1 ≤ maxLen := by unfold maxLen; omega
          have hsz : (j + 1) * 48 ≤ 140737488355328 := by omega
          obtain ⟨cs, oc, hcl, hcs⟩ := s8.own
          clear s7 c7 GA al LT LY hnT hnY
          go_wp2_with (at_builtin; refine wpList_append_cells rfl (.tmp 40) (.tmp 42) 28 rfl 54 (.agg #[.slice none 0 0, .slice none 0 0]) 48 Try.underlying28 clause_info rfl (by decide) rfl rfl oc d8 (cl_one _ _ _ _ _ _) h63 hsz big ?_; intro A9 c9 w9 o9 g9 _; obtain ⟨z9, k9, n9⟩ := s8.more (c := fewC c) oc hcs d6 d7 o9 g9)
          go_roundw
          case rel => exact ⟨j + 1, A9, c9, by omega, by omega, by go_num, by rw [HS.out]; exact n9⟩
          case measure => simp [intOf]; omega
    · have hq : fewQ (q.take j) = fewQ q := fewQ_take q j (by rw [LC.out]; omega)
      rw [hq] at sr
      have HQ := Go.Lib.hid hq
      have o0 := sr.out.c0
      have r0 := sr.res.c0
      have z0 := sr.res.frozen 0
      have e9 := sr.res.set (.slice A j ca)
      have rq9 : OwnQ w0 (wr.setCell ⟨w.heap.size + 1, 0, none⟩ (.slice A j ca)) (w.heap.size + 1 + 1 + 1) A j ca (fewQ q) :=
        OwnQ.grown sr.own (grownSet wr (w.heap.size + 1) 0 (.slice A j ca)) (by omega)
      have b9 : Below w.heap.size w (wr.setCell ⟨w.heap.size + 1, 0, none⟩ (.slice A j ca)) := sr.bel.setCell (by show w.heap.size ≤ w.heap.size + 1; omega) _
      have E9 := Go.Lib.hid e9
      have RQ := Go.Lib.hid rq9
      have BQ := Go.Lib.hid b9
      clear hq e9 rq9 b9
      by_cases h1 : j < n
      · have i2 : ¬ (j : Int) < 8 := by omega
        have i1 : (j : Int) < n := by omega
        clear hlt
        go_wp2_with fail
        have e9 := E9.out
        have rq9 := RQ.out
        have b9 := BQ.out
        generalize wr.setCell ⟨w.heap.size + 1, 0, none⟩ (.slice A j ca) = w9 at *
        have q0 := e9.c0
        exact bodyPost_ret (v := .agg #[.slice A j ca]) (by simp [results, Try.results25, go_sem, q0]) rfl ⟨_, _, _, rfl, rq9, b9⟩
      · have i1 : ¬ (j : Int) < n := by omega
        clear hlt
        go_wp2_with fail
        have e9 := E9.out
        have rq9 := RQ.out
        have b9 := BQ.out
        generalize wr.setCell ⟨w.heap.size + 1, 0, none⟩ (.slice A j ca) = w9 at *
        have q0 := e9.c0
        exact bodyPost_ret (v := .agg #[.slice A j ca]) (by simp [results, Try.results25, go_sem, q0]) rfl ⟨_, _, _, rfl, rq9, b9⟩


/-- An event with at most ten tags. -/
def fewT (e : Ev) : Ev := ⟨e.s, e.t, e.tags.take 10, e.fs⟩
set_option maxHeartbeats 8000000 in
set_option maxRecDepth 100000 in
theorem few13_any (v : Value) (ev : Ev) (w0 w : World) (hv : IsEv w0 v ev) :
    Calls Try.prog 19 #[v] w fun e w' => ∃ u, e = .returned u ∧ IsEv w0 u (fewT ev) ∧ Below w.heap.size w w' := by
  obtain ⟨A, n, ca, B, m, cb, rfl, ha, hb⟩ := hv
  obtain ⟨s, t, ts, fs⟩ := ev
  simp only at ha hb
  have hn := RdC.le ha
  unfold maxLen at hn
  have LA := Go.Lib.hid ha.len
  by_cases hA : 10 < n
  · obtain ⟨q1, d1⟩ := slice_hi (P := Try.prog) 39 9 Try.underlying39 elem_strs string_size ha (m := 10) (by omega)
    rw [strs_take] at d1
    have q1' : ∀ W, (Instr.slice 39 (.slice A n ca) none (some (.int .i64 10)) none).run Try.prog W = .ok (.slice A 10 ca) W := q1
    clear q1
    have i1 : (10 : Int) < n := by omega
    go_enter Try.func19, Try.ntmps19
    go_wp2_with fail
    have bel : Below w.heap.size w ((w.alloc (.cells #[.string s, .string t, .slice A 10 ca, .slice B m cb] 42)).alloc (.cells #[.string s, .string t, .slice A 10 ca, .slice B m cb] 42)) := ((Below.refl _ _).alloc (Nat.le_refl _) _).alloc (by simp) _
    exact bodyPost_ret (v := .agg #[.string s, .string t, .slice A 10 ca, .slice B m cb]) (by simp [results, Try.results19, go_sem]) rfl ⟨_, rfl, ⟨_, _, _, _, _, _, rfl, d1, hb⟩, bel⟩
  · have d1 : RdS w0 A n ca (ts.take 10) := by rw [List.take_of_length_le (by rw [LA.out]; omega)]; exact ha
    have i1 : ¬ (10 : Int) < n := by omega
    go_enter Try.func19, Try.ntmps19
    go_wp2_with fail
    have bel : Below w.heap.size w ((w.alloc (.cells #[.string s, .string t, .slice A n ca, .slice B m cb] 42)).alloc (.cells #[.string s, .string t, .slice A n ca, .slice B m cb] 42)) := ((Below.refl _ _).alloc (Nat.le_refl _) _).alloc (by simp) _
    exact bodyPost_ret (v := .agg #[.string s, .string t, .slice A n ca, .slice B m cb]) (by simp [results, Try.results19, go_sem]) rfl ⟨_, rfl, ⟨_, _, _, _, _, _, rfl, d1, hb⟩, bel⟩

end Go.Proofs.Ytppdljkfhoekpaa.PoWalk

/-
  append on bytes: onto a row of the call's own, from a slice that reads as bytes (nil and empty let in). No Go text here.
-/
namespace Go.Proofs.Ytppdljkfhoekpaa.NumMem
open Go.RowKit

/-- A slice of the call's own (its block from 'base' on) that holds the bytes l. -/
def Own (w : World) (base : Nat) (t : TypeId) (A : Option Addr) (n cap : Nat) (l : List UInt8) : Prop := w.ownsRow base t 1 (.slice A n cap) n (cellsOf l)

variable {w w' : World} {base : Nat} {t : TypeId} {A : Option Addr} {n cap : Nat} {l : List UInt8}

theorem Own.len (h : Own w base t A n cap l) : l.length = n := by
  have := h.1
  simpa [cellsOf] using this

theorem Own.rd (h : Own w base t A n cap l) : Rd w A n cap l := by
  have hl := h.len
  rcases h.2 with ⟨hv, hn⟩ | ⟨g, c, cur, hv, hb, hg, hnc, hcm, hcs, htake⟩
  · injection hv with e1 e2 e3
    subst e1 e3
    refine ⟨hl, by omega, Nat.zero_le _, fun h0 => absurd h0 (by omega)⟩
  · injection hv with e1 e2 e3
    subst e1 e3
    refine Rd.of_block hg hl hnc hcm fun i hi => ?_
    have hh : (cellsOf l)[i]? = cur.toList[i]? := by
      rw [← htake, List.getElem?_take_of_lt (by omega)]
    have hi' : i < l.length := by omega
    rw [← Array.getElem?_toList, ← hh]
    simp [cellsOf, List.getElem?_eq_getElem hi', List.getD]

theorem Own.block (h : Own w base t A n cap l) {b o : Nat} (hA : A = some ⟨b, o, none⟩) : base ≤ b ∧ b < w.heap.size := by
  subst hA
  exact h.lt b rfl

theorem Own.below (h : Own w base t A n cap l) (hb : Below w.heap.size w w') : Own w' base t A n cap l := World.ownsRow.kept h (below_grown hb none) (by
  cases hv : (Value.slice A n cap).ownBlock <;> simp)

theorem Own.empty (w : World) (t : TypeId) (hb : base ≤ w.heap.size) : Own (w.alloc (.cells #[] t)) base t (some ⟨w.heap.size, 0, none⟩) 0 0 [] :=
  World.ownsRow_made w #[] 0 hb (Nat.zero_le _) (by simp)

section
variable {P : Program}
theorem run_append_bytes (T ty e : TypeId) (hT : P.underlying T = some (.slice e)) (hi : (P.info? e).map (fun i => (i.zero, i.size, i.bytes)) = some (some (.int .u8 0), 1, 1))
    (hown : Own w base e A n cap l) {B : Option Addr} {m c : Nat} {k : List UInt8} (hr : Rd w B m c k) (hsz : n + m ≤ 140737488355328) (hbase : base ≤ w.heap.size) :
    ∃ A' cap' w', (Builtin.append_ #[T, T] ty #[.slice A n cap, .slice B m c]).run P w = .ok (.slice A' (n + m) cap') w' ∧ Own w' base e A' (n + m) cap' (l ++ k) ∧ w.grownBy w' (Value.slice A n cap).ownBlock := by
  obtain ⟨i, h1, h2, h3, h4⟩ : ∃ i, P.info? e = some i ∧ i.zero = some (.int .u8 0) ∧ i.size = 1 ∧ i.bytes = 1 := by
    cases hq : P.info? e with
    | none => simp [hq] at hi
    | some i => simp [hq] at hi; exact ⟨i, rfl, hi.1, hi.2.1, hi.2.2⟩
  have done : ∀ v' w2, (Builtin.append_ #[T, T] ty #[.slice A n cap, .slice B m c]).run P w = .ok v' w2 → w2.ownsRow base e 1 v' (n + m) (cellsOf l ++ cellsOf k) → w.grownBy w2 (Value.slice A n cap).ownBlock →
      ∃ A' cap' w', (Builtin.append_ #[T, T] ty #[.slice A n cap, .slice B m c]).run P w = .ok (.slice A' (n + m) cap') w' ∧ Own w' base e A' (n + m) cap' (l ++ k) ∧ w.grownBy w' (Value.slice A n cap).ownBlock := by
    intro v' w2 hrun ho hg
    rcases ho.2 with ⟨rfl, hn⟩ | ⟨g, c2, cur, rfl, hrest⟩
    · refine ⟨none, 0, w2, by rw [hrun, hn], ?_, hg⟩
      unfold Own
      rw [cellsOf_append, hn]
      rw [hn] at ho
      exact ho
    · refine ⟨_, c2, w2, hrun, ?_, hg⟩
      unfold Own
      rw [cellsOf_append]
      exact ho
  cases B with
  | none =>
    have hm : m = 0 := by
      rcases Nat.eq_zero_or_pos m with h0 | h0
      · exact h0
      · obtain ⟨b, o, h, _⟩ := hr.2.2.2 h0
        cases h
    subst hm
    have hk : k = [] := List.eq_nil_of_length_eq_zero hr.len
    subst hk
    refine done (.slice A n cap) w ?_ (by simpa [cellsOf, Own] using hown) (World.grownBy.refl _ _)
    have hown' := hown
    rcases hown'.2 with ⟨hv, rfl⟩ | ⟨g, c2, cur, hv, _, _, hnc, _⟩
    · injection hv with e1 e2 e3
      subst e1 e3
      simp [Builtin.append_, run_underlying hT, sizeOf, typeInfo, h1, Builtin.lenOf, Builtin.firstCells]
    · injection hv with e1 e2 e3
      subst e1 e3
      simp [Builtin.append_, run_underlying hT, sizeOf, typeInfo, h1, Builtin.lenOf, Builtin.firstCells, hnc, storeCells]
  | some ad =>
    have hsrc : ∀ j u, (cellsOf k)[j]? = some u → w.cell? (ad.add j) = some u := by
      intro j u hu
      obtain ⟨ad', h, hc⟩ := hr.src (by have := (List.getElem?_eq_some_iff.1 hu).1; omega)
      injection h with h
      subst h
      exact hc j u hu
    obtain ⟨v', w2, hrun, ho, hg, _, _⟩ := run_append_own_at (P := P) w base T ty e i (.int .u8 0) 1 1 hT h1 h2 h3 h4 rfl (by omega) _ n _ hown ad m c (cellsOf k) (by rw [cellsOf_length, hr.len, Nat.mul_one]) hsrc (cellsOf_one k) (by unfold maxLen; omega) (by omega) hbase
    exact done v' w2 hrun ho hg

theorem wp_append_bytes {o : Oper} {a : Act} {K : Act → World → Prop} {Q : Exit → Act → World → Prop} (s x : Operand) (T : TypeId)
    (ho : o.op = .call { callee := .builtin .append, args := #[s, x], argTypes := #[T, T] }) (e : TypeId) (hT : P.underlying T = some (.slice e)) (hi : (P.info? e).map (fun i => (i.zero, i.size, i.bytes)) = some (some (.int .u8 0), 1, 1))
    (hs : a.eval s = .slice A n cap) {B : Option Addr} {m c : Nat} {k : List UInt8} (hx : a.eval x = .slice B m c) (hown : Own w base e A n cap l) (hr : Rd w B m c k) (hsz : n + m ≤ 140737488355328) (hbase : base ≤ w.heap.size)
    (h : ∀ A' cap' w', Own w' base e A' (n + m) cap' (l ++ k) → w.grownBy w' (Value.slice A n cap).ownBlock → K (a.put o.dst (.slice A' (n + m) cap')) w') : o.wp P a w K Q := by
  obtain ⟨A', cap', w', hrun, h2, h3⟩ := run_append_bytes (P := P) T o.type e hT hi hown hr hsz hbase
  unfold Oper.wp execOp
  simp only [ho, resolve, invoke, builtin, Sem.run_bind, Sem.run_pure, Result.andThen_ok, List.map_toArray, List.map_cons, List.map_nil, hs, hx, hrun]
  exact h A' cap' w' h2 h3

theorem wpList_append_bytes {ops : Array Oper} {rest : List Oper} {o : Oper} {a : Act} {Q : Exit → Act → World → Prop} (hgd : o.guard = none) (s x : Operand) (T : TypeId)
    (ho : o.op = .call { callee := .builtin .append, args := #[s, x], argTypes := #[T, T] }) (e : TypeId) (hT : P.underlying T = some (.slice e)) (hi : (P.info? e).map (fun i => (i.zero, i.size, i.bytes)) = some (some (.int .u8 0), 1, 1))
    (hs : a.eval s = .slice A n cap) {B : Option Addr} {m c : Nat} {k : List UInt8} (hx : a.eval x = .slice B m c) (hown : Own w base e A n cap l) (hr : Rd w B m c k) (hsz : n + m ≤ 140737488355328) (hbase : base ≤ w.heap.size)
    (h : ∀ A' cap' w', Own w' base e A' (n + m) cap' (l ++ k) → w.grownBy w' (Value.slice A n cap).ownBlock → wpList P ops Q rest (a.put o.dst (.slice A' (n + m) cap')) w') : wpList P ops Q (o :: rest) a w :=
  wpList_plain hgd fun _ hK => wp_append_bytes s x T ho e hT hi hs hx hown hr hsz hbase fun A' cap' w' h2 h3 => hK _ _ (h A' cap' w' h2 h3)

theorem step_append_bytes {ops : Array Oper} {o : Oper} {a : Act} {K : Act → World → Prop} {Q : Exit → Act → World → Prop} {E : Prop} (hw : Region.wanted o (yielded ops a.tmps) = true) (s x : Operand) (T : TypeId)
    (ho : o.op = .call { callee := .builtin .append, args := #[s, x], argTypes := #[T, T] }) (e : TypeId) (hT : P.underlying T = some (.slice e)) (hi : (P.info? e).map (fun i => (i.zero, i.size, i.bytes)) = some (some (.int .u8 0), 1, 1))
    (hs : a.eval s = .slice A n cap) {B : Option Addr} {m c : Nat} {k : List UInt8} (hx : a.eval x = .slice B m c) (hown : Own w base e A n cap l) (hr : Rd w B m c k) (hsz : n + m ≤ 140737488355328) (hbase : base ≤ w.heap.size)
    (h : ∀ A' cap' w', Own w' base e A' (n + m) cap' (l ++ k) → w.grownBy w' (Value.slice A n cap).ownBlock → K (a.put o.dst (.slice A' (n + m) cap')) w') :
    if Region.wanted o (yielded ops a.tmps) = true then Oper.wp P o a w K Q else E := by
  rw [if_pos hw]
  exact wp_append_bytes s x T ho e hT hi hs hx hown hr hsz hbase h
/-- append([]byte{}, x...): a copy of x. -/
theorem wpList_append_fresh {ops : Array Oper} {rest : List Oper} {o : Oper} {a : Act} {Q : Exit → Act → World → Prop} (hgd : o.guard = none) (s x : Operand) (T : TypeId)
    (ho : o.op = .call { callee := .builtin .append, args := #[s, x], argTypes := #[T, T] }) (e : TypeId) (hT : P.underlying T = some (.slice e)) (hi : (P.info? e).map (fun i => (i.zero, i.size, i.bytes)) = some (some (.int .u8 0), 1, 1))
    {c0 : Nat} (hs : a.eval s = .slice A 0 c0) {B : Option Addr} {m c : Nat} {k : List UInt8} (hx : a.eval x = .slice B m c) (hown : Own w base e A 0 c0 []) (hr : Rd w B m c k) (hsz : m ≤ 140737488355328) (hbase : base ≤ w.heap.size) (w0 : World) (hb : Below base w0 w)
    (h : ∀ A' cap' w', Own w' base e A' m cap' k → Below base w0 w' → wpList P ops Q rest (a.put o.dst (.slice A' m cap')) w') : wpList P ops Q (o :: rest) a w :=
  wpList_append_bytes hgd s x T ho e hT hi hs hx hown hr (by omega) hbase fun A' cap' w' h2 h3 => by
    have h4 := h A' cap' w' (by simpa using h2) (hb.grown h3 hbase (fun g hg => (World.ownsRow.lt hown g hg).1))
    rw [Nat.zero_add]
    exact h4

/-- append(v, x...), v of the call's own. -/
theorem wpList_append_more {ops : Array Oper} {rest : List Oper} {o : Oper} {a : Act} {Q : Exit → Act → World → Prop} (hgd : o.guard = none) (s x : Operand) (T : TypeId)
    (ho : o.op = .call { callee := .builtin .append, args := #[s, x], argTypes := #[T, T] }) (e : TypeId) (hT : P.underlying T = some (.slice e)) (hi : (P.info? e).map (fun i => (i.zero, i.size, i.bytes)) = some (some (.int .u8 0), 1, 1))
    (hs : a.eval s = .slice A n cap) {B : Option Addr} {m c : Nat} {k : List UInt8} (hx : a.eval x = .slice B m c) (hown : Own w base e A n cap l) (hr : Rd w B m c k) (hsz : n + m ≤ 140737488355328) (hbase : base ≤ w.heap.size) (w0 : World) (hb : Below base w0 w)
    (h : ∀ A' cap' w', Own w' base e A' (n + m) cap' (l ++ k) → Below base w0 w' → wpList P ops Q rest (a.put o.dst (.slice A' (n + m) cap')) w') : wpList P ops Q (o :: rest) a w :=
  wpList_append_bytes hgd s x T ho e hT hi hs hx hown hr hsz hbase fun A' cap' w' h2 h3 =>
    h A' cap' w' h2 (hb.grown h3 hbase (fun g hg => (World.ownsRow.lt hown g hg).1))
/-- append([]byte{}, x...) inside a region that draws its order. -/
theorem step_append_fresh {ops : Array Oper} {o : Oper} {a : Act} {K : Act → World → Prop} {Q : Exit → Act → World → Prop} {E : Prop} (hw : Region.wanted o (yielded ops a.tmps) = true) (s x : Operand) (T : TypeId)
    (ho : o.op = .call { callee := .builtin .append, args := #[s, x], argTypes := #[T, T] }) (e : TypeId) (hT : P.underlying T = some (.slice e)) (hi : (P.info? e).map (fun i => (i.zero, i.size, i.bytes)) = some (some (.int .u8 0), 1, 1))
    {c0 : Nat} (hs : a.eval s = .slice A 0 c0) {B : Option Addr} {m c : Nat} {k : List UInt8} (hx : a.eval x = .slice B m c) (hown : Own w base e A 0 c0 []) (hr : Rd w B m c k) (hsz : m ≤ 140737488355328) (hbase : base ≤ w.heap.size) (w0 : World) (hb : Below base w0 w)
    (h : ∀ A' cap' w', Own w' base e A' m cap' k → Below base w0 w' → K (a.put o.dst (.slice A' m cap')) w') :
    if Region.wanted o (yielded ops a.tmps) = true then Oper.wp P o a w K Q else E :=
  step_append_bytes hw s x T ho e hT hi hs hx hown hr (by omega) hbase fun A' cap' w' h2 h3 => by
    have h4 := h A' cap' w' (by simpa using h2) (hb.grown h3 hbase (fun g hg => (World.ownsRow.lt hown g hg).1))
    rw [Nat.zero_add]
    exact h4
end

end Go.Proofs.Ytppdljkfhoekpaa.NumMem

/-
  Things in memory, with their blocks: what a call may have changed, things beside each other, boxes. No function of the program here.
-/
namespace Go.Proofs.Ytppdljkfhoekpaa.DkWalk
open Go.RowKit Go.Proofs.Ytppdljkfhoekpaa.MemRow Go.Proofs.Ytppdljkfhoekpaa.Ev Go.Proofs.Ytppdljkfhoekpaa.NameMath Go.Proofs.Ytppdljkfhoekpaa.NameWalk Go.Proofs.Ytppdljkfhoekpaa.EvWalk Go.Proofs.Ytppdljkfhoekpaa.NumMem

/-! ### What a call may have changed: the blocks of F, and none that was there besides -/
structure Ch (F : Nat → Prop) (w w' : World) : Prop where
  os : w'.os = w.os
  tape : w'.tape = w.tape
  output : w'.output = w.output
  size : w.heap.size ≤ w'.heap.size
  block : ∀ k, k < w.heap.size → ¬ F k → w'.heap[k]? = w.heap[k]?
/-- The blocks of F, and all that are new since w. -/
def up (F : Nat → Prop) (w w' : World) (k : Nat) : Prop := F k ∨ (w.heap.size ≤ k ∧ k < w'.heap.size)
section
variable {F G : Nat → Prop} {w w1 w' : World}
theorem Ch.refl (F : Nat → Prop) (w : World) : Ch F w w := ⟨rfl, rfl, rfl, Nat.le_refl _, fun _ _ _ => rfl⟩
theorem Ch.trans (h : Ch F w w1) (k : Ch (up F w w1) w1 w') : Ch F w w' :=
  ⟨k.os.trans h.os, k.tape.trans h.tape, k.output.trans h.output, Nat.le_trans h.size k.size, fun i hi hn => (k.block i (Nat.lt_of_lt_of_le hi h.size) (fun hu => by
    rcases hu with hu | hu
    · exact hn hu
    · omega)).trans (h.block i hi hn)⟩
theorem Ch.wide (h : Ch F w w') (hs : ∀ k, F k → G k) : Ch G w w' := ⟨h.os, h.tape, h.output, h.size, fun k hk hn => h.block k hk fun hf => hn (hs k hf)⟩
theorem Ch.of_below (h : Below w.heap.size w w') : Ch F w w' := ⟨h.os, h.tape, h.output, h.size, fun k hk _ => h.block k hk⟩
theorem Ch.of_grown {row : Option Nat} (h : w.grownBy w' row) (hr : ∀ r, row = some r → F r ∨ w.heap.size ≤ r) : Ch F w w' :=
  ⟨h.os, h.tape, h.output, h.size, fun k hk hn => h.block k hk fun e => by
    rcases hr k e.symm with h1 | h1
    · exact hn h1
    · omega⟩
/-- A step behind a call. -/
theorem Ch.then_below (h : Ch F w w1) (k : Below w1.heap.size w1 w') : Ch F w w' := h.trans (Ch.of_below k)
theorem Ch.then_grown {row : Option Nat} (h : Ch F w w1) (k : w1.grownBy w' row) (hr : ∀ r, row = some r → up F w w1 r ∨ w1.heap.size ≤ r) : Ch F w w' := h.trans (Ch.of_grown k hr)
theorem up_mono (hs : w1.heap.size ≤ w'.heap.size) {k : Nat} (h : up F w w1 k) : up F w w' k := by
  rcases h with h | h
  · exact .inl h
  · exact .inr ⟨h.1, Nat.lt_of_lt_of_le h.2 hs⟩
theorem up_up (h1 : w.heap.size ≤ w1.heap.size) (h2 : w1.heap.size ≤ w'.heap.size) {k : Nat} (h : up (up F w w1) w1 w' k) : up F w w' k := by
  rcases h with h | h
  · exact up_mono h2 h
  · exact .inr ⟨by omega, h.2⟩
theorem up_lt (hF : ∀ k, F k → k < w.heap.size) (hs : w.heap.size ≤ w'.heap.size) {k : Nat} (h : up F w w' k) : k < w'.heap.size := by
  rcases h with h | h
  · exact Nat.lt_of_lt_of_le (hF k h) hs
  · exact h.2
end

/-! ### Rows that stay -/
theorem own_keep {k : Nat} {w w' : World} {base : Nat} {t : TypeId} {A : Option Addr} {n cap : Nat} {cs : List Value} (h : OwnC k w base t A n cap cs) (hk : ∀ a, A = some a → w'.heap[a.block]? = w.heap[a.block]?) : OwnC k w' base t A n cap cs := by
  refine ⟨h.1, ?_⟩
  rcases h.2 with h2 | ⟨g, c, cur, hv, hb, hg, rest⟩
  · exact .inl h2
  · have e1 : A = some ⟨g, 0, none⟩ := by injection hv
    exact .inr ⟨g, c, cur, hv, hb, (hk ⟨g, 0, none⟩ e1).trans hg, rest⟩
theorem rd_keep {w w' : World} {A : Option Addr} {n cap : Nat} {l : List UInt8} (h : Rd w A n cap l) (hk : ∀ a, A = some a → w'.heap[a.block]? = w.heap[a.block]?) : Rd w' A n cap l :=
  h.keep fun b o hA _ i _ => World.cell?_of_block (w := w) (a := ⟨b, o + i, none⟩) (hk ⟨b, o, none⟩ hA)
theorem own8_keep {w w' : World} {base : Nat} {t : TypeId} {A : Option Addr} {n cap : Nat} {l : List UInt8} (h : Own w base t A n cap l) (hk : ∀ a, A = some a → w'.heap[a.block]? = w.heap[a.block]?) : Own w' base t A n cap l := own_keep (k := 1) (cs := cellsOf l) h hk
theorem own8_grown {w w' : World} {base : Nat} {t : TypeId} {A : Option Addr} {n cap : Nat} {l : List UInt8} {row : Option Nat} (h : Own w base t A n cap l) (hg : w.grownBy w' row) (hne : ∀ a, A = some a → some a.block ≠ row) : Own w' base t A n cap l := OwnC.grown (k := 1) (cs := cellsOf l) h hg hne
theorem own8_lower {w : World} {base : Nat} {t : TypeId} {A : Option Addr} {n cap : Nat} {l : List UInt8} (h : Own w base t A n cap l) : Own w 0 t A n cap l := by
  refine ⟨h.1, ?_⟩
  rcases h.2 with h2 | ⟨g, c, cur, hv, _, rest⟩
  · exact .inl h2
  · exact .inr ⟨g, c, cur, hv, Nat.zero_le _, rest⟩
/-- A row of a call's own lies in no block of other elements. -/
theorem own_not {k : Nat} {w : World} {base : Nat} {t T : TypeId} {A : Option Addr} {n cap g : Nat} {cs : List Value} {x : Array Value} {fr : Nat × Nat} (h : OwnC k w base t A n cap cs) (hg : w.heap[g]? = some (.cells x T fr)) (ht : t ≠ T) : ∀ a, A = some a → a.block ≠ g := by
  intro a ha e
  rcases h.2 with ⟨hv, _⟩ | ⟨g', c, cur, hv, _, hg', _⟩
  · rw [ha] at hv
    cases hv
  · have e1 : A = some ⟨g', 0, none⟩ := by injection hv
    rw [ha] at e1
    injection e1 with e1
    rw [e1] at e
    simp only at e
    rw [e, hg] at hg'
    injection hg' with hg'
    injection hg' with _ e3
    exact ht e3.symm
theorem own8_not {w : World} {base : Nat} {t T : TypeId} {A : Option Addr} {n cap g : Nat} {l : List UInt8} {x : Array Value} {fr : Nat × Nat} (h : Own w base t A n cap l) (hg : w.heap[g]? = some (.cells x T fr)) (ht : t ≠ T) : ∀ a, A = some a → a.block ≠ g := own_not (k := 1) (cs := cellsOf l) h hg ht

/-- An object in memory, with its blocks. -/
abbrev Thing := World → (Nat → Prop) → Prop
/-- It stays while its blocks do. -/
structure Keeps (P : Thing) : Prop where
  keep : ∀ {w w' : World} {F : Nat → Prop}, P w F → w.heap.size ≤ w'.heap.size → (∀ k, F k → w'.heap[k]? = w.heap[k]?) → P w' F
  lt : ∀ {w : World} {F : Nat → Prop}, P w F → ∀ k, F k → k < w.heap.size
def NoT : Thing := fun _ F => ∀ k, ¬ F k
theorem noT_keeps : Keeps NoT := ⟨fun h _ _ => h, fun h k hk => absurd hk (h k)⟩

/-- Two objects that share no block, both behind base. -/
def Pair (base : Nat) (w : World) (P Q : Thing) : Prop := ∃ F G, P w F ∧ Q w G ∧ (∀ k, F k → base ≤ k) ∧ (∀ k, G k → base ≤ k) ∧ ∀ k, F k → ¬ G k
theorem ch_below {base : Nat} {F : Nat → Prop} {a w w' : World} (hb : Below base a w) (hc : Ch F w w') (hF : ∀ k, F k → base ≤ k) (ha : base ≤ a.heap.size) : Below base a w' :=
  ⟨hc.os.trans hb.os, hc.tape.trans hb.tape, hc.output.trans hb.output, Nat.le_trans hb.size hc.size, fun k hk => (hc.block k (Nat.lt_of_lt_of_le hk (Nat.le_trans ha hb.size)) (fun hf => by have := hF k hf; omega)).trans (hb.block k hk)⟩
section
variable {base : Nat} {w w' : World} {P P' Q Q' : Thing}
theorem Pair.swap (h : Pair base w P Q) : Pair base w Q P := by
  obtain ⟨F, G, hp, hq, h1, h2, h3⟩ := h
  exact ⟨G, F, hq, hp, h2, h1, fun k hg hf => h3 k hf hg⟩
theorem Pair.below (h : Pair base w P Q) (kp : Keeps P) (kq : Keeps Q) (hb : Below w.heap.size w w') : Pair base w' P Q := by
  obtain ⟨F, G, hp, hq, h1, h2, h3⟩ := h
  exact ⟨F, G, kp.keep hp hb.size fun k hk => hb.block k (kp.lt hp k hk), kq.keep hq hb.size fun k hk => hb.block k (kq.lt hq k hk), h1, h2, h3⟩
/-- A call of the first one. -/
theorem Pair.left {F G : Nat → Prop} (hq : Q w G) (kq : Keeps Q) (h1 : ∀ k, F k → base ≤ k) (h2 : ∀ k, G k → base ≤ k) (h3 : ∀ k, F k → ¬ G k) (hb : base ≤ w.heap.size) (hp' : P' w' (up F w w')) (hc : Ch F w w') : Pair base w' P' Q := by
  refine ⟨_, G, hp', kq.keep hq hc.size fun k hk => hc.block k (kq.lt hq k hk) fun hf => h3 k hf hk, fun k hk => ?_, h2, fun k hk hg => ?_⟩
  · rcases hk with hk | hk
    · exact h1 k hk
    · omega
  · rcases hk with hk | hk
    · exact h3 k hk hg
    · have := kq.lt hq k hg
      omega
/-- A new object beside one. -/
theorem Pair.fresh {G : Nat → Prop} (hq : Q w G) (kq : Keeps Q) (h2 : ∀ k, G k → base ≤ k) (hb : base ≤ w.heap.size) (hp' : P' w' (fun k => w.heap.size ≤ k ∧ k < w'.heap.size)) (hc : Below w.heap.size w w') : Pair base w' P' Q :=
  ⟨_, G, hp', kq.keep hq hc.size fun k hk => hc.block k (kq.lt hq k hk), fun k hk => by have := hk.1; omega, h2, fun k hk hg => by
    have := kq.lt hq k hg
    have := hk.1
    omega⟩
end

/-- Two objects that share no block, seen as one. -/
def With (Q R : Thing) : Thing := fun w G => ∃ G1 G2, Q w G1 ∧ R w G2 ∧ (∀ k, G1 k → G k) ∧ (∀ k, G2 k → G k) ∧ (∀ k, G k → k < w.heap.size) ∧ ∀ k, G1 k → ¬ G2 k
theorem with_keeps {Q R : Thing} (kq : Keeps Q) (kr : Keeps R) : Keeps (With Q R) :=
  ⟨fun ⟨G1, G2, h1, h2, i1, i2, hl, hx⟩ hs hk => ⟨G1, G2, kq.keep h1 hs fun k h => hk k (i1 k h), kr.keep h2 hs fun k h => hk k (i2 k h), i1, i2, fun k h => Nat.lt_of_lt_of_le (hl k h) hs, hx⟩, fun ⟨_, _, _, _, _, _, hl, _⟩ => hl⟩
/-- A slice that holds bytes. -/
def SlT (A : Option Addr) (n c : Nat) (l : List UInt8) : Thing := fun w G => Rd w A n c l ∧ (∀ a, A = some a → G a.block) ∧ ∀ k, G k → k < w.heap.size
theorem slT_keeps (A : Option Addr) (n c : Nat) (l : List UInt8) : Keeps (SlT A n c l) :=
  ⟨fun ⟨h, i, hl⟩ hs hk => ⟨rd_keep h fun a ha => hk _ (i a ha), i, fun k h => Nat.lt_of_lt_of_le (hl k h) hs⟩, fun h => h.2.2⟩
/-- A row of bytes of the law's own. -/
def OwT (A : Option Addr) (n c : Nat) (l : List UInt8) : Thing := fun w G => Own w 0 5 A n c l ∧ (∀ a, A = some a → G a.block) ∧ ∀ k, G k → k < w.heap.size
theorem owT_keeps (A : Option Addr) (n c : Nat) (l : List UInt8) : Keeps (OwT A n c l) :=
  ⟨fun ⟨h, i, hl⟩ hs hk => ⟨own8_keep h fun a ha => hk _ (i a ha), i, fun k h => Nat.lt_of_lt_of_le (hl k h) hs⟩, fun h => h.2.2⟩
/-- A box. -/
def BxT (g : Nat) (cs : Array Value) (t : TypeId) : Thing := fun w G => w.heap[g]? = some (.cells cs t (0, 0)) ∧ G g ∧ ∀ k, G k → k < w.heap.size
theorem bxT_keeps (g : Nat) (cs : Array Value) (t : TypeId) : Keeps (BxT g cs t) :=
  ⟨fun ⟨h, i, hl⟩ hs hk => ⟨(hk _ i).trans h, i, fun k h => Nat.lt_of_lt_of_le (hl k h) hs⟩, fun h => h.2.2⟩
theorem pair_rd {base : Nat} {w : World} {P Q : Thing} {A : Option Addr} {n c : Nat} {l : List UInt8} (h : Pair base w P (With Q (SlT A n c l))) : Rd w A n c l := by
  obtain ⟨_, _, _, ⟨_, _, _, hr, _⟩, _⟩ := h
  exact hr.1
theorem pair_ow {base : Nat} {w : World} {P Q : Thing} {A : Option Addr} {n c : Nat} {l : List UInt8} (h : Pair base w P (With Q (OwT A n c l))) : Own w 0 5 A n c l := by
  obtain ⟨_, _, _, ⟨_, _, _, hr, _⟩, _⟩ := h
  exact hr.1
theorem pair_bx {base : Nat} {w : World} {P Q : Thing} {g : Nat} {cs : Array Value} {t : TypeId} (h : Pair base w P (With Q (BxT g cs t))) : w.heap[g]? = some (.cells cs t (0, 0)) := by
  obtain ⟨_, _, _, ⟨_, _, _, hr, _⟩, _⟩ := h
  exact hr.1
theorem pair_first {base : Nat} {w : World} {P Q R : Thing} (h : Pair base w P (With Q R)) : Pair base w P Q := by
  obtain ⟨F, G, hp, ⟨G1, _, h1, _, i1, _, _⟩, hF, hG, hd⟩ := h
  exact ⟨F, G1, hp, h1, hF, fun k hk => hG k (i1 k hk), fun k hf hg => hd k hf (i1 k hg)⟩
theorem pair_rot {base : Nat} {w : World} {P Q R : Thing} (kp : Keeps P) (h : Pair base w P (With Q R)) : Pair base w Q (With P R) := by
  obtain ⟨F, G, hp, ⟨G1, G2, h1, h2, i1, i2, hl, hx⟩, hF, hG, hd⟩ := h
  refine ⟨G1, fun k => F k ∨ G2 k, h1, ⟨F, G2, hp, h2, fun k hk => .inl hk, fun k hk => .inr hk, fun k hk => ?_, fun k hf hg => hd k hf (i2 k hg)⟩, fun k hk => hG k (i1 k hk), fun k hk => ?_, fun k hk hg => ?_⟩
  · rcases hk with hk | hk
    · exact kp.lt hp k hk
    · exact hl k (i2 k hk)
  · rcases hk with hk | hk
    · exact hF k hk
    · exact hG k (i2 k hk)
  · rcases hg with hg | hg
    · exact hd k hg (i1 k hk)
    · exact hx k hk hg
theorem pair_last {base : Nat} {w : World} {P Q S : Thing} (kp : Keeps P) (h : Pair base w P (With Q S)) : Pair base w S (With P Q) := by
  obtain ⟨F, G, hp, ⟨G1, G2, h1, h2, i1, i2, hl, hx⟩, hF, hG, hd⟩ := h
  refine ⟨G2, fun k => F k ∨ G1 k, h2, ⟨F, G1, hp, h1, fun k hk => .inl hk, fun k hk => .inr hk, fun k hk => ?_, fun k hf hg => hd k hf (i1 k hg)⟩, fun k hk => hG k (i2 k hk), fun k hk => ?_, fun k hk hg => ?_⟩
  · rcases hk with hk | hk
    · exact kp.lt hp k hk
    · exact hl k (i1 k hk)
  · rcases hk with hk | hk
    · exact hF k hk
    · exact hG k (i1 k hk)
  · rcases hg with hg | hg
    · exact hd k hg (i2 k hk)
    · exact hx k hg hk
theorem pair_drop {base : Nat} {w : World} {P Q S : Thing} (h : Pair base w S (With P Q)) : Pair base w P Q := by
  obtain ⟨F, G, hp, ⟨G1, G2, h1, h2, i1, i2, hl, hx⟩, hF, hG, hd⟩ := h
  exact ⟨G1, G2, h1, h2, fun k hk => hG k (i1 k hk), fun k hk => hG k (i2 k hk), hx⟩
/-- A new thing beside. -/
theorem pair_more {base : Nat} {w w' : World} {P Q R : Thing} (h : Pair base w P Q) (kp : Keeps P) (kq : Keeps Q) (hb : base ≤ w.heap.size) (hbl : Below w.heap.size w w') (hn : R w' (fun k => w.heap.size ≤ k ∧ k < w'.heap.size)) : Pair base w' P (With Q R) := by
  obtain ⟨F, G, hp, hq, h1, h2, h3⟩ := h
  have hp' := kp.keep hp hbl.size fun k hk => hbl.block k (kp.lt hp k hk)
  have hq' := kq.keep hq hbl.size fun k hk => hbl.block k (kq.lt hq k hk)
  refine ⟨F, fun k => G k ∨ (w.heap.size ≤ k ∧ k < w'.heap.size), hp', ⟨G, fun k => w.heap.size ≤ k ∧ k < w'.heap.size, hq', hn, fun k hk => .inl hk, fun k hk => .inr hk, fun k hk => ?_, fun k hg hk => ?_⟩, h1, fun k hk => ?_, fun k hf hk => ?_⟩
  · rcases hk with hk | hk
    · exact kq.lt hq' k hk
    · exact hk.2
  · have := kq.lt hq k hg
    omega
  · rcases hk with hk | hk
    · exact h2 k hk
    · omega
  · rcases hk with hk | hk
    · exact h3 k hf hk
    · have := kp.lt hp k hf
      omega

theorem pair_second {base : Nat} {w : World} {P Q R : Thing} (h : Pair base w P (With Q R)) : Pair base w P R := by
  obtain ⟨F, G, hp, ⟨_, G2, _, h2, _, i2, _⟩, hF, hG, hd⟩ := h
  exact ⟨F, G2, hp, h2, hF, fun k hk => hG k (i2 k hk), fun k hf hg => hd k hf (i2 k hg)⟩

/-- What holds the one holds the other. -/
def Imp (Q R : Thing) : Prop := ∀ w G, Q w G → R w G
theorem pair_imp {base : Nat} {w : World} {P Q R : Thing} (i : Imp Q R) (h : Pair base w P Q) : Pair base w P R := by
  obtain ⟨F, G, hp, hq, h1, h2, h3⟩ := h
  exact ⟨F, G, hp, i w G hq, h1, h2, h3⟩
theorem th_left {Q Q' R : Thing} (i : Imp Q Q') : Imp (With Q R) (With Q' R) := fun w _ ⟨G1, G2, h1, h2, i1, i2, hl, hx⟩ => ⟨G1, G2, i w G1 h1, h2, i1, i2, hl, hx⟩
theorem th_place {Q R S : Thing} : Imp (With (With Q R) S) (With (With Q S) R) := fun w G ⟨G1, G2, ⟨H1, H2, hq, hr, a1, a2, a3, a4⟩, hs, i1, i2, hl, hx⟩ => by
  refine ⟨fun k => H1 k ∨ G2 k, H2, ⟨H1, G2, hq, hs, fun k hk => .inl hk, fun k hk => .inr hk, fun k hk => ?_, fun k h1 h2 => hx k (a1 k h1) h2⟩, hr, fun k hk => ?_, fun k hk => i1 k (a2 k hk), hl, fun k hk h2 => ?_⟩
  · rcases hk with hk | hk
    · exact a3 k (a1 k hk)
    · exact hl k (i2 k hk)
  · rcases hk with hk | hk
    · exact i1 k (a1 k hk)
    · exact i2 k hk
  · rcases hk with hk | hk
    · exact a4 k hk h2
    · exact hx k (a2 k h2) hk
/-- The middle one is let go. -/
theorem th_drop {Q R S : Thing} : Imp (With (With Q R) S) (With Q S) := fun _ _ ⟨_, G2, ⟨H1, _, hq, _, a1, _, _, _⟩, hs, i1, i2, hl, hx⟩ => ⟨H1, G2, hq, hs, fun k hk => i1 k (a1 k hk), i2, hl, fun k hk h2 => hx k (a1 k hk) h2⟩
theorem th_trans {Q R S : Thing} (i : Imp Q R) (j : Imp R S) : Imp Q S := fun w G h => j w G (i w G h)
/-- The one ahead of the last two comes last, and the last one ahead of two. -/
theorem th_mv2 {A R B C : Thing} : Imp (With (With (With A R) B) C) (With (With (With A B) C) R) := th_trans (th_left th_place) th_place
theorem th_mv2' {A R B C : Thing} : Imp (With (With (With A B) C) R) (With (With (With A R) B) C) := th_trans th_place (th_left th_place)
theorem th_mv3 {A R B C D : Thing} : Imp (With (With (With (With A R) B) C) D) (With (With (With (With A B) C) D) R) := th_trans (th_left th_mv2) th_place
theorem th_mv3' {A R B C D : Thing} : Imp (With (With (With (With A B) C) D) R) (With (With (With (With A R) B) C) D) := th_trans th_place (th_left th_mv2')
theorem th_mv4 {A R B C D E : Thing} : Imp (With (With (With (With (With A R) B) C) D) E) (With (With (With (With (With A B) C) D) E) R) := th_trans (th_left th_mv3) th_place
theorem th_mv4' {A R B C D E : Thing} : Imp (With (With (With (With (With A B) C) D) E) R) (With (With (With (With (With A R) B) C) D) E) := th_trans th_place (th_left th_mv3')

theorem bel_up {base : Nat} {w w' : World} (hb : base ≤ w.heap.size) (h : Below w.heap.size w w') : Below base w w' := ⟨h.os, h.tape, h.output, h.size, fun k hk => h.block k (Nat.lt_of_lt_of_le hk hb)⟩

section
variable {base : Nat} {w : World} {P Q : Thing} {gl : Nat}
theorem lg_put {cs cs' : Array Value} {t : TypeId} {i : Nat} {v : Value} (kp : Keeps P) (kq : Keeps Q) (h : Pair base w P (With Q (BxT gl cs t))) (hn : (w.setCell ⟨gl, i, none⟩ v).heap[gl]? = some (.cells cs' t (0, 0))) : Pair base (w.setCell ⟨gl, i, none⟩ v) P (With Q (BxT gl cs' t)) ∧ Below base w (w.setCell ⟨gl, i, none⟩ v) := by
  obtain ⟨F, G, hp, ⟨G1, G2, h1, ⟨hh, hg, hl⟩, i1, i2, hlt, hx⟩, hF, hG, hd⟩ := h
  have hsz : (w.setCell ⟨gl, i, none⟩ v).heap.size = w.heap.size := by simp [World.setCell]
  have hk : ∀ k, k ≠ gl → (w.setCell ⟨gl, i, none⟩ v).heap[k]? = w.heap[k]? := fun k hk => by
    have : gl ≠ k := fun e => hk e.symm
    simp [World.setCell, Array.getElem?_modify, this]
  refine ⟨⟨F, G, kp.keep hp (by omega) fun k hf => hk k fun e => hd k hf (by rw [e]; exact i2 _ hg), ⟨G1, G2, kq.keep h1 (by omega) fun k hf => hk k fun e => hx k hf (by rw [e]; exact hg), ⟨hn, hg, fun k hk => by rw [hsz]; exact hl k hk⟩, i1, i2, fun k hk => by rw [hsz]; exact hlt k hk, hx⟩, hF, hG, hd⟩, ?_⟩
  exact (Below.refl base w).setCell (by show base ≤ gl; exact hG _ (i2 _ hg)) v
end
theorem pair_place {base : Nat} {w : World} {P Q R S : Thing} (h : Pair base w P (With (With Q R) S)) : Pair base w P (With (With Q S) R) := by
  obtain ⟨F, G, hp, ⟨G1, G2, ⟨H1, H2, hq, hr, a1, a2, a3, a4⟩, hs, i1, i2, hl, hx⟩, hF, hG, hd⟩ := h
  refine ⟨F, G, hp, ⟨fun k => H1 k ∨ G2 k, H2, ⟨H1, G2, hq, hs, fun k hk => .inl hk, fun k hk => .inr hk, fun k hk => ?_, fun k h1 h2 => hx k (a1 k h1) h2⟩, hr, fun k hk => ?_, fun k hk => i1 k (a2 k hk), hl, fun k hk h2 => ?_⟩, hF, hG, hd⟩
  · rcases hk with hk | hk
    · exact a3 k (a1 k hk)
    · exact hl k (i2 k hk)
  · rcases hk with hk | hk
    · exact i1 k (a1 k hk)
    · exact i2 k hk
  · rcases hk with hk | hk
    · exact a4 k hk h2
    · exact hx k (a2 k h2) hk

theorem bx_new {base : Nat} {w : World} {P Q : Thing} (kp : Keeps P) (kq : Keeps Q) (hb : base ≤ w.heap.size) (h : Pair base w P Q) (cs : Array Value) (t : TypeId) : Pair base (w.alloc (.cells cs t)) P (With Q (BxT w.heap.size cs t)) ∧ Below w.heap.size w (w.alloc (.cells cs t)) := by
  have b : Below w.heap.size w (w.alloc (.cells cs t)) := (Below.refl _ w).alloc (Nat.le_refl _) _
  exact ⟨pair_more h kp kq hb b ⟨heap_alloc_new w _, ⟨Nat.le_refl _, by simp⟩, fun k hk => hk.2⟩, b⟩

theorem side_in {base : Nat} {w : World} {P R S : Thing} (kS : Keeps S) (h : Pair base w (With P R) S) : Pair base w P (With S R) := pair_rot kS h.swap
theorem side_out {base : Nat} {w : World} {P R S : Thing} (kP : Keeps P) (h : Pair base w P (With S R)) : Pair base w (With P R) S := (pair_rot kP h).swap

end Go.Proofs.Ytppdljkfhoekpaa.DkWalk

/-
  A drawing region by hand: an operation that is taken first, its slot named.
-/
namespace Go.Proofs.Ytppdljkfhoekpaa.HeldAt
open Go


theorem take_at {P : Program} {ops : Array Oper} {Q : Exit → Act → World → Prop} {md : Region.Mode} {S : World → Prop} {i d : Nat} {oi : Oper} {v : Value} {fuel : Nat} {listed : Array Bool} {a : Act} {w : World} (hi : ops[i]? = some oi) (hd : oi.dst = some d)
    (hs : Region.noSelect ops = true) (hf : Region.free md ops listed i = true) (hr : (Region.ready md ops listed).contains i = true)
    (hQ : ∀ c a w, Q (.panic c) (a.put oi.dst v) w → Q (.panic c) a w) (hy : YieldsIf P ops S oi v a) (hS : S w)
    (h : wpAnyH P md ops Q S fuel (listed.setIfInBounds i true) (a.put (some d) v) w) : wpAnyH P md ops Q S (fuel + 1) listed a w :=
  wpAnyH_take hi hs hf hr hQ hy hS (by rw [hd]; exact h)

/-- From here on a condition that says more: cells that an operation of the region has written. -/
theorem wpAnyH_more {P : Program} {ops : Array Oper} {Q : Exit → Act → World → Prop} {md : Region.Mode} {S S' : World → Prop} (hs : ∀ w, S' w → S w) : ∀ {fuel : Nat} {listed : Array Bool} {a : Act} {w : World}, wpAnyH P md ops Q S' fuel listed a w → wpAnyH P md ops Q S fuel listed a w
  | 0, _, _, _, h => h
  | _ + 1, _, _, _, h => ⟨h.1, fun i hi => wpOp_mono (fun _ w' h' => ⟨hs w' h'.1, wpAnyH_more hs h'.2⟩) (h.2 i hi)⟩

end Go.Proofs.Ytppdljkfhoekpaa.HeldAt

/-
  Contracts of the document's answers of layer 6: Match, Same.
-/
namespace Go.Proofs.Ytppdljkfhoekpaa.QuWalk
open Go.RowKit Go.Proofs.Ytppdljkfhoekpaa.MemRow Go.Proofs.Ytppdljkfhoekpaa.Ev Go.Proofs.Ytppdljkfhoekpaa.NameMath Go.Proofs.Ytppdljkfhoekpaa.NameWalk Go.Proofs.Ytppdljkfhoekpaa.EvWalk Go.Proofs.Ytppdljkfhoekpaa.Qu

/-- The boxes of a query and an event. -/
structure QeAt (wr w : World) (c0 e0 e1 e2 e3 : Value) : Prop where
  eq : QAt wr w.heap.size c0
  ee : EvAt wr (w.heap.size + 1) e0 e1 e2 e3
  bel : Below w.heap.size w wr
/-- The boxes of two queries. -/
structure QqAt (wr w : World) (c0 d0 : Value) : Prop where
  eq : QAt wr w.heap.size c0
  er : QAt wr (w.heap.size + 1) d0
  bel : Below w.heap.size w wr
section
variable {wr w w' : World} {c0 d0 e0 e1 e2 e3 : Value}
theorem QeAt.below (h : QeAt wr w c0 e0 e1 e2 e3) (hb : Below wr.heap.size wr w') : QeAt w' w c0 e0 e1 e2 e3 := ⟨h.eq.below hb, h.ee.below hb h.ee.lt, below_chain h.bel hb⟩
theorem QeAt.drew (h : QeAt wr w c0 e0 e1 e2 e3) : QeAt wr.drew w c0 e0 e1 e2 e3 := ⟨h.eq, h.ee, bel_drew h.bel⟩
theorem QeAt.new (w : World) (c0 e0 e1 e2 e3 : Value) : QeAt ((w.alloc (.cells #[c0] 30)).alloc (.cells #[e0, e1, e2, e3] 42)) w c0 e0 e1 e2 e3 := by
  have a1 := QAt.new w c0
  have b1 : Below w.heap.size w (w.alloc (.cells #[c0] 30)) := (Below.refl _ _).alloc (Nat.le_refl _) _
  generalize hw1 : w.alloc (.cells #[c0] 30) = w1 at *
  have s1 : w1.heap.size = w.heap.size + 1 := by rw [← hw1]; simp
  have a2 := EvAt.new w1 e0 e1 e2 e3
  have b2 : Below w1.heap.size w1 (w1.alloc (.cells #[e0, e1, e2, e3] 42)) := (Below.refl _ _).alloc (Nat.le_refl _) _
  rw [s1] at a2
  exact ⟨a1.below b2, a2, below_chain b1 b2⟩
theorem QqAt.below (h : QqAt wr w c0 d0) (hb : Below wr.heap.size wr w') : QqAt w' w c0 d0 := ⟨h.eq.below hb, h.er.below hb, below_chain h.bel hb⟩
theorem QqAt.drew (h : QqAt wr w c0 d0) : QqAt wr.drew w c0 d0 := ⟨h.eq, h.er, bel_drew h.bel⟩
theorem QqAt.new (w : World) (c0 d0 : Value) : QqAt ((w.alloc (.cells #[c0] 30)).alloc (.cells #[d0] 30)) w c0 d0 := by
  have a1 := QAt.new w c0
  have b1 : Below w.heap.size w (w.alloc (.cells #[c0] 30)) := (Below.refl _ _).alloc (Nat.le_refl _) _
  generalize hw1 : w.alloc (.cells #[c0] 30) = w1 at *
  have s1 : w1.heap.size = w.heap.size + 1 := by rw [← hw1]; simp
  have a2 := QAt.new w1 d0
  have b2 : Below w1.heap.size w1 (w1.alloc (.cells #[d0] 30)) := (Below.refl _ _).alloc (Nat.le_refl _) _
  rw [s1] at a2
  exact ⟨a1.below b2, a2, below_chain b1 b2⟩
end

set_option maxHeartbeats 8000000 in
set_option maxRecDepth 100000 in
theorem refMatch_any (v u : Value) (q : List Cl) (ev : Ev) (w : World) (hv : IsQ w v q) (hu : IsEv w u ev) :
    Calls Try.prog 40 #[v, u] w fun e w' => e = .returned (.bool (matchQ q ev)) ∧ Below w.heap.size w w' := by
  have hu0 := hu
  obtain ⟨C, n, cap, rfl, rC⟩ := hv
  obtain ⟨A, nA, cA, B, nB, cB, rfl, _, _⟩ := hu
  generalize hR : matchQ q ev = R
  have HR := Go.Lib.hid hR
  have LC := Go.Lib.hid rC.len
  have hn := rC.le
  unfold maxLen at hn
  clear hR
  have s1 := QeAt.new w (.slice C n cap) (.string ev.s) (.string ev.t) (.slice A nA cA) (.slice B nB cB)
  go_enter Try.func40, Try.ntmps40
  go_wp2_with fail
  generalize (w.alloc (.cells #[.slice C n cap] 30)).alloc (.cells #[.string ev.s, .string ev.t, .slice A nA cA, .slice B nB cB] 42) = w1 at *
  go_loopw [5, 6] (fun i _ wr => ∃ j : Nat, j ≤ n ∧ i = .int .i64 j ∧ Hid (matchQ (q.take j) ev = false) ∧ QeAt wr w (.slice C n cap) (.string ev.s) (.string ev.t) (.slice A nA cA) (.slice B nB cB)) (fun i _ _ => n - (intOf i).toNat)
  case atStart => exact ⟨0, Nat.zero_le _, rfl, Go.Lib.hid rfl, s1⟩
  case round =>
    obtain ⟨j, hj, rfl, HQ, sr⟩ := hrel
    clear s1
    have k0 := sr.eq.c0
    by_cases hlt : j < n
    · obtain ⟨bt, ot, rfl, _, kt⟩ := (rC.below sr.bel).at_ (by omega)
      obtain ⟨T, nT, cT, Y, nY, cY, x0, x1, rT, rY⟩ := kt j hlt
      have i1 : (j : Int) < n := by omega
      have hjl : j < q.length := by rw [LC.out]; exact hlt
      have HT := Go.Lib.hid (cl_take q j hjl)
      have HMem := Go.Lib.hid (cl_get hjl)
      clear kt hjl
      generalize q.getD j noCl = c at *
      have j0 := sr.ee.c0
      have j1 := sr.ee.c1
      have j2 := sr.ee.c2
      have j3 := sr.ee.c3
      have b0 : Below wr.heap.size wr wr.drew := bel_drew (Below.refl _ _)
      have sd := sr.drew
      have hud := hu0.below sd.bel
      have hcd : IsCl wr.drew (.agg #[.slice T nT cT, .slice Y nY cY]) c := ⟨T, nT, cT, Y, nY, cY, rfl, RdC.below rT b0, RdC.below rY b0⟩
      clear rT rY
      generalize hH : clauseB c ev = Hh at *
      have HH := Go.Lib.hid hH
      clear hH
      go_wp2_with fail
      go_region_held (fun w' => w'.cell? ⟨w.heap.size + 1, 0, none⟩ = some (.string ev.s) ∧ w'.cell? ⟨w.heap.size + 1, 1, none⟩ = some (.string ev.t) ∧ w'.cell? ⟨w.heap.size + 1, 2, none⟩ = some (.slice A nA cA) ∧ w'.cell? ⟨w.heap.size + 1, 3, none⟩ = some (.slice B nB cB) ∧ w'.cell? ⟨w.heap.size, 0, none⟩ = some (.slice (some ⟨bt, ot, none⟩) n cap) ∧ w'.cell? ⟨bt, ot + j * 2, none⟩ = some (.slice T nT cT) ∧ w'.cell? ⟨bt, ot + j * 2 + 1, none⟩ = some (.slice Y nY cY))
        (first | exact ⟨j0, j1, j2, j3, k0, x0, x1⟩ | exact ⟨bcell b9 j0, bcell b9 j1, bcell b9 j2, bcell b9 j3, bcell b9 k0, bcell b9 x0, bcell b9 x1⟩)
        (first | (go_at_call 50; refine (refClause_any _ _ c ev _ hcd hud).mono ?_; rintro e w9 ⟨rfl, bb⟩; rw [HH.out]; have b9 := below_chain b0 bb; clear bb))
      have s9 := sr.below b9
      clear k0 j0 j1 j2 j3 x0 x1 b0 sd hud hcd sr b9
      cases Hh with
      | false =>
        have hq2 : matchQ (q.take (j + 1)) ev = false := by
          have h := HQ.out
          unfold matchQ at h ⊢
          rw [HT.out, List.any_append, h]
          simp [HH.out]
        have HQ2 := Go.Lib.hid hq2
        clear hq2
        go_wp2_with fail
        go_roundw
        case rel => exact ⟨j + 1, by omega, by go_num, HQ2, s9⟩
        case measure => simp [intOf]; omega
      | true =>
        have hR : R = true := by
          rw [← HR.out]
          unfold matchQ
          rw [List.any_eq_true]
          exact ⟨c, HMem.out, HH.out⟩
        subst hR
        have B9 := s9.bel
        go_wp2_with fail
        go_ret
        exact ⟨rfl, B9⟩
    · obtain rfl : n = j := by omega
      have hR : R = false := by
        have h := HQ.out
        rwa [List.take_of_length_le (by rw [LC.out]; exact Nat.le_refl _), HR.out] at h
      subst hR
      have B9 := sr.bel
      go_wp2_with fail
      go_ret
      exact ⟨rfl, B9⟩

end Go.Proofs.Ytppdljkfhoekpaa.QuWalk

/-
  Contracts of the document's answers of layer 13: the lists: Tag, Type, Find.
-/
namespace Go.Proofs.Ytppdljkfhoekpaa.PoWalk
open Go.Proofs.Ytppdljkfhoekpaa.HeldAt Go.RowKit Go.Proofs.Ytppdljkfhoekpaa.MemRow Go.Proofs.Ytppdljkfhoekpaa.Ev Go.Proofs.Ytppdljkfhoekpaa.NameMath Go.Proofs.Ytppdljkfhoekpaa.NameWalk Go.Proofs.Ytppdljkfhoekpaa.EvWalk Go.Proofs.Ytppdljkfhoekpaa.NumMem Go.Proofs.Ytppdljkfhoekpaa.SmWalk Go.Proofs.Ytppdljkfhoekpaa.Qu Go.Proofs.Ytppdljkfhoekpaa.QuWalk Go.Proofs.Ytppdljkfhoekpaa.DkWalk

theorem rdc_keep {k : Nat} {w w' : World} {A : Option Addr} {n cap : Nat} {cs : List Value} (h : RdC k w A n cap cs) (hk : ∀ a, A = some a → w'.heap[a.block]? = w.heap[a.block]?) : RdC k w' A n cap cs :=
  h.keep fun b o hA i v hc => by
    have e := hk _ hA
    exact (World.cell?_of_block (w := w) (a := ⟨b, o + i, none⟩) e).trans hc
/-- The document's lists behind a pointer: events (their rows as world W0 has them), positions. -/
def LsT (W0 : World) (g : Nat) (L : Ls) : Thing := fun w G => ∃ A n c B d cs, w.heap[g]? = some (.cells #[.slice A n c, .slice B n d] 36 (0, 0)) ∧ RdC 4 w A n c cs ∧ EvsR W0 (L.map (·.1)) cs ∧ RdI w B n d (L.map (·.2)) ∧ G g ∧ (∀ a, A = some a → G a.block ∧ a.block ≠ g) ∧ (∀ a, B = some a → G a.block ∧ a.block ≠ g) ∧ ∀ k, G k → k < w.heap.size
theorem lsT_keeps (W0 : World) (g : Nat) (L : Ls) : Keeps (LsT W0 g L) :=
  ⟨fun ⟨A, n, c, B, d, cs, h1, h2, h3, h4, h5, h6, h7, h8⟩ hs hk => ⟨A, n, c, B, d, cs, (hk g h5).trans h1, rdc_keep h2 fun a ha => hk _ (h6 a ha).1, h3, rdc_keep h4 fun a ha => hk _ (h7 a ha).1, h5, h6, h7, fun k h => Nat.lt_of_lt_of_le (h8 k h) hs⟩, fun ⟨_, _, _, _, _, _, _, _, _, _, _, _, _, h⟩ => h⟩
theorem ls_get (L : Ls) {j : Nat} (h : j < L.length) : (L.map (·.1)).getD j noEv = (L.getD j (noEv, 0)).1 ∧ (L.map (·.2)).getD j 0 = (L.getD j (noEv, 0)).2 := by
  simp [List.getD, List.getElem?_eq_getElem h]
/-- An event of the row. -/
theorem ev_at {W0 w : World} {A : Option Addr} {n c : Nat} {es : List Ev} {cs : List Value} (h : RdC 4 w A n c cs) (he : EvsR W0 es cs) (hl : es.length = n) (hB : Below W0.heap.size W0 w) {j : Nat} (hj : j < n) :
    ∃ b o T nT cT F nF cF, A = some ⟨b, o, none⟩ ∧ w.cell? ⟨b, o + j * 4, none⟩ = some (.string (es.getD j noEv).s) ∧ w.cell? ⟨b, o + j * 4 + 1, none⟩ = some (.string (es.getD j noEv).t) ∧ w.cell? ⟨b, o + j * 4 + 2, none⟩ = some (.slice T nT cT) ∧ w.cell? ⟨b, o + j * 4 + 3, none⟩ = some (.slice F nF cF) ∧ RdS w T nT cT (es.getD j noEv).tags ∧ RdF w F nF cF (es.getD j noEv).fs := by
  obtain ⟨b, o, hA, _, hc⟩ := h.at_ (by decide) (by omega)
  obtain ⟨T, nT, cT, F, nF, cF, q0, q1, q2, q3, p1, p2⟩ := EvsR.at_ es cs he j (by omega)
  exact ⟨b, o, T, nT, cT, F, nF, cF, hA, hc _ _ q0, hc _ _ q1, hc _ _ q2, hc _ _ q3, RdC.below p1 hB, RdC.below p2 hB⟩

set_option maxHeartbeats 4000000 in
set_option maxRecDepth 100000 in
theorem refTag_any (W0 : World) (g : Nat) (L : Ls) (G : Nat → Prop) (t : ByteArray) (w : World) (h : LsT W0 g L w G) (hW : Below W0.heap.size W0 w) (hl : L.length ≤ 200) :
    Calls Try.prog 22 #[.pointer (some ⟨g, 0, none⟩), .string t] w fun e w' => ∃ B m c, e = .returned (.slice B m c) ∧ RdI w' B m c (tagP L t) ∧ Below w.heap.size w w' := by
  obtain ⟨A, n, c, B, d, cs, hh, hr, he, hi, _⟩ := h
  have hn : L.length = n := by have := hi.len; rw [List.length_map] at this; exact this
  have k0 : w.cell? ⟨g, 0, none⟩ = some (.slice A n c) := by rw [cell_of_row w g 0 _ _ _ hh]; rfl
  have k1 : w.cell? ⟨g, 1, none⟩ = some (.slice B n d) := by rw [cell_of_row w g 1 _ _ _ hh]; rfl
  have HA := Go.Lib.hid (fun w' (hb : Below w.heap.size w w') j (hj : j < n) => ev_at (j := j) (RdC.below hr hb) he (by rw [List.length_map]; exact hn) (below_chain hW hb) hj)
  have HG := Go.Lib.hid (fun j (hj : j < n) => ls_get L (j := j) (by omega))
  have HP := Go.Lib.hid (fun j (hj : j < n) => posP_step (fun e => hasB e.tags t) L (j := j) (by omega))
  have HL := Go.Lib.hid (fun j => posP_len (fun e => hasB e.tags t) (L.take j))
  have HT := Go.Lib.hid (show posP (fun e => hasB e.tags t) (L.take n) = tagP L t by rw [List.take_of_length_le (by omega)]; rfl)
  have hn2 : n ≤ 200 := by omega
  have al : Below w.heap.size w (w.alloc (.cells #[] 3)) := (Below.refl _ _).alloc (Nat.le_refl _) _
  have o0 : OwnC 1 (w.alloc (.cells #[] 3)) w.heap.size 3 (some ⟨w.heap.size, 0, none⟩) 0 0 [] := OwnC.empty w 3 (Nat.le_refl _)
  clear hn hh hl hr he
  go_enter Try.func22, Try.ntmps22
  go_wp2_with fail
  go_loopw [5, 6, 7] (fun ov iv _ wr => ∃ (C : Option Addr) (m cb j : Nat), ov = .slice C m cb ∧ iv = .int .i64 (j : Int) ∧ j ≤ n ∧ OwnC 1 wr w.heap.size 3 C m cb (nums (posP (fun e => hasB e.tags t) (L.take j))) ∧ Below w.heap.size w wr) (fun _ iv _ _ => n - (intOf iv).toNat)
  case atStart => exact ⟨_, 0, 0, 0, rfl, rfl, Nat.zero_le _, o0, al⟩
  case round =>
    obtain ⟨C, m, cb, j, rfl, rfl, hj, ho, hB⟩ := hrel
    clear o0 al
    have x0 := bcell hB k0
    have x1 := bcell hB k1
    by_cases hlt : j < n
    · have i1 : (j : Int) < n := by omega
      obtain ⟨bb, ob, T, nT, cT, F, nF, cF, rfl, y0, y1, y2, y3, rT, rF⟩ := HA.out wr hB j hlt
      obtain ⟨bi, oi, rfl, _, ki⟩ := hi.at_ (by omega)
      have z0 := ki j hlt
      obtain ⟨e1, e2⟩ := HG.out j hlt
      rw [e1] at y0 y1 rT rF
      rw [e2] at z0
      have hst := HP.out j hlt
      have HS := Go.Lib.hid hst
      have hlen := HL.out j
      have hm : m = (posP (fun e => hasB e.tags t) (L.take j)).length := by have := ho.len; rw [nums_length] at this; omega
      have hm2 : m ≤ 200 := by rw [List.length_take] at hlen; omega
      clear hst hlen hm e1 e2 ki
      generalize L.getD j (noEv, 0) = x at *
      obtain ⟨ev, xp⟩ := x
      simp only at y0 y1 z0 rT rF
      go_wp2_with fail
      refine (refHas_any (.agg #[.string ev.s, .string ev.t, .slice T nT cT, .slice F nF cF]) ev t wr ⟨T, nT, cT, F, nF, cF, rfl, rT, rF⟩).mono ?_
      rintro e w2 ⟨rfl, b2⟩
      have hB2 := below_chain hB b2
      have o2 := ho.below b2
      have x1 := bcell hB2 k1
      have z1 := bcell hB2 z0
      clear ho hB b2 x0 y0 y1 y2 y3 rT rF
      cases hc : hasB ev.tags t with
      | true =>
        have HS2 : Hid (posP (fun e => hasB e.tags t) (L.take (j + 1)) = posP (fun e => hasB e.tags t) (L.take j) ++ [xp]) := Go.Lib.hid (HS.out.trans (by rw [if_pos hc]))
        clear HS hc
        have al := (Below.refl w2.heap.size w2).alloc (Nat.le_refl _) (.cells #[.int .i64 xp] 3)
        have d1 : RdC 1 (w2.alloc (.cells #[.int .i64 xp] 3)) (some ⟨w2.heap.size, 0, none⟩) 1 1 (nums [xp]) := RdC.new w2 3 (nums [xp]) rfl (by decide)
        have o3 := o2.below al
        go_wp2_with (at_builtin; refine wpList_append_cells rfl (.tmp 28) (.tmp 36) 22 rfl 3 (.int .i64 0) 8 Try.underlying22 int_info rfl (by decide) rfl rfl o3 d1 (nums_one _) (by unfold maxLen; omega) (by omega) (Nat.le_trans hB2.size al.size) ?_; intro A8 c8 w8 o8 g8 _; have b8 := below_grown_own o3 (hB2.trans (al.mono hB2.size)) g8 (Nat.le_trans hB2.size al.size))
        go_roundw
        case rel => exact ⟨A8, m + 1, c8, j + 1, rfl, by go_num, by omega, by rw [HS2.out, nums_append]; exact o8, b8⟩
        case measure => simp [intOf]; omega
      | false =>
        have HS2 : Hid (posP (fun e => hasB e.tags t) (L.take (j + 1)) = posP (fun e => hasB e.tags t) (L.take j)) := Go.Lib.hid (HS.out.trans (by rw [if_neg (by rw [hc]; decide), List.append_nil]))
        clear HS hc
        go_wp2_with fail
        go_roundw
        case rel => exact ⟨C, m, cb, j + 1, rfl, by go_num, by omega, by rw [HS2.out]; exact o2, hB2⟩
        case measure => simp [intOf]; omega
    · obtain rfl : j = n := by omega
      have i1 : ¬ (j : Int) < j := by omega
      go_wp2_with fail
      go_ret
      refine ⟨C, m, cb, rfl, ?_, hB⟩
      have := OwnC.rd ho
      rw [HT.out] at this
      exact this

end Go.Proofs.Ytppdljkfhoekpaa.PoWalk

/-
  Contracts of the document's answers of layer 13: the lists: Type, Find.
-/
namespace Go.Proofs.Ytppdljkfhoekpaa.PoWalk
open Go.Proofs.Ytppdljkfhoekpaa.HeldAt Go.RowKit Go.Proofs.Ytppdljkfhoekpaa.MemRow Go.Proofs.Ytppdljkfhoekpaa.Ev Go.Proofs.Ytppdljkfhoekpaa.NameMath Go.Proofs.Ytppdljkfhoekpaa.NameWalk Go.Proofs.Ytppdljkfhoekpaa.EvWalk Go.Proofs.Ytppdljkfhoekpaa.NumMem Go.Proofs.Ytppdljkfhoekpaa.SmWalk Go.Proofs.Ytppdljkfhoekpaa.Qu Go.Proofs.Ytppdljkfhoekpaa.QuWalk Go.Proofs.Ytppdljkfhoekpaa.DkWalk

set_option maxHeartbeats 4000000 in
set_option maxRecDepth 100000 in
theorem refType_any (W0 : World) (g : Nat) (L : Ls) (G : Nat → Prop) (t : ByteArray) (w : World) (h : LsT W0 g L w G) (hW : Below W0.heap.size W0 w) (hl : L.length ≤ 200) :
    Calls Try.prog 24 #[.pointer (some ⟨g, 0, none⟩), .string t] w fun e w' => ∃ B m c, e = .returned (.slice B m c) ∧ RdI w' B m c (typP L t) ∧ Below w.heap.size w w' := by
  obtain ⟨A, n, c, B, d, cs, hh, hr, he, hi, _⟩ := h
  have hn : L.length = n := by have := hi.len; rw [List.length_map] at this; exact this
  have k0 : w.cell? ⟨g, 0, none⟩ = some (.slice A n c) := by rw [cell_of_row w g 0 _ _ _ hh]; rfl
  have k1 : w.cell? ⟨g, 1, none⟩ = some (.slice B n d) := by rw [cell_of_row w g 1 _ _ _ hh]; rfl
  have HA := Go.Lib.hid (fun w' (hb : Below w.heap.size w w') j (hj : j < n) => ev_at (j := j) (RdC.below hr hb) he (by rw [List.length_map]; exact hn) (below_chain hW hb) hj)
  have HG := Go.Lib.hid (fun j (hj : j < n) => ls_get L (j := j) (by omega))
  have HP := Go.Lib.hid (fun j (hj : j < n) => posP_step (fun e => decide (e.t = t)) L (j := j) (by omega))
  have HL := Go.Lib.hid (fun j => posP_len (fun e => decide (e.t = t)) (L.take j))
  have HT := Go.Lib.hid (show posP (fun e => decide (e.t = t)) (L.take n) = typP L t by rw [List.take_of_length_le (by omega)]; rfl)
  have hn2 : n ≤ 200 := by omega
  have al : Below w.heap.size w (w.alloc (.cells #[] 3)) := (Below.refl _ _).alloc (Nat.le_refl _) _
  have o0 : OwnC 1 (w.alloc (.cells #[] 3)) w.heap.size 3 (some ⟨w.heap.size, 0, none⟩) 0 0 [] := OwnC.empty w 3 (Nat.le_refl _)
  clear hn hh hl hr he
  go_enter Try.func24, Try.ntmps24
  go_wp2_with fail
  go_loopw [5, 6] (fun ov iv wr => ∃ (C : Option Addr) (m cb j : Nat), ov = .slice C m cb ∧ iv = .int .i64 (j : Int) ∧ j ≤ n ∧ OwnC 1 wr w.heap.size 3 C m cb (nums (posP (fun e => decide (e.t = t)) (L.take j))) ∧ Below w.heap.size w wr) (fun _ iv _ => n - (intOf iv).toNat)
  case atStart => exact ⟨_, 0, 0, 0, rfl, rfl, Nat.zero_le _, o0, al⟩
  case round =>
    obtain ⟨C, m, cb, j, rfl, rfl, hj, ho, hB⟩ := hrel
    clear o0 al
    have x0 := bcell hB k0
    have x1 := bcell hB k1
    by_cases hlt : j < n
    · have i1 : (j : Int) < n := by omega
      obtain ⟨bb, ob, T, nT, cT, F, nF, cF, rfl, y0, y1, y2, y3, rT, rF⟩ := HA.out wr hB j hlt
      obtain ⟨bi, oi, rfl, _, ki⟩ := hi.at_ (by omega)
      have z0 := ki j hlt
      obtain ⟨e1, e2⟩ := HG.out j hlt
      rw [e1] at y0 y1 rT rF
      rw [e2] at z0
      have hst := HP.out j hlt
      have HS := Go.Lib.hid hst
      have hlen := HL.out j
      have hm : m = (posP (fun e => decide (e.t = t)) (L.take j)).length := by have := ho.len; rw [nums_length] at this; omega
      have hm2 : m ≤ 200 := by rw [List.length_take] at hlen; omega
      clear hst hlen hm e1 e2 ki
      generalize L.getD j (noEv, 0) = x at *
      obtain ⟨ev, xp⟩ := x
      simp only at y0 y1 z0 rT rF
      by_cases hc : ev.t = t
      · have HS2 : Hid (posP (fun e => decide (e.t = t)) (L.take (j + 1)) = posP (fun e => decide (e.t = t)) (L.take j) ++ [xp]) := Go.Lib.hid (HS.out.trans (by rw [if_pos (decide_eq_true hc)]))
        clear HS
        subst hc
        have al := (Below.refl wr.heap.size wr).alloc (Nat.le_refl _) (.cells #[.int .i64 xp] 3)
        have d1 : RdC 1 (wr.alloc (.cells #[.int .i64 xp] 3)) (some ⟨wr.heap.size, 0, none⟩) 1 1 (nums [xp]) := RdC.new wr 3 (nums [xp]) rfl (by decide)
        have o3 := ho.below al
        have z1 := bcell hB z0
        go_wp2_with (at_builtin; refine wpList_append_cells rfl (.tmp 27) (.tmp 35) 22 rfl 3 (.int .i64 0) 8 Try.underlying22 int_info rfl (by decide) rfl rfl o3 d1 (nums_one _) (by unfold maxLen; omega) (by omega) (Nat.le_trans hB.size al.size) ?_; intro A8 c8 w8 o8 g8 _; have b8 := below_grown_own o3 (hB.trans (al.mono hB.size)) g8 (Nat.le_trans hB.size al.size))
        go_roundw
        case rel => exact ⟨A8, m + 1, c8, j + 1, rfl, by go_num, by omega, by rw [HS2.out, nums_append]; exact o8, b8⟩
        case measure => simp [intOf]; omega
      · have HS2 : Hid (posP (fun e => decide (e.t = t)) (L.take (j + 1)) = posP (fun e => decide (e.t = t)) (L.take j)) := Go.Lib.hid (HS.out.trans (by rw [if_neg (by simpa using hc), List.append_nil]))
        clear HS
        have hne := str_ne hc
        go_wp2_with fail
        go_roundw
        case rel => exact ⟨C, m, cb, j + 1, rfl, by go_num, by omega, by rw [HS2.out]; exact ho, hB⟩
        case measure => simp [intOf]; omega
    · obtain rfl : j = n := by omega
      have i1 : ¬ (j : Int) < j := by omega
      go_wp2_with fail
      go_ret
      refine ⟨C, m, cb, rfl, ?_, hB⟩
      have := OwnC.rd ho
      rw [HT.out] at this
      exact this

theorem find_step (q : List Cl) (u : Int) (L : Ls) {j : Nat} (h : j < L.length) : findP (L.take (j + 1)) q u = findP (L.take j) q u ++ (if matchQ q (L.getD j (noEv, 0)).1 = true ∧ (L.getD j (noEv, 0)).2 ≤ u then [(L.getD j (noEv, 0)).2] else []) := by
  unfold findP upF
  rw [posP_step _ L h, List.filter_append]
  congr 1
  by_cases h1 : matchQ q (L.getD j (noEv, 0)).1 = true
  · rw [if_pos h1]
    by_cases h2 : (L.getD j (noEv, 0)).2 ≤ u
    · rw [if_pos ⟨h1, h2⟩, List.filter_cons_of_pos (by simpa using h2)]; rfl
    · rw [if_neg (fun h => h2 h.2), List.filter_cons_of_neg (by simpa using h2)]; rfl
  · rw [if_neg h1, if_neg (fun h => h1 h.1)]; rfl
theorem own_ne {k : Nat} {w : World} {base : Nat} {t T : TypeId} {A : Option Addr} {n cap g : Nat} {cs : List Value} {x : Array Value} {fr : Nat × Nat} (h : OwnC k w base t A n cap cs) (hg : w.heap[g]? = some (.cells x T fr)) (ht : t ≠ T) : some g ≠ A.map (·.block) := by
  intro e
  cases A with
  | none => cases e
  | some a =>
    injection e with e
    exact own_not h hg ht a rfl e.symm
theorem own_low {k : Nat} {w : World} {b b' : Nat} {t : TypeId} {A : Option Addr} {n cap : Nat} {cs : List Value} (hb : b' ≤ b) (h : OwnC k w b t A n cap cs) : OwnC k w b' t A n cap cs := by
  refine ⟨h.1, ?_⟩
  rcases h.2 with h2 | ⟨g, c, cur, hv, h3, rest⟩
  · exact .inl h2
  · exact .inr ⟨g, c, cur, hv, Nat.le_trans hb h3, rest⟩
set_option maxHeartbeats 4000000 in
set_option maxRecDepth 100000 in
theorem refFind_any (W0 : World) (g : Nat) (L : Ls) (G : Nat → Prop) (v : Value) (q : List Cl) (u : Int) (w : World) (hq : IsQ w v q) (h : LsT W0 g L w G) (hW : Below W0.heap.size W0 w) (hl : L.length ≤ 200) :
    Calls Try.prog 27 #[.pointer (some ⟨g, 0, none⟩), v, .int .i64 u] w fun e w' => ∃ B m c, e = .returned (.slice B m c) ∧ RdI w' B m c (findP L q u) ∧ Below w.heap.size w w' := by
  obtain ⟨Q, nQ, cQ, rfl, rQ⟩ := hq
  obtain ⟨A, n, c, B, d, cs, hh, hr, he, hi, _⟩ := h
  have hn : L.length = n := by have := hi.len; rw [List.length_map] at this; exact this
  have k0 : w.cell? ⟨g, 0, none⟩ = some (.slice A n c) := by rw [cell_of_row w g 0 _ _ _ hh]; rfl
  have k1 : w.cell? ⟨g, 1, none⟩ = some (.slice B n d) := by rw [cell_of_row w g 1 _ _ _ hh]; rfl
  have HA := Go.Lib.hid (fun w' (hb : Below w.heap.size w w') j (hj : j < n) => ev_at (j := j) (RdC.below hr hb) he (by rw [List.length_map]; exact hn) (below_chain hW hb) hj)
  have HG := Go.Lib.hid (fun j (hj : j < n) => ls_get L (j := j) (by omega))
  have HP := Go.Lib.hid (fun j (hj : j < n) => find_step q u L (j := j) (by omega))
  have HL := Go.Lib.hid (fun j => find_len (L.take j) q u)
  have HT := Go.Lib.hid (show findP (L.take n) q u = findP L q u by rw [List.take_of_length_le (by omega)])
  have hn2 : n ≤ 200 := by omega
  have bx : Below w.heap.size w (w.alloc (.cells #[.slice Q nQ cQ] 30)) := (Below.refl _ _).alloc (Nat.le_refl _) _
  have kx := QAt.new w (.slice Q nQ cQ)
  have hw0 : w.heap.size + 1 = (w.alloc (.cells #[.slice Q nQ cQ] 30)).heap.size := by simp only [World.alloc, Array.size_push]
  clear hn hh hl hr he
  go_enter Try.func27, Try.ntmps27
  go_upto_region 1 with (fail)
  obtain ⟨wz, hwz⟩ : ∃ wz, wz = w.alloc (.cells #[.slice Q nQ cQ] 30) := ⟨_, rfl⟩
  rw [← hwz] at bx kx hw0 ⊢
  clear hwz
  have al : Below w.heap.size w (wz.alloc (.cells #[] 3)) := bx.trans (((Below.refl wz.heap.size wz).alloc (Nat.le_refl _) _).mono bx.size)
  have o0 : OwnC 1 (wz.alloc (.cells #[] 3)) w.heap.size 3 (some ⟨wz.heap.size, 0, none⟩) 0 0 [] := own_low bx.size (OwnC.empty wz 3 (Nat.le_refl _))
  have kx := kx.below ((Below.refl wz.heap.size wz).alloc (Nat.le_refl _) (.cells #[] 3))
  go_wp2_with fail
  go_loopw [7, 8, 9] (fun ov iv _ wr => ∃ (C : Option Addr) (m cb j : Nat), ov = .slice C m cb ∧ iv = .int .i64 (j : Int) ∧ j ≤ n ∧ OwnC 1 wr w.heap.size 3 C m cb (nums (findP (L.take j) q u)) ∧ QAt wr w.heap.size (.slice Q nQ cQ) ∧ Below w.heap.size w wr) (fun _ iv _ _ => n - (intOf iv).toNat)
  case atStart => exact ⟨_, 0, 0, 0, rfl, rfl, Nat.zero_le _, o0, kx, al⟩
  case round =>
    obtain ⟨C, m, cb, j, rfl, rfl, hj, ho, kQ, hB⟩ := hrel
    clear o0 al kx
    have kq := kQ.c0
    have x0 := bcell hB k0
    have x1 := bcell hB k1
    by_cases hlt : j < n
    · have i1 : (j : Int) < n := by omega
      obtain ⟨bb, ob, T, nT, cT, F, nF, cF, rfl, y0, y1, y2, y3, rT, rF⟩ := HA.out wr hB j hlt
      obtain ⟨bi, oi, rfl, _, ki⟩ := hi.at_ (by omega)
      have z0 := ki j hlt
      obtain ⟨e1, e2⟩ := HG.out j hlt
      rw [e1] at y0 y1 rT rF
      rw [e2] at z0
      have hst := HP.out j hlt
      have HS := Go.Lib.hid hst
      have hlen := HL.out j
      have hm : m = (findP (L.take j) q u).length := by have := ho.len; rw [nums_length] at this; omega
      have hm2 : m ≤ 200 := by rw [List.length_take] at hlen; omega
      clear hst hlen hm e1 e2 ki
      generalize L.getD j (noEv, 0) = x at *
      obtain ⟨ev, xp⟩ := x
      simp only at y0 y1 z0 rT rF
      have hmt := fun (w2 : World) (b : Below wr.heap.size wr w2) => refMatch_any (.agg #[.slice Q nQ cQ]) (.agg #[.string ev.s, .string ev.t, .slice T nT cT, .slice F nF cF]) q ev w2 ⟨Q, nQ, cQ, rfl, rQ.below (below_chain hB b)⟩ ⟨T, nT, cT, F, nF, cF, rfl, RdC.below rT b, RdC.below rF b⟩
      have MT := Go.Lib.hid (hmt wr.drew (bel_dn (Below.refl _ _) 1))
      clear hmt
      go_upto_region 5 with (fail)
      refine wp_region_held_drew (S := (fun w' => (w'.cell? ⟨w.heap.size, 0, none⟩ = some (.slice Q nQ cQ) ∧ w'.cell? ⟨g, 0, none⟩ = some (.slice (some ⟨bb, ob, none⟩) n c)) ∧ (w'.cell? ⟨bb, ob + j * 4, none⟩ = some (.string ev.s) ∧ w'.cell? ⟨bb, ob + j * 4 + 1, none⟩ = some (.string ev.t)) ∧ w'.cell? ⟨bb, ob + j * 4 + 2, none⟩ = some (.slice T nT cT) ∧ w'.cell? ⟨bb, ob + j * 4 + 3, none⟩ = some (.slice F nF cF))) (by kernel_rfl) ?_ (fun hHeld => ?_)
      · exact ⟨⟨kq, x0⟩, ⟨y0, y1⟩, y2, y3⟩
      refine take_at (i := 0) (d := 20) (v := ?_) rfl rfl (by kernel_rfl) (by kernel_rfl) (by kernel_rfl) (fun _ _ _ h => h) (Or.inl ⟨by rfl, ?hy⟩) (by assumption) ?_
      case hy => (intro wS hSw; (try dsimp only at hSw); first | (go_simp; done) | (go_simp; with_reducible rfl))
      simp only [Act.put, List.setIfInBounds_toArray, List.set_cons_zero, List.set_cons_succ]
      refine take_at (i := 1) (d := 21) (v := ?_) rfl rfl (by kernel_rfl) (by kernel_rfl) (by kernel_rfl) (fun _ _ _ h => h) (Or.inl ⟨by rfl, ?hy⟩) (by assumption) ?_
      case hy => (intro wS hSw; (try dsimp only at hSw); first | (go_simp; done) | (go_simp; with_reducible rfl))
      simp only [Act.put, List.setIfInBounds_toArray, List.set_cons_zero, List.set_cons_succ]
      refine take_at (i := 2) (d := 22) (v := ?_) rfl rfl (by kernel_rfl) (by kernel_rfl) (by kernel_rfl) (fun _ _ _ h => h) (Or.inl ⟨by rfl, ?hy⟩) (by assumption) ?_
      case hy => (intro wS hSw; (try dsimp only at hSw); first | (go_simp; done) | (go_simp; with_reducible rfl))
      simp only [Act.put, List.setIfInBounds_toArray, List.set_cons_zero, List.set_cons_succ]
      refine take_at (i := 3) (d := 23) (v := ?_) rfl rfl (by kernel_rfl) (by kernel_rfl) (by kernel_rfl) (fun _ _ _ h => h) (Or.inl ⟨by rfl, ?hy⟩) (by assumption) ?_
      case hy => (intro wS hSw; (try dsimp only at hSw); first | (go_simp; done) | (go_simp; with_reducible rfl))
      simp only [Act.put, List.setIfInBounds_toArray, List.set_cons_zero, List.set_cons_succ]
      refine take_at (i := 4) (d := 24) (v := ?_) rfl rfl (by kernel_rfl) (by kernel_rfl) (by kernel_rfl) (fun _ _ _ h => h) (Or.inl ⟨by rfl, ?hy⟩) (by assumption) ?_
      case hy => (intro wS hSw; (try dsimp only at hSw); first | (go_simp; done) | (go_simp; with_reducible rfl))
      simp only [Act.put, List.setIfInBounds_toArray, List.set_cons_zero, List.set_cons_succ]
      refine take_at (i := 5) (d := 25) (v := ?_) rfl rfl (by kernel_rfl) (by kernel_rfl) (by kernel_rfl) (fun _ _ _ h => h) (Or.inl ⟨by rfl, ?hy⟩) (by assumption) ?_
      case hy => (intro wS hSw; (try dsimp only at hSw); first | (go_simp; done) | (go_simp; with_reducible rfl))
      simp only [Act.put, List.setIfInBounds_toArray, List.set_cons_zero, List.set_cons_succ]
      refine take_at (i := 6) (d := 26) (v := ?_) rfl rfl (by kernel_rfl) (by kernel_rfl) (by kernel_rfl) (fun _ _ _ h => h) (Or.inl ⟨by rfl, ?hy⟩) (by assumption) ?_
      case hy => (intro wS hSw; (try dsimp only at hSw); first | (go_simp; done) | (go_simp; with_reducible rfl))
      simp only [Act.put, List.setIfInBounds_toArray, List.set_cons_zero, List.set_cons_succ]
      refine take_at (i := 7) (d := 27) (v := ?_) rfl rfl (by kernel_rfl) (by kernel_rfl) (by kernel_rfl) (fun _ _ _ h => h) (Or.inl ⟨by rfl, ?hy⟩) (by assumption) ?_
      case hy => (intro wS hSw; (try dsimp only at hSw); first | (go_simp; done) | (go_simp; with_reducible rfl))
      simp only [Act.put, List.setIfInBounds_toArray, List.set_cons_zero, List.set_cons_succ]
      refine wpAnyH_ready (rs := [8]) (by kernel_rfl) (by simp) ?_
      refine AllReadyH.cons rfl (fun K8 hK8 => ?_) AllReadyH.nil
      go_simp
      go_wp2_with (go_at_call 40; refine MT.out.mono ?_; rintro e w2 ⟨rfl, b2'⟩; have b2 : Below wr.heap.size wr w2 := ⟨b2'.os, b2'.tape, b2'.output, b2'.size, b2'.block⟩)
      refine hK8.out _ _ ?_ (fun hH8 => ?_)
      · exact ⟨⟨bcell b2 kq, bcell b2 x0⟩, ⟨bcell b2 y0, bcell b2 y1⟩, bcell b2 y2, bcell b2 y3⟩
      clear hK8 K8 hHeld
      refine take_at (i := 9) (d := 9) (v := ?_) rfl rfl (by kernel_rfl) (by kernel_rfl) (by kernel_rfl) (fun _ _ _ h => h) (Or.inl ⟨by rfl, ?hy⟩) (by assumption) ?_
      case hy => (intro wS hSw; (try dsimp only at hSw); first | (go_simp; done) | (go_simp; with_reducible rfl))
      simp only [Act.put, List.setIfInBounds_toArray, List.set_cons_zero, List.set_cons_succ]
      refine wpAnyH_done (by kernel_rfl) ?_ _
      have hB2 := below_chain hB b2
      have o2 := ho.below b2
      have x1 := bcell hB2 k1
      have z1 := bcell hB2 z0
      have kQ2 := kQ.below b2
      clear ho hB b2 b2' kq kQ x0 y0 y1 y2 y3 rT rF MT
      by_cases hc : matchQ q ev = true ∧ xp ≤ u
      · have HS2 : Hid (findP (L.take (j + 1)) q u = findP (L.take j) q u ++ [xp]) := Go.Lib.hid (HS.out.trans (by rw [if_pos hc]))
        obtain ⟨hc1, hc2⟩ := hc
        rw [hc1]
        clear HS hc1
        have al := (Below.refl w2.heap.size w2).alloc (Nat.le_refl _) (.cells #[.int .i64 xp] 3)
        have d1 : RdC 1 (w2.alloc (.cells #[.int .i64 xp] 3)) (some ⟨w2.heap.size, 0, none⟩) 1 1 (nums [xp]) := RdC.new w2 3 (nums [xp]) rfl (by decide)
        have o3 := o2.below al
        have kq3 := kQ2.below al
        go_wp2_with (at_builtin; refine wpList_append_cells rfl (.tmp 41) (.tmp 49) 22 rfl 3 (.int .i64 0) 8 Try.underlying22 int_info rfl (by decide) rfl rfl o3 d1 (nums_one _) (by unfold maxLen; omega) (by omega) (Nat.le_trans hB2.size al.size) ?_; intro A8 c8 w8 o8 g8 _; have b8 := below_grown_own o3 (hB2.trans (al.mono hB2.size)) g8 (Nat.le_trans hB2.size al.size); have kq8 := kq3.grown g8 (own_ne o3 kq3 (by decide)))
        go_roundw
        case rel => exact ⟨A8, m + 1, c8, j + 1, rfl, by go_num, by omega, by rw [HS2.out, nums_append]; exact o8, kq8, b8⟩
        case measure => simp [intOf]; omega
      · have HS2 : Hid (findP (L.take (j + 1)) q u = findP (L.take j) q u) := Go.Lib.hid (HS.out.trans (by rw [if_neg hc, List.append_nil]))
        clear HS
        cases hc1 : matchQ q ev with
        | true =>
          have hc2 : ¬ xp ≤ u := fun h => hc ⟨hc1, h⟩
          clear hc hc1
          go_wp2_with fail
          go_roundw
          case rel => exact ⟨C, m, cb, j + 1, rfl, by go_num, by omega, by rw [HS2.out]; exact o2, kQ2, hB2⟩
          case measure => simp [intOf]; omega
        | false =>
          clear hc hc1
          go_wp2_with fail
          go_roundw
          case rel => exact ⟨C, m, cb, j + 1, rfl, by go_num, by omega, by rw [HS2.out]; exact o2, kQ2, hB2⟩
          case measure => simp [intOf]; omega
    · obtain rfl : j = n := by omega
      have i1 : ¬ (j : Int) < j := by omega
      go_wp2_with fail
      go_ret
      refine ⟨C, m, cb, rfl, ?_, hB⟩
      have := OwnC.rd ho
      rw [HT.out] at this
      exact this

end Go.Proofs.Ytppdljkfhoekpaa.PoWalk

/-
  Layer 13: what is asked of the landed lists; a query, a row of numbers as things.
-/
namespace Go.Proofs.Ytppdljkfhoekpaa.PoWalk
open Go.RowKit Go.Proofs.Ytppdljkfhoekpaa.MemRow Go.Proofs.Ytppdljkfhoekpaa.Ev Go.Proofs.Ytppdljkfhoekpaa.NameMath Go.Proofs.Ytppdljkfhoekpaa.NameWalk Go.Proofs.Ytppdljkfhoekpaa.EvWalk Go.Proofs.Ytppdljkfhoekpaa.NumMem Go.Proofs.Ytppdljkfhoekpaa.SmWalk Go.Proofs.Ytppdljkfhoekpaa.Qu Go.Proofs.Ytppdljkfhoekpaa.QuWalk Go.Proofs.Ytppdljkfhoekpaa.DkWalk

/-- A row of numbers that a call gave: the caller's own. -/
def RiT (A : Option Addr) (n c : Nat) (l : List Int) : Thing := fun w G => RdI w A n c l ∧ (∀ a, A = some a → G a.block) ∧ ∀ k, G k → k < w.heap.size
theorem riT_keeps (A : Option Addr) (n c : Nat) (l : List Int) : Keeps (RiT A n c l) :=
  ⟨fun ⟨h, i, hl⟩ hs hk => ⟨rdc_keep h fun a ha => hk _ (i a ha), i, fun k h => Nat.lt_of_lt_of_le (hl k h) hs⟩, fun h => h.2.2⟩
theorem pair_ri {base : Nat} {w : World} {P Q R : Thing} {A : Option Addr} {n c : Nat} {l : List Int} (h : Pair base w P (With Q (With R (RiT A n c l)))) : RdI w A n c l := by
  obtain ⟨_, _, _, ⟨_, _, _, ⟨_, _, _, hr, _⟩, _⟩, _⟩ := h
  exact hr.1
theorem pair_ri1 {base : Nat} {w : World} {P R : Thing} {A : Option Addr} {n c : Nat} {l : List Int} (h : Pair base w P (With R (RiT A n c l))) : RdI w A n c l := by
  obtain ⟨_, _, _, ⟨_, _, _, hr, _⟩, _⟩ := h
  exact hr.1
structure LsApi (Pt : Nat → Ls → Thing) : Prop where
  keeps : ∀ g L, Keeps (Pt g L)
  new : ∀ {base : Nat} {w : World} {G : Nat → Prop} {Q : Thing}, Q w G → Keeps Q → (∀ k, G k → base ≤ k) → base ≤ w.heap.size →
    Calls Try.prog 16 #[] w fun e w' => ∃ g, e = .returned (.pointer (some ⟨g, 0, none⟩)) ∧ Pair base w' (Pt g []) Q ∧ Below w.heap.size w w'
  add : ∀ {base : Nat} {w : World} {g : Nat} {L : Ls} {Q : Thing} {v : Value} {e : Ev} {p : Int}, Pair base w (Pt g L) Q → Keeps Q → base ≤ w.heap.size → LOk L → L.length < 200 → (∀ (w' : World) (G : Nat → Prop), Q w' G → Below base w w' → IsEv w' v e) → EvOk e → e.tags.length ≤ 100 → (-9223372036854775808 ≤ p ∧ p ≤ 9223372036854775807) →
    Calls Try.prog 18 #[.pointer (some ⟨g, 0, none⟩), v, .int .i64 p] w fun r w' => r = .returned (.int .i64 (addL L e p).1) ∧ Pair base w' (Pt g (addL L e p).2) Q ∧ Below base w w'
  tag : ∀ {base : Nat} {w : World} {g : Nat} {L : Ls} {Q : Thing} {t : ByteArray}, Pair base w (Pt g L) Q → Keeps Q → LOk L → t.size ≤ maxLen →
    Calls Try.prog 21 #[.pointer (some ⟨g, 0, none⟩), .string t] w fun e w' => ∃ B m c, e = .returned (.slice B m c) ∧ RdI w' B m c (tagP L t) ∧ Pair base w' (Pt g L) Q ∧ Below w.heap.size w w'
  tagN : ∀ {base : Nat} {w : World} {g : Nat} {L : Ls} {Q : Thing} {t : ByteArray}, Pair base w (Pt g L) Q → Keeps Q → base ≤ w.heap.size → LOk L → t.size ≤ maxLen →
    Calls Try.prog 21 #[.pointer (some ⟨g, 0, none⟩), .string t] w fun e w' => ∃ B m c, e = .returned (.slice B m c) ∧ Pair base w' (Pt g L) (With Q (RiT B m c (tagP L t))) ∧ Below w.heap.size w w'
  typ : ∀ {base : Nat} {w : World} {g : Nat} {L : Ls} {Q : Thing} {t : ByteArray}, Pair base w (Pt g L) Q → Keeps Q → LOk L → t.size ≤ maxLen →
    Calls Try.prog 23 #[.pointer (some ⟨g, 0, none⟩), .string t] w fun e w' => ∃ B m c, e = .returned (.slice B m c) ∧ RdI w' B m c (typP L t) ∧ Pair base w' (Pt g L) Q ∧ Below w.heap.size w w'
  find : ∀ {base : Nat} {w : World} {g : Nat} {L : Ls} {Q : Thing} {v : Value} {q : List Cl} {u : Int}, Pair base w (Pt g L) Q → Keeps Q → LOk L → IsQ w v q → QOk q → q.length ≤ 8 → (∀ c ∈ q, c.tags.length ≤ 8 ∧ c.types.length ≤ 8) → (-9223372036854775808 ≤ u ∧ u ≤ 9223372036854775807) →
    Calls Try.prog 26 #[.pointer (some ⟨g, 0, none⟩), v, .int .i64 u] w fun e w' => ∃ B m c, e = .returned (.slice B m c) ∧ RdI w' B m c (findP L q u) ∧ Pair base w' (Pt g L) Q ∧ Below w.heap.size w w'
/-- .. and two of them, one made by Clone: they may share memory. -/
structure LtApi (Pt : Nat → Ls → Thing) (Pw : Nat → Ls → Nat → Ls → Thing) : Prop extends LsApi Pt where
  tkeeps : ∀ g L g' L', Keeps (Pw g L g' L')
  swap : ∀ g L g' L', Imp (Pw g L g' L') (Pw g' L' g L)
  fst : ∀ g L g' L', Imp (Pw g L g' L') (Pt g L)
  clone : ∀ {base : Nat} {w : World} {g : Nat} {L : Ls} {Q : Thing}, Pair base w (Pt g L) Q → Keeps Q → base ≤ w.heap.size → LOk L →
    Calls Try.prog 17 #[.pointer (some ⟨g, 0, none⟩)] w fun e w' => ∃ g', e = .returned (.pointer (some ⟨g', 0, none⟩)) ∧ Pair base w' (Pw g L g' L) Q ∧ Below w.heap.size w w'
  tadd : ∀ {base : Nat} {w : World} {g g' : Nat} {L L' : Ls} {Q : Thing} {v : Value} {e : Ev} {p : Int}, Pair base w (Pw g L g' L') Q → Keeps Q → base ≤ w.heap.size → LOk L → L.length < 200 → (∀ (w' : World) (G : Nat → Prop), Q w' G → Below base w w' → IsEv w' v e) → EvOk e → e.tags.length ≤ 100 → (-9223372036854775808 ≤ p ∧ p ≤ 9223372036854775807) →
    Calls Try.prog 18 #[.pointer (some ⟨g, 0, none⟩), v, .int .i64 p] w fun r w' => r = .returned (.int .i64 (addL L e p).1) ∧ Pair base w' (Pw g (addL L e p).2 g' L') Q ∧ Below base w w'
  ttag : ∀ {base : Nat} {w : World} {g g' : Nat} {L L' : Ls} {Q : Thing} {t : ByteArray}, Pair base w (Pw g L g' L') Q → Keeps Q → LOk L → t.size ≤ maxLen →
    Calls Try.prog 21 #[.pointer (some ⟨g, 0, none⟩), .string t] w fun e w' => ∃ B m c, e = .returned (.slice B m c) ∧ RdI w' B m c (tagP L t) ∧ Pair base w' (Pw g L g' L') Q ∧ Below w.heap.size w w'
  ttyp : ∀ {base : Nat} {w : World} {g g' : Nat} {L L' : Ls} {Q : Thing} {t : ByteArray}, Pair base w (Pw g L g' L') Q → Keeps Q → LOk L → t.size ≤ maxLen →
    Calls Try.prog 23 #[.pointer (some ⟨g, 0, none⟩), .string t] w fun e w' => ∃ B m c, e = .returned (.slice B m c) ∧ RdI w' B m c (typP L t) ∧ Pair base w' (Pw g L g' L') Q ∧ Below w.heap.size w w'
theorem pair_impL {base : Nat} {w : World} {P P' Q : Thing} (i : Imp P P') (h : Pair base w P Q) : Pair base w P' Q := (pair_imp i h.swap).swap

theorem with_no {w : World} {G : Nat → Prop} {R : Thing} (h : R w G) (k : Keeps R) : With NoT R w G := ⟨fun _ => False, G, fun _ h => h, h, fun _ h => h.elim, fun _ h => h, k.lt h, fun _ h => h.elim⟩
/-- A query's clauses, told by whatever agrees on its blocks. -/
def OqT (W0 : World) (A : Option Addr) (n c : Nat) (q : List Cl) : Thing := fun w G => (∀ w', Below W0.heap.size W0 w' → (∀ k, G k → w'.heap[k]? = w.heap[k]?) → RdQ w' A n c q) ∧ ∀ k, G k → k < w.heap.size
theorem oqT_keeps (W0 : World) (A : Option Addr) (n c : Nat) (q : List Cl) : Keeps (OqT W0 A n c q) :=
  ⟨fun h hs hk => ⟨fun w2 hb h2 => h.1 w2 hb fun k hk2 => (h2 k hk2).trans (hk k hk2), fun k h3 => Nat.lt_of_lt_of_le (h.2 k h3) hs⟩, fun h => h.2⟩
theorem oqT_of {W0 w w' : World} {lo : Nat} {A : Option Addr} {n c : Nat} {q : List Cl} (h : OwnQ W0 w' lo A n c q) (hlo : w.heap.size ≤ lo) : OqT W0 A n c q w' (fun k => w.heap.size ≤ k ∧ k < w'.heap.size) := by
  refine ⟨fun w2 hb h2 => ?_, fun k hk => hk.2⟩
  obtain ⟨cs, o, hl, hc⟩ := h
  refine OwnQ.rd ⟨cs, own_keep o fun a ha => h2 _ ?_, hl, hc⟩ hb
  have := OwnC.lt o a ha
  exact ⟨by omega, this.2⟩
theorem pair_oq {base : Nat} {W0 w : World} {P Q : Thing} {A : Option Addr} {n c : Nat} {q : List Cl} (h : Pair base w P (With Q (OqT W0 A n c q))) (hB : Below W0.heap.size W0 w) : RdQ w A n c q := by
  obtain ⟨_, _, _, ⟨_, _, _, hr, _⟩, _⟩ := h
  exact hr.1 w hB fun _ _ => rfl
/-- A row of numbers of the law's own. -/
def IwT (lo : Nat) (A : Option Addr) (n c : Nat) (l : List Int) : Thing := fun w G => OwnC 1 w lo 3 A n c (nums l) ∧ (∀ a, A = some a → G a.block) ∧ ∀ k, G k → k < w.heap.size
theorem iwT_keeps (lo : Nat) (A : Option Addr) (n c : Nat) (l : List Int) : Keeps (IwT lo A n c l) :=
  ⟨fun ⟨h, i, hl⟩ hs hk => ⟨own_keep h fun a ha => hk _ (i a ha), i, fun k h => Nat.lt_of_lt_of_le (hl k h) hs⟩, fun h => h.2.2⟩
theorem pair_iw {base lo : Nat} {w : World} {P Q : Thing} {A : Option Addr} {n c : Nat} {l : List Int} (h : Pair base w P (With Q (IwT lo A n c l))) : OwnC 1 w lo 3 A n c (nums l) := by
  obtain ⟨_, _, _, ⟨_, _, _, hr, _⟩, _⟩ := h
  exact hr.1
theorem pair_push {base lo : Nat} {w : World} {P Z : Thing} {A : Option Addr} {n c : Nat} {l : List Int} (hp : Pair base w P (With Z (IwT lo A n c l))) (kp : Keeps P) (kz : Keeps Z) (hb : base ≤ w.heap.size) {A' : Option Addr} {n' c' : Nat} {l' : List Int} {w' : World}
    (oo : OwnC 1 w' lo 3 A' n' c' (nums l')) (hg : w.grownBy w' (A.map (·.block))) (hbl : A'.map (·.block) = A.map (·.block) ∨ A'.map (·.block) = some w.heap.size) :
    Pair base w' P (With Z (IwT lo A' n' c' l')) ∧ Below base w w' := by
  obtain ⟨F, G, hpF, ⟨G1, G2, hz, ⟨o, ha, hlt2⟩, i1, i2, hlt, hx⟩, hF, hG, hd⟩ := hp
  have na : ∀ k, (∀ a, A = some a → a.block ≠ k) → some k ≠ A.map (·.block) := fun k hk e => by
    cases A with
    | none => cases e
    | some a => injection e with e; exact hk a rfl e.symm
  obtain ⟨g1, g2, g3, gs, gb⟩ := hg
  have same : ∀ k, k < w.heap.size → (∀ a, A = some a → a.block ≠ k) → w'.heap[k]? = w.heap[k]? := fun k hk hn => gb k hk (na k hn)
  have hA' : ∀ a, A' = some a → (∃ b, A = some b ∧ b.block = a.block) ∨ a.block = w.heap.size := fun a e => by
    rw [e] at hbl
    rcases hbl with q | q
    · cases A with
      | none => cases q
      | some b => injection q with q; exact .inl ⟨b, rfl, q.symm⟩
    · injection q with q; exact .inr q
  have hA2 : ∀ a, A' = some a → a.block < w'.heap.size := fun a e => (OwnC.lt oo a e).2
  refine ⟨⟨F, fun k => G k ∨ k = w.heap.size ∧ k < w'.heap.size, kp.keep hpF gs fun k hf => same k (kp.lt hpF k hf) (fun a e e2 => hd k hf (i2 k (by rw [← e2]; exact ha a e))),
    ⟨G1, fun k => G2 k ∨ ∃ a, A' = some a ∧ a.block = k, kz.keep hz gs fun k hf => same k (kz.lt hz k hf) (fun a e e2 => hx k hf (by rw [← e2]; exact ha a e)), ⟨oo, fun a e => .inr ⟨a, e, rfl⟩, fun k hk => ?_⟩, fun k hk => .inl (i1 k hk), fun k hk => ?_, fun k hk => ?_, fun k h1 h2 => ?_⟩, hF, fun k hk => ?_, fun k hf hk => ?_⟩, ?_⟩
  · rcases hk with hk | ⟨a, e, rfl⟩
    · exact Nat.lt_of_lt_of_le (hlt2 k hk) gs
    · exact hA2 a e
  · rcases hk with hk | ⟨a, e, rfl⟩
    · exact .inl (i2 k hk)
    · rcases hA' a e with ⟨b, hb1, hb2⟩ | q
      · rw [← hb2]; exact .inl (i2 _ (ha b hb1))
      · exact .inr ⟨q, hA2 a e⟩
  · rcases hk with h | ⟨_, h⟩
    · exact Nat.lt_of_lt_of_le (hlt k h) gs
    · exact h
  · rcases h2 with h2 | ⟨a, e, rfl⟩
    · exact hx k h1 h2
    · rcases hA' a e with ⟨b, hb1, hb2⟩ | q
      · exact hx _ h1 (by rw [← hb2]; exact ha b hb1)
      · have := kz.lt hz _ h1; omega
  · rcases hk with hk | ⟨hk, _⟩
    · exact hG k hk
    · omega
  · rcases hk with hk | ⟨hk, _⟩
    · exact hd k hf hk
    · have := kp.lt hpF k hf; omega
  · exact (Below.refl base w).grown ⟨g1, g2, g3, gs, gb⟩ hb fun k e => by
      cases A with
      | none => cases e
      | some a =>
        injection e with e
        rw [← e]
        exact hG _ (i2 _ (ha a rfl))

/-- Events, each at the next of the positions 1, 4, 7 .. -/
def lsM (es : List Ev) : Ls := es.mapIdx fun i e => (fewT e, 3 * (i : Int) + 1)
theorem lsM_snoc (es : List Ev) (e : Ev) : lsM (es ++ [e]) = lsM es ++ [(fewT e, 3 * (es.length : Int) + 1)] := by simp [lsM, List.mapIdx_append]
theorem lsM_len (es : List Ev) : (lsM es).length = es.length := by simp [lsM]
theorem snoc_ind {α : Type} {P : List α → Prop} (h0 : P []) (h1 : ∀ L y, P L → P (L ++ [y])) (l : List α) : P l := by
  suffices h : ∀ l : List α, P l.reverse by simpa using h l.reverse
  intro l
  induction l with
  | nil => exact h0
  | cons a l ih => rw [List.reverse_cons]; exact h1 _ _ ih
theorem lsM_last (es : List Ev) : lastL (lsM es) < 3 * (es.length : Int) + 1 := by
  rcases List.eq_nil_or_concat es with rfl | ⟨M, y, rfl⟩
  · simp [lsM, lastL]
  · rw [List.concat_eq_append, lsM_snoc, lastL_snoc, List.length_append]
    simp only [List.length_singleton]
    omega
theorem lsM_ok (es : List Ev) (h : es.length ≤ 60) : LOk (lsM es) := by
  refine snoc_ind (P := fun es => es.length ≤ 60 → LOk (lsM es)) (fun _ => LOk.nil) (fun L y ih hl => ?_) es h
  rw [List.length_append, List.length_singleton] at hl
  have h1 := ih (by omega)
  have h2 := addL_ok h1 (fewT y) (p := 3 * (L.length : Int) + 1) (by omega) (by rw [lsM_len]; omega)
  rw [addL_yes (by omega) (lsM_last L)] at h2
  rw [lsM_snoc]
  exact h2
theorem ev_take (l : List Ev) (j : Nat) (h : j < l.length) : l.take (j + 1) = l.take j ++ [l.getD j noEv] := by
  rw [List.take_add_one]
  simp [List.getD, List.getElem?_eq_getElem h]
theorem lsM_next {es : List Ev} {j : Nat} (h : j < es.length) : addL (lsM (es.take j)) (fewT (es.getD j noEv)) (3 * (j : Int) + 1) = (0, lsM (es.take (j + 1))) := by
  have hl : (es.take j).length = j := by rw [List.length_take]; omega
  have h1 := lsM_last (es.take j)
  rw [hl] at h1
  rw [addL_yes (by omega) h1, ev_take es j h, lsM_snoc, hl]
theorem find_snoc (L : Ls) (e : Ev) (p : Int) (q : List Cl) (u : Int) : findP (L ++ [(e, p)]) q u = findP L q u ++ (if matchQ q e = true ∧ p ≤ u then [p] else []) := by
  have h := find_step q u (L ++ [(e, p)]) (j := L.length) (by simp)
  rw [List.take_of_length_le (by simp), List.take_left] at h
  rw [h]
  simp [List.getD]
theorem fewT_ok {e : Ev} (h : EvOk e) : EvOk (fewT e) := by
  obtain ⟨h1, h2, h3, h4, h5⟩ := h
  exact ⟨h1, h2, fun x hx => h3 x (List.mem_of_mem_take hx), h4, h5⟩
theorem fewT_len (e : Ev) : (fewT e).tags.length ≤ 10 := by simp only [fewT, List.length_take]; omega
theorem ev_ok {es : List Ev} (h : ∀ e ∈ es, EvOk e) {j : Nat} (hj : j < es.length) : EvOk (es.getD j noEv) := by
  simp only [List.getD, List.getElem?_eq_getElem hj, Option.getD_some]
  exact h _ (List.getElem_mem hj)

end Go.Proofs.Ytppdljkfhoekpaa.PoWalk

/-
  Contracts of the library's slices functions, over texts and over numbers with a name: Index, Contains, Equal, IndexFunc, ContainsFunc.
-/
namespace Go.Proofs.Ytppdljkfhoekpaa.EvWalk
open Go.RowKit Go.Proofs.Ytppdljkfhoekpaa.MemRow Go.Proofs.Ytppdljkfhoekpaa.Ev Go.Proofs.Ytppdljkfhoekpaa.NameMath Go.Proofs.Ytppdljkfhoekpaa.NameWalk

theorem any_miss {α : Type} {p : α → Bool} {l : List α} {j : Nat} {d : α} (hj : j < l.length) (h : (l.take j).any p = false) (hp : p (l.getD j d) = false) : (l.take (j + 1)).any p = false := by
  rw [List.take_succ_eq_append_getElem hj, List.any_append, h]
  simp only [List.getD, List.getElem?_eq_getElem hj, Option.getD_some] at hp
  simp [hp]
theorem any_hit {α : Type} {p : α → Bool} {l : List α} {j : Nat} {d : α} (hj : j < l.length) (hp : p (l.getD j d) = true) : l.any p = true := by
  simp only [List.getD, List.getElem?_eq_getElem hj, Option.getD_some] at hp
  rw [List.any_eq_true]
  exact ⟨_, List.getElem_mem hj, hp⟩
theorem dec_ge0 (j : Nat) : decide ((0 : Int) ≤ (j : Int)) = true := decide_eq_true (by omega)

/-- A place of a slice, or -1. -/
def Found (b : Bool) (e : Ending) : Prop := ∃ i : Int, e = .returned (.int .i64 i) ∧ decide (0 ≤ i) = b

/-- A predicate on texts, handed to the library. -/
def PredS (g : Nat) (p : ByteArray → Bool) (ss : List ByteArray) (w : World) : Prop :=
  ∀ W, Below w.heap.size w W → ∀ x ∈ ss, Calls Try.prog g #[.string x] W fun e W' => e = .returned (.bool (p x)) ∧ Below W.heap.size W W'
/-- A predicate on numbers with a name, handed to the library. -/
def PredF (g : Nat) (p : ByteArray × Int → Bool) (fs : List (ByteArray × Int)) (w : World) : Prop :=
  ∀ W, Below w.heap.size w W → ∀ x ∈ fs, Calls Try.prog g #[.agg #[.string x.1, .int .i64 x.2]] W fun e W' => e = .returned (.bool (p x)) ∧ Below W.heap.size W W'

set_option maxHeartbeats 4000000 in
set_option maxRecDepth 100000 in
theorem index_any (A : Option Addr) (n ca : Nat) (ss : List ByteArray) (x : ByteArray) (w : World) (ha : RdS w A n ca ss) :
    Calls Try.prog 59 #[.slice A n ca, .string x] w fun e w' => Found (hasB ss x) e ∧ Below w.heap.size w w' := by
  have hn := RdC.le ha
  unfold maxLen at hn
  have la := ha.len
  generalize hR : hasB ss x = R
  have HR := Go.Lib.hid hR
  have LA := Go.Lib.hid la
  clear hR la
  go_enter Try.func59, Try.ntmps59
  go_wp2_with fail
  go_loopw [5, 8] (fun _ i wr => ∃ j : Nat, j ≤ n ∧ i = .int .i64 j ∧ (ss.take j).any (fun y => decide (y = x)) = false ∧ Below w.heap.size w wr) (fun _ i _ => n - (intOf i).toNat)
  case atStart => exact ⟨0, Nat.zero_le _, rfl, rfl, Below.refl _ _⟩
  case round =>
    obtain ⟨j, hj, rfl, hq, hb⟩ := hrel
    have HQ := Go.Lib.hid hq
    clear hq
    have a1 := RdC.below ha hb
    by_cases hlt : j < n
    · obtain ⟨ba, oa, rfl, _, ka⟩ := RdS.at_ a1 (by omega)
      have ka1 := ka j hlt
      have i1 : (j : Int) < n := by omega
      have hjl : j < ss.length := by rw [LA.out]; exact hlt
      have HM := Go.Lib.hid (fun h => any_miss (p := fun y => decide (y = x)) (d := ByteArray.empty) hjl HQ.out h)
      have HH := Go.Lib.hid (fun h => any_hit (p := fun y => decide (y = x)) (d := ByteArray.empty) hjl h)
      clear ka hjl a1
      generalize hy : ss.getD j ByteArray.empty = y at *
      clear hy
      by_cases hxy : x = y
      · subst hxy
        have hR : R = true := by rw [← HR.out]; exact HH.out (decide_eq_true rfl)
        subst hR
        go_wp2_with fail
        go_ret
        exact ⟨⟨j, rfl, dec_ge0 j⟩, hb⟩
      · have hne := str_ne hxy
        go_wp2_with fail
        go_roundw
        case rel => exact ⟨j + 1, by omega, by go_num, HM.out (decide_eq_false fun h => hxy h.symm), hb⟩
        case measure => simp [intOf]; omega
    · obtain rfl : n = j := by omega
      have hR : R = false := by
        rw [← HR.out]
        have h1 := HQ.out
        rwa [List.take_of_length_le (by rw [LA.out]; exact Nat.le_refl _)] at h1
      subst hR
      go_wp2_with fail
      go_ret
      exact ⟨⟨-1, rfl, by decide⟩, hb⟩

set_option maxHeartbeats 2000000 in
set_option maxRecDepth 100000 in
theorem contains_any (A : Option Addr) (n ca : Nat) (ss : List ByteArray) (x : ByteArray) (w : World) (ha : RdS w A n ca ss) :
    Calls Try.prog 55 #[.slice A n ca, .string x] w fun e w' => e = .returned (.bool (hasB ss x)) ∧ Below w.heap.size w w' := by
  have c := Go.Lib.hid (index_any A n ca ss x w ha)
  clear ha
  generalize hasB ss x = R at c ⊢
  go_enter Try.func55, Try.ntmps55
  go_wp2_with (refine (c.out).mono ?_; rintro e w' ⟨⟨i, rfl, rfl⟩, b1⟩)
  go_ret
  exact ⟨rfl, b1⟩

set_option maxHeartbeats 4000000 in
set_option maxRecDepth 100000 in
theorem idxFuncS_any (A : Option Addr) (n ca : Nat) (ss : List ByteArray) (g : Nat) (p : ByteArray → Bool) (w : World) (ha : RdS w A n ca ss) (eg : ∀ args w, (callFunc g args).run Try.prog w = .ok (.enter g args) w) (hp : PredS g p ss w) :
    Calls Try.prog 58 #[.slice A n ca, .func (.func g) #[] #[]] w fun e w' => Found (ss.any p) e ∧ Below w.heap.size w w' := by
  have hn := RdC.le ha
  unfold maxLen at hn
  have la := ha.len
  generalize hR : ss.any p = R
  have HR := Go.Lib.hid hR
  have LA := Go.Lib.hid la
  have HP := Go.Lib.hid hp
  clear hR la hp
  go_enter Try.func58, Try.ntmps58
  go_wp2_with fail
  go_loopw [5, 8] (fun _ i wr => ∃ j : Nat, j ≤ n ∧ i = .int .i64 j ∧ (ss.take j).any p = false ∧ Below w.heap.size w wr) (fun _ i _ => n - (intOf i).toNat)
  case atStart => exact ⟨0, Nat.zero_le _, rfl, rfl, Below.refl _ _⟩
  case round =>
    obtain ⟨j, hj, rfl, hq, hb⟩ := hrel
    have HQ := Go.Lib.hid hq
    clear hq
    have a1 := RdC.below ha hb
    by_cases hlt : j < n
    · obtain ⟨ba, oa, rfl, _, ka⟩ := RdS.at_ a1 (by omega)
      have ka1 := ka j hlt
      have i1 : (j : Int) < n := by omega
      have hjl : j < ss.length := by rw [LA.out]; exact hlt
      have HM := Go.Lib.hid (fun h => any_miss (p := p) (d := ByteArray.empty) hjl HQ.out h)
      have HH := Go.Lib.hid (fun h => any_hit (p := p) (d := ByteArray.empty) hjl h)
      have c := Go.Lib.hid (HP.out wr hb _ (mem_getD ss j hjl))
      clear ka hjl a1
      generalize hy : ss.getD j ByteArray.empty = y at *
      clear hy
      cases hpy : p y with
      | true =>
        have hR : R = true := by rw [← HR.out]; exact HH.out hpy
        subst hR
        rw [hpy] at c
        clear HM HH hpy
        go_wp2_with (refine (c.out).mono ?_; rintro e w1 ⟨rfl, b1⟩)
        go_ret
        exact ⟨⟨j, rfl, dec_ge0 j⟩, below_chain hb b1⟩
      | false =>
        rw [hpy] at c
        have HN := Go.Lib.hid (HM.out hpy)
        clear HM HH hpy
        go_wp2_with (refine (c.out).mono ?_; rintro e w1 ⟨rfl, b1⟩)
        go_roundw
        case rel => exact ⟨j + 1, by omega, by go_num, HN.out, below_chain hb b1⟩
        case measure => simp [intOf]; omega
    · obtain rfl : n = j := by omega
      have hR : R = false := by
        rw [← HR.out]
        have h1 := HQ.out
        rwa [List.take_of_length_le (by rw [LA.out]; exact Nat.le_refl _)] at h1
      subst hR
      go_wp2_with fail
      go_ret
      exact ⟨⟨-1, rfl, by decide⟩, hb⟩

set_option maxHeartbeats 2000000 in
set_option maxRecDepth 100000 in
theorem hasFuncS_any (A : Option Addr) (n ca : Nat) (ss : List ByteArray) (g : Nat) (p : ByteArray → Bool) (w : World) (ha : RdS w A n ca ss) (eg : ∀ args w, (callFunc g args).run Try.prog w = .ok (.enter g args) w) (hp : PredS g p ss w) :
    Calls Try.prog 52 #[.slice A n ca, .func (.func g) #[] #[]] w fun e w' => e = .returned (.bool (ss.any p)) ∧ Below w.heap.size w w' := by
  have c := Go.Lib.hid (idxFuncS_any A n ca ss g p w ha eg hp)
  clear ha eg hp
  generalize ss.any p = R at c ⊢
  go_enter Try.func52, Try.ntmps52
  go_wp2_with (refine (c.out).mono ?_; rintro e w' ⟨⟨i, rfl, rfl⟩, b1⟩)
  go_ret
  exact ⟨rfl, b1⟩

end Go.Proofs.Ytppdljkfhoekpaa.EvWalk

