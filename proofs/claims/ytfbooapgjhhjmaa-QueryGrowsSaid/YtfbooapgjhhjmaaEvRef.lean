/-
  Contracts of the document's answers of layer 4: Texts, Rise, Put, tags.
-/
import Derived.Test.YtfbooapgjhhjmaaEvOpen
import Derived.Test.YtfbooapgjhhjmaaNmRefD
import Derived.WalkLawsBesides
namespace Go.Proofs.Ytfbooapgjhhjmaa.EvWalk
open Go.RowKit Go.Proofs.Ytfbooapgjhhjmaa.MemRow Go.Proofs.Ytfbooapgjhhjmaa.Ev Go.Proofs.Ytfbooapgjhhjmaa.NameMath Go.Proofs.Ytfbooapgjhhjmaa.NameWalk

/-- Go's '<' on texts. -/
def less (a b : ByteArray) : Bool := Op.bytesLess a.toList b.toList

def riseB : List ByteArray → Bool
  | [] => true
  | [_] => true
  | a :: b :: l => less a b && riseB (b :: l)

/-- One more, at its place. -/
def putL : List ByteArray → ByteArray → List ByteArray
  | [], s => [s]
  | a :: l, s => if less a s = true then a :: putL l s else if a = s then a :: l else s :: a :: l

theorem toList_ne {a b : ByteArray} (h : a ≠ b) : ¬ a.toList = b.toList := by
  intro e
  rw [ByteArray.toList_eq, ByteArray.toList_eq] at e
  exact h (ba_ext e)

theorem str_ne {a b : ByteArray} (h : a ≠ b) : (a.toList == b.toList) = false := by
  rw [beq_eq_false_iff_ne]
  exact toList_ne h

theorem take_get (l : List ByteArray) (j : Nat) (h : j < l.length) : l.take (j + 1) = l.take j ++ [l.getD j ByteArray.empty] := by
  rw [List.take_succ_eq_append_getElem h]
  simp [List.getD, List.getElem?_eq_getElem h]

set_option maxHeartbeats 4000000 in
set_option maxRecDepth 100000 in
theorem refTexts_any (A B : Option Addr) (n m ca cb : Nat) (ss tt : List ByteArray) (w : World) (ha : RdS w A n ca ss) (hb : RdS w B m cb tt) :
    Calls Try.prog 20 #[.slice A n ca, .slice B m cb] w fun e w' => e = .returned (.bool (decide (ss = tt))) ∧ ∃ k, w' = w.drewN k := by
  have hn := RdC.le ha
  have hm := RdC.le hb
  unfold maxLen at hn hm
  have la := ha.len
  have lb := hb.len
  by_cases hnm : n = m
  · subst hnm
    generalize hR : decide (ss = tt) = R
    have HR := Go.Lib.hid hR
    have LA := Go.Lib.hid la
    have LB := Go.Lib.hid lb
    clear hR la lb
    go_enter Try.func20, Try.ntmps20
    go_wp2_with fail
    go_loopw [5] (fun i wr => ∃ j : Nat, j ≤ n ∧ i = .int .i64 j ∧ ss.take j = tt.take j ∧ ∃ q, wr = w.drewN q) (fun i _ => n - (intOf i).toNat)
    case atStart => exact ⟨0, Nat.zero_le _, rfl, rfl, 0, rfl⟩
    case round =>
      obtain ⟨j, hj, rfl, hq, q, hw⟩ := hrel
      have HQ := Go.Lib.hid hq
      clear hq
      have ha' : RdS wr A n ca ss := by rw [hw]; exact ha
      have hb' : RdS wr B n cb tt := by rw [hw]; exact hb
      have HW := Go.Lib.hid hw
      clear hw
      by_cases hlt : j < n
      · obtain ⟨ba, oa, rfl, _, ka⟩ := ha'.at_ (by omega)
        obtain ⟨bb, ob, rfl, _, kb⟩ := hb'.at_ (by omega)
        have ka1 := ka j hlt
        have kb1 := kb j hlt
        have i1 : (j : Int) < n := by omega
        have ta := take_get ss j (by rw [LA.out]; exact hlt)
        have tb := take_get tt j (by rw [LB.out]; exact hlt)
        have TA := Go.Lib.hid ta
        have TB := Go.Lib.hid tb
        clear ka kb ta tb ha' hb'
        generalize hx : ss.getD j ByteArray.empty = x at *
        generalize hy : tt.getD j ByteArray.empty = y at *
        have HX := Go.Lib.hid hx
        have HY := Go.Lib.hid hy
        clear hx hy
        by_cases hxy : x = y
        · subst hxy
          go_wp2_with fail
          go_quiet (fail)
          go_wp2_with fail
          go_roundw
          case rel => exact ⟨j + 1, by omega, by go_num, by rw [TA.out, TB.out, HQ.out], q + nq, by rw [HW.out, World.drewN_drewN]⟩
          case measure => simp [intOf]; omega
        · have hne := str_ne hxy
          have hR : R = false := by
            rw [← HR.out]
            refine decide_eq_false fun h => hxy ?_
            rw [← HX.out, ← HY.out, h]
          subst hR
          go_wp2_with fail
          go_quiet (fail)
          go_wp2_with fail
          go_ret
          exact ⟨rfl, q + nq, by rw [HW.out, World.drewN_drewN]⟩
      · obtain rfl : n = j := by omega
        have hR : R = true := by
          rw [← HR.out]
          refine decide_eq_true ?_
          have h1 := HQ.out
          rwa [List.take_of_length_le (by rw [LA.out]; exact Nat.le_refl _), List.take_of_length_le (by rw [LB.out]; exact Nat.le_refl _)] at h1
        subst hR
        go_wp2_with fail
        go_ret
        exact ⟨rfl, q, HW.out⟩
  · have hR : decide (ss = tt) = false := decide_eq_false fun h => hnm (by rw [← la, ← lb, h])
    rw [hR]
    have i1 : ((n : Int) != (m : Int)) = true := by rw [bne_iff_ne]; omega
    clear la lb hR
    go_enter Try.func20, Try.ntmps20
    go_wp2_with fail
    go_ret
    exact ⟨rfl, 0, rfl⟩

theorem rise_snoc (l : List ByteArray) (a b : ByteArray) : riseB (l ++ [a, b]) = (riseB (l ++ [a]) && less a b) := by
  induction l with
  | nil => simp [riseB]
  | cons x l ih =>
    cases l with
    | nil => simp [riseB]
    | cons y l =>
      simp only [List.cons_append, riseB] at ih ⊢
      rw [ih, Bool.and_assoc]
theorem rise_prefix : ∀ (l m : List ByteArray), riseB (l ++ m) = true → riseB l = true
  | [], _, _ => rfl
  | [_], _, _ => rfl
  | x :: y :: l, m, h => by
    simp only [List.cons_append, riseB, Bool.and_eq_true] at h ⊢
    exact ⟨h.1, rise_prefix (y :: l) m h.2⟩

theorem take_two (l : List ByteArray) (k : Nat) (h : k + 1 < l.length) : l.take (k + 2) = l.take k ++ [l.getD k ByteArray.empty, l.getD (k + 1) ByteArray.empty] := by
  rw [take_get l (k + 1) h, take_get l k (by omega)]
  simp

set_option maxHeartbeats 4000000 in
set_option maxRecDepth 100000 in
theorem refRise_any (A : Option Addr) (n ca : Nat) (ss : List ByteArray) (w : World) (ha : RdS w A n ca ss) :
    Calls Try.prog 33 #[.slice A n ca] w fun e w' => e = .returned (.bool (riseB ss)) ∧ ∃ k, w' = w.drewN k := by
  have hn := RdC.le ha
  unfold maxLen at hn
  have la := ha.len
  generalize hR : riseB ss = R
  have HR := Go.Lib.hid hR
  have LA := Go.Lib.hid la
  clear hR la
  go_enter Try.func33, Try.ntmps33
  go_wp2_with fail
  go_loopw [3] (fun i wr => ∃ j : Nat, j + 1 ≤ max n 1 ∧ i = .int .i64 ((j + 1 : Nat) : Int) ∧ riseB (ss.take (j + 1)) = true ∧ ∃ q, wr = w.drewN q) (fun i _ => n - (intOf i).toNat)
  case atStart =>
    refine ⟨0, by omega, rfl, ?_, 0, rfl⟩
    cases ss with
    | nil => rfl
    | cons a l => simp [riseB]
  case round =>
    obtain ⟨j, hj, rfl, hq, q, hw⟩ := hrel
    have HQ := Go.Lib.hid hq
    clear hq
    have ha' : RdS wr A n ca ss := by rw [hw]; exact ha
    have HW := Go.Lib.hid hw
    clear hw
    by_cases hlt : j + 1 < n
    · obtain ⟨ba, oa, rfl, _, ka⟩ := ha'.at_ (by omega)
      have ka1 := ka j (by omega)
      have ka2 := ka (j + 1) hlt
      have i1 : (j : Int) + 1 < n := by omega
      have i2 : (j : Int) < n := by omega
      have e1 : ((j + 1 : Nat) : Int) = (j : Int) + 1 := by omega
      have ta := take_two ss j (by rw [LA.out]; exact hlt)
      have tb := take_get ss j (by rw [LA.out]; omega)
      have TA := Go.Lib.hid ta
      have TB := Go.Lib.hid tb
      clear ka ta tb ha'
      generalize hx : ss.getD j ByteArray.empty = x at *
      generalize hy : ss.getD (j + 1) ByteArray.empty = y at *
      clear hx hy
      have ts := rise_snoc (ss.take j) x y
      have TS := Go.Lib.hid ts
      clear ts
      by_cases hl : less x y = true
      · have hb : Op.bytesLess x.toList y.toList = true := hl
        go_wp2_with fail
        go_quiet (fail)
        go_wp2_with fail
        go_roundw
        case rel => exact ⟨j + 1, by omega, by go_num, by rw [TA.out, TS.out, ← TB.out, HQ.out, hl]; rfl, q + nq, by rw [HW.out, World.drewN_drewN]⟩
        case measure => simp [intOf]; omega
      · have hb : Op.bytesLess x.toList y.toList = false := by simpa [less] using hl
        have hR : R = false := by
          rw [← HR.out]
          cases h : riseB ss with
          | false => rfl
          | true =>
            exfalso
            rw [← List.take_append_drop (j + 2) ss] at h
            have h2 := rise_prefix _ _ h
            rw [TA.out, TS.out, Bool.and_eq_true] at h2
            exact hl h2.2
        subst hR
        go_wp2_with fail
        go_quiet (fail)
        go_wp2_with fail
        go_ret
        exact ⟨rfl, q + nq, by rw [HW.out, World.drewN_drewN]⟩
    · have hR : R = true := by
        rw [← HR.out]
        have h1 := HQ.out
        rwa [List.take_of_length_le (by rw [LA.out]; omega)] at h1
      subst hR
      have i1 : ¬ (j : Int) + 1 < n := by omega
      have e1 : ((j + 1 : Nat) : Int) = (j : Int) + 1 := by omega
      go_wp2_with fail
      go_ret
      exact ⟨rfl, q, HW.out⟩

end Go.Proofs.Ytfbooapgjhhjmaa.EvWalk
