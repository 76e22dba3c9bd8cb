/-
  Contracts of the library's IndexFunc, ContainsFunc over texts and over clauses, with a function value that holds what it captured.
-/
import Derived.Test.YtfbooapgjhhjmaaEvCat
import Derived.Test.YtfbooapgjhhjmaaQuRef
namespace Go.Proofs.Ytfbooapgjhhjmaa.QuWalk
open Go.RowKit Go.Proofs.Ytfbooapgjhhjmaa.MemRow Go.Proofs.Ytfbooapgjhhjmaa.Ev Go.Proofs.Ytfbooapgjhhjmaa.NameMath Go.Proofs.Ytfbooapgjhhjmaa.NameWalk Go.Proofs.Ytfbooapgjhhjmaa.EvWalk Go.Proofs.Ytfbooapgjhhjmaa.Qu

/-- A function number that the program has. -/
def Runs (g : Nat) : Prop := ∀ args w, (callFunc g args).run Try.prog w = .ok (.enter g args) w

/-- A predicate on texts that holds what it captured, handed to the library. -/
def PredSc (g : Nat) (caps : Array Value) (p : ByteArray → Bool) (ss : List ByteArray) (w : World) : Prop :=
  ∀ W, Below w.heap.size w W → ∀ x ∈ ss, Calls Try.prog g (#[.string x] ++ caps) W fun e W' => e = .returned (.bool (p x)) ∧ Below W.heap.size W W'
/-- A predicate on clauses that holds what it captured, handed to the library. -/
def PredCc (g : Nat) (caps : Array Value) (p : Cl → Bool) (q : List Cl) (w : World) : Prop :=
  ∀ W, Below w.heap.size w W → ∀ v, ∀ c ∈ q, IsCl W v c → Calls Try.prog g (#[v] ++ caps) W fun e W' => e = .returned (.bool (p c)) ∧ Below W.heap.size W W'

theorem anyC_miss {p : Cl → Bool} {l : List Cl} {j : Nat} (hj : j < l.length) (h : (l.take j).any p = false) (hp : p (l.getD j noCl) = false) : (l.take (j + 1)).any p = false := any_miss (d := noCl) hj h hp

set_option maxHeartbeats 4000000 in
set_option maxRecDepth 100000 in
theorem idxFuncSc_any (A : Option Addr) (n ca : Nat) (ss : List ByteArray) (g : Nat) (caps : Array Value) (p : ByteArray → Bool) (w : World) (ha : RdS w A n ca ss) (eg : Runs g) (hp : PredSc g caps p ss w) :
    Calls Try.prog 57 #[.slice A n ca, .func (.func g) #[] caps] w fun e w' => EvWalk.Found (ss.any p) e ∧ Below w.heap.size w w' := by
  unfold Runs at eg
  have hn := RdC.le ha
  unfold maxLen at hn
  have la := ha.len
  generalize hR : ss.any p = R
  have HR := Go.Lib.hid hR
  have LA := Go.Lib.hid la
  have HP := Go.Lib.hid hp
  clear hR la hp
  go_enter Try.func57, Try.ntmps57
  go_wp2_with fail
  go_loopw [5, 8] (fun _ i wr => ∃ j : Nat, j ≤ n ∧ i = .int .i64 j ∧ (ss.take j).any p = false ∧ Below w.heap.size w wr) (fun _ i _ => n - (intOf i).toNat)
  case atStart => exact ⟨0, Nat.zero_le _, rfl, rfl, Below.refl _ _⟩
  case round =>
    obtain ⟨j, hj, rfl, hq, hb⟩ := hrel
    have HQ := Go.Lib.hid hq
    clear hq
    have a1 := RdC.below ha hb
    by_cases hlt : j < n
    · obtain ⟨ba, oa, rfl, _, ka⟩ := RdS.at_ a1 (by omega)
      have ka1 := ka j hlt
      have i1 : (j : Int) < n := by omega
      have hjl : j < ss.length := by rw [LA.out]; exact hlt
      have HM := Go.Lib.hid (fun h => any_miss (p := p) (d := ByteArray.empty) hjl HQ.out h)
      have HH := Go.Lib.hid (fun h => any_hit (p := p) (d := ByteArray.empty) hjl h)
      have c := Go.Lib.hid (HP.out wr hb _ (mem_getD ss j hjl))
      clear ka hjl a1
      generalize hy : ss.getD j ByteArray.empty = y at *
      clear hy
      cases hpy : p y with
      | true =>
        have hR : R = true := by rw [← HR.out]; exact HH.out hpy
        subst hR
        rw [hpy] at c
        clear HM HH hpy
        go_wp2_with (refine (c.out).mono ?_; rintro e w1 ⟨rfl, b1⟩)
        go_ret
        exact ⟨⟨j, rfl, dec_ge0 j⟩, below_chain hb b1⟩
      | false =>
        rw [hpy] at c
        have HN := Go.Lib.hid (HM.out hpy)
        clear HM HH hpy
        go_wp2_with (refine (c.out).mono ?_; rintro e w1 ⟨rfl, b1⟩)
        go_roundw
        case rel => exact ⟨j + 1, by omega, by go_num, HN.out, below_chain hb b1⟩
        case measure => simp [intOf]; omega
    · obtain rfl : n = j := by omega
      have hR : R = false := by
        rw [← HR.out]
        have h1 := HQ.out
        rwa [List.take_of_length_le (by rw [LA.out]; exact Nat.le_refl _)] at h1
      subst hR
      go_wp2_with fail
      go_ret
      exact ⟨⟨-1, rfl, by decide⟩, hb⟩

set_option maxHeartbeats 2000000 in
set_option maxRecDepth 100000 in
theorem hasFuncSc_any (A : Option Addr) (n ca : Nat) (ss : List ByteArray) (g : Nat) (caps : Array Value) (p : ByteArray → Bool) (w : World) (ha : RdS w A n ca ss) (eg : Runs g) (hp : PredSc g caps p ss w) :
    Calls Try.prog 45 #[.slice A n ca, .func (.func g) #[] caps] w fun e w' => e = .returned (.bool (ss.any p)) ∧ Below w.heap.size w w' := by
  have c := Go.Lib.hid (idxFuncSc_any A n ca ss g caps p w ha eg hp)
  clear ha eg hp
  generalize ss.any p = R at c ⊢
  go_enter Try.func45, Try.ntmps45
  go_wp2_with (refine (c.out).mono ?_; rintro e w' ⟨⟨i, rfl, rfl⟩, b1⟩)
  go_ret
  exact ⟨rfl, b1⟩

set_option maxHeartbeats 4000000 in
set_option maxRecDepth 100000 in
theorem idxFuncC_any (A : Option Addr) (n ca : Nat) (q : List Cl) (g : Nat) (caps : Array Value) (p : Cl → Bool) (w : World) (ha : RdQ w A n ca q) (eg : Runs g) (hp : PredCc g caps p q w) :
    Calls Try.prog 43 #[.slice A n ca, .func (.func g) #[] caps] w fun e w' => EvWalk.Found (q.any p) e ∧ Below w.heap.size w w' := by
  unfold Runs at eg
  have hn := ha.le
  unfold maxLen at hn
  have la := ha.len
  generalize hR : q.any p = R
  have HR := Go.Lib.hid hR
  have LA := Go.Lib.hid la
  have HP := Go.Lib.hid hp
  clear hR la hp
  go_enter Try.func43, Try.ntmps43
  go_wp2_with fail
  go_loopw [5, 8] (fun _ i wr => ∃ j : Nat, j ≤ n ∧ i = .int .i64 j ∧ (q.take j).any p = false ∧ Below w.heap.size w wr) (fun _ i _ => n - (intOf i).toNat)
  case atStart => exact ⟨0, Nat.zero_le _, rfl, rfl, Below.refl _ _⟩
  case round =>
    obtain ⟨j, hj, rfl, hq, hb⟩ := hrel
    have HQ := Go.Lib.hid hq
    clear hq
    have a1 := ha.below hb
    by_cases hlt : j < n
    · obtain ⟨ba, oa, rfl, _, ka⟩ := a1.at_ (by omega)
      obtain ⟨T, nT, cT, Y, nY, cY, x0, x1, rT, rY⟩ := ka j hlt
      have i1 : (j : Int) < n := by omega
      have hjl : j < q.length := by rw [LA.out]; exact hlt
      have HM := Go.Lib.hid (fun h => anyC_miss (p := p) hjl HQ.out h)
      have HH := Go.Lib.hid (fun h => any_hit (p := p) (d := noCl) hjl h)
      have c := Go.Lib.hid (HP.out wr hb (.agg #[.slice T nT cT, .slice Y nY cY]) _ (cl_get hjl) ⟨T, nT, cT, Y, nY, cY, rfl, rT, rY⟩)
      clear ka hjl a1 rT rY
      generalize q.getD j noCl = y at *
      cases hpy : p y with
      | true =>
        have hR : R = true := by rw [← HR.out]; exact HH.out hpy
        subst hR
        rw [hpy] at c
        clear HM HH hpy
        go_wp2_with (refine (c.out).mono ?_; rintro e w1 ⟨rfl, b1⟩)
        go_ret
        exact ⟨⟨j, rfl, dec_ge0 j⟩, below_chain hb b1⟩
      | false =>
        rw [hpy] at c
        have HN := Go.Lib.hid (HM.out hpy)
        clear HM HH hpy
        go_wp2_with (refine (c.out).mono ?_; rintro e w1 ⟨rfl, b1⟩)
        go_roundw
        case rel => exact ⟨j + 1, by omega, by go_num, HN.out, below_chain hb b1⟩
        case measure => simp [intOf]; omega
    · obtain rfl : n = j := by omega
      have hR : R = false := by
        rw [← HR.out]
        have h1 := HQ.out
        rwa [List.take_of_length_le (by rw [LA.out]; exact Nat.le_refl _)] at h1
      subst hR
      go_wp2_with fail
      go_ret
      exact ⟨⟨-1, rfl, by decide⟩, hb⟩

set_option maxHeartbeats 2000000 in
set_option maxRecDepth 100000 in
theorem hasFuncC_any (A : Option Addr) (n ca : Nat) (q : List Cl) (g : Nat) (caps : Array Value) (p : Cl → Bool) (w : World) (ha : RdQ w A n ca q) (eg : Runs g) (hp : PredCc g caps p q w) :
    Calls Try.prog 24 #[.slice A n ca, .func (.func g) #[] caps] w fun e w' => e = .returned (.bool (q.any p)) ∧ Below w.heap.size w w' := by
  have c := Go.Lib.hid (idxFuncC_any A n ca q g caps p w ha eg hp)
  clear ha eg hp
  generalize q.any p = R at c ⊢
  go_enter Try.func24, Try.ntmps24
  go_wp2_with (refine (c.out).mono ?_; rintro e w' ⟨⟨i, rfl, rfl⟩, b1⟩)
  go_ret
  exact ⟨rfl, b1⟩

end Go.Proofs.Ytfbooapgjhhjmaa.QuWalk
