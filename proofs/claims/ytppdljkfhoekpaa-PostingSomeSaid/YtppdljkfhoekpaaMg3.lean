/-
  Contracts of the library's IndexFunc, ContainsFunc over texts and over clauses, with a function value that holds what it captured.
-/
import Derived.Deep.DeepCutAuto
import Derived.Test.YtppdljkfhoekpaaMg2
namespace Go.Proofs.Ytppdljkfhoekpaa.QuWalk
open Go.RowKit Go.Proofs.Ytppdljkfhoekpaa.MemRow Go.Proofs.Ytppdljkfhoekpaa.Ev Go.Proofs.Ytppdljkfhoekpaa.NameMath Go.Proofs.Ytppdljkfhoekpaa.NameWalk Go.Proofs.Ytppdljkfhoekpaa.EvWalk Go.Proofs.Ytppdljkfhoekpaa.Qu

/-- A function number that the program has. -/
def Runs (g : Nat) : Prop := ∀ args w, (callFunc g args).run Try.prog w = .ok (.enter g args) w

/-- A predicate on texts that holds what it captured, handed to the library. -/
def PredSc (g : Nat) (caps : Array Value) (p : ByteArray → Bool) (ss : List ByteArray) (w : World) : Prop :=
  ∀ W, Below w.heap.size w W → ∀ x ∈ ss, Calls Try.prog g (#[.string x] ++ caps) W fun e W' => e = .returned (.bool (p x)) ∧ Below W.heap.size W W'
/-- A predicate on clauses that holds what it captured, handed to the library. -/
def PredCc (g : Nat) (caps : Array Value) (p : Cl → Bool) (q : List Cl) (w : World) : Prop :=
  ∀ W, Below w.heap.size w W → ∀ v, ∀ c ∈ q, IsCl W v c → Calls Try.prog g (#[v] ++ caps) W fun e W' => e = .returned (.bool (p c)) ∧ Below W.heap.size W W'

theorem anyC_miss {p : Cl → Bool} {l : List Cl} {j : Nat} (hj : j < l.length) (h : (l.take j).any p = false) (hp : p (l.getD j noCl) = false) : (l.take (j + 1)).any p = false := any_miss (d := noCl) hj h hp

set_option maxHeartbeats 4000000 in
set_option maxRecDepth 100000 in
theorem idxFuncSc_any (A : Option Addr) (n ca : Nat) (ss : List ByteArray) (g : Nat) (caps : Array Value) (p : ByteArray → Bool) (w : World) (ha : RdS w A n ca ss) (eg : Runs g) (hp : PredSc g caps p ss w) :
    Calls Try.prog 58 #[.slice A n ca, .func (.func g) #[] caps] w fun e w' => EvWalk.Found (ss.any p) e ∧ Below w.heap.size w w' := by
  unfold Runs at eg
  have hn := RdC.le ha
  unfold maxLen at hn
  have la := ha.len
  generalize hR : ss.any p = R
  have HR := Go.Lib.hid hR
  have LA := Go.Lib.hid la
  have HP := Go.Lib.hid hp
  clear hR la hp
  go_enter Try.func58, Try.ntmps58
  go_wp2_with fail
  go_loopw [5, 8] (fun _ i wr => ∃ j : Nat, j ≤ n ∧ i = .int .i64 j ∧ (ss.take j).any p = false ∧ Below w.heap.size w wr) (fun _ i _ => n - (intOf i).toNat)
  case atStart => exact ⟨0, Nat.zero_le _, rfl, rfl, Below.refl _ _⟩
  case round =>
    obtain ⟨j, hj, rfl, hq, hb⟩ := hrel
    have HQ := Go.Lib.hid hq
    clear hq
    have a1 := RdC.below ha hb
    by_cases hlt : j < n
    · obtain ⟨ba, oa, rfl, _, ka⟩ := RdS.at_ a1 (by omega)
      have ka1 := ka j hlt
      have i1 : (j : Int) < n := by omega
      have hjl : j < ss.length := by rw [LA.out]; exact hlt
      have HM := Go.Lib.hid (fun h => any_miss (p := p) (d := ByteArray.empty) hjl HQ.out h)
      have HH := Go.Lib.hid (fun h => any_hit (p := p) (d := ByteArray.empty) hjl h)
      have c := Go.Lib.hid (HP.out wr hb _ (mem_getD ss j hjl))
      clear ka hjl a1
      generalize hy : ss.getD j ByteArray.empty = y at *
      clear hy
      cases hpy : p y with
      | true =>
        have hR : R = true := by rw [← HR.out]; exact HH.out hpy
        subst hR
        rw [hpy] at c
        clear HM HH hpy
        go_wp2_with (refine (c.out).mono ?_; rintro e w1 ⟨rfl, b1⟩)
        go_ret
        exact ⟨⟨j, rfl, dec_ge0 j⟩, below_chain hb b1⟩
      | false =>
        rw [hpy] at c
        have HN := Go.Lib.hid (HM.out hpy)
        clear HM HH hpy
        go_wp2_with (refine (c.out).mono ?_; rintro e w1 ⟨rfl, b1⟩)
        go_roundw
        case rel => exact ⟨j + 1, by omega, by go_num, HN.out, below_chain hb b1⟩
        case measure => simp [intOf]; omega
    · obtain rfl : n = j := by omega
      have hR : R = false := by
        rw [← HR.out]
        have h1 := HQ.out
        rwa [List.take_of_length_le (by rw [LA.out]; exact Nat.le_refl _)] at h1
      subst hR
      go_wp2_with fail
      go_ret
      exact ⟨⟨-1, rfl, by decide⟩, hb⟩

set_option maxHeartbeats 2000000 in
set_option maxRecDepth 100000 in
theorem hasFuncSc_any (A : Option Addr) (n ca : Nat) (ss : List ByteArray) (g : Nat) (caps : Array Value) (p : ByteArray → Bool) (w : World) (ha : RdS w A n ca ss) (eg : Runs g) (hp : PredSc g caps p ss w) :
    Calls Try.prog 52 #[.slice A n ca, .func (.func g) #[] caps] w fun e w' => e = .returned (.bool (ss.any p)) ∧ Below w.heap.size w w' := by
  have c := Go.Lib.hid (idxFuncSc_any A n ca ss g caps p w ha eg hp)
  clear ha eg hp
  generalize ss.any p = R at c ⊢
  go_enter Try.func52, Try.ntmps52
  go_wp2_with (refine (c.out).mono ?_; rintro e w' ⟨⟨i, rfl, rfl⟩, b1⟩)
  go_ret
  exact ⟨rfl, b1⟩

set_option maxHeartbeats 4000000 in
set_option maxRecDepth 100000 in
theorem idxFuncC_any (A : Option Addr) (n ca : Nat) (q : List Cl) (g : Nat) (caps : Array Value) (p : Cl → Bool) (w : World) (ha : RdQ w A n ca q) (eg : Runs g) (hp : PredCc g caps p q w) :
    Calls Try.prog 51 #[.slice A n ca, .func (.func g) #[] caps] w fun e w' => EvWalk.Found (q.any p) e ∧ Below w.heap.size w w' := by
  unfold Runs at eg
  have hn := ha.le
  unfold maxLen at hn
  have la := ha.len
  generalize hR : q.any p = R
  have HR := Go.Lib.hid hR
  have LA := Go.Lib.hid la
  have HP := Go.Lib.hid hp
  clear hR la hp
  go_enter Try.func51, Try.ntmps51
  go_wp2_with fail
  go_loopw [5, 8] (fun _ i wr => ∃ j : Nat, j ≤ n ∧ i = .int .i64 j ∧ (q.take j).any p = false ∧ Below w.heap.size w wr) (fun _ i _ => n - (intOf i).toNat)
  case atStart => exact ⟨0, Nat.zero_le _, rfl, rfl, Below.refl _ _⟩
  case round =>
    obtain ⟨j, hj, rfl, hq, hb⟩ := hrel
    have HQ := Go.Lib.hid hq
    clear hq
    have a1 := ha.below hb
    by_cases hlt : j < n
    · obtain ⟨ba, oa, rfl, _, ka⟩ := a1.at_ (by omega)
      obtain ⟨T, nT, cT, Y, nY, cY, x0, x1, rT, rY⟩ := ka j hlt
      have i1 : (j : Int) < n := by omega
      have hjl : j < q.length := by rw [LA.out]; exact hlt
      have HM := Go.Lib.hid (fun h => anyC_miss (p := p) hjl HQ.out h)
      have HH := Go.Lib.hid (fun h => any_hit (p := p) (d := noCl) hjl h)
      have c := Go.Lib.hid (HP.out wr hb (.agg #[.slice T nT cT, .slice Y nY cY]) _ (cl_get hjl) ⟨T, nT, cT, Y, nY, cY, rfl, rT, rY⟩)
      clear ka hjl a1 rT rY
      generalize q.getD j noCl = y at *
      cases hpy : p y with
      | true =>
        have hR : R = true := by rw [← HR.out]; exact HH.out hpy
        subst hR
        rw [hpy] at c
        clear HM HH hpy
        go_wp2_with (refine (c.out).mono ?_; rintro e w1 ⟨rfl, b1⟩)
        go_ret
        exact ⟨⟨j, rfl, dec_ge0 j⟩, below_chain hb b1⟩
      | false =>
        rw [hpy] at c
        have HN := Go.Lib.hid (HM.out hpy)
        clear HM HH hpy
        go_wp2_with (refine (c.out).mono ?_; rintro e w1 ⟨rfl, b1⟩)
        go_roundw
        case rel => exact ⟨j + 1, by omega, by go_num, HN.out, below_chain hb b1⟩
        case measure => simp [intOf]; omega
    · obtain rfl : n = j := by omega
      have hR : R = false := by
        rw [← HR.out]
        have h1 := HQ.out
        rwa [List.take_of_length_le (by rw [LA.out]; exact Nat.le_refl _)] at h1
      subst hR
      go_wp2_with fail
      go_ret
      exact ⟨⟨-1, rfl, by decide⟩, hb⟩

set_option maxHeartbeats 2000000 in
set_option maxRecDepth 100000 in
theorem hasFuncC_any (A : Option Addr) (n ca : Nat) (q : List Cl) (g : Nat) (caps : Array Value) (p : Cl → Bool) (w : World) (ha : RdQ w A n ca q) (eg : Runs g) (hp : PredCc g caps p q w) :
    Calls Try.prog 41 #[.slice A n ca, .func (.func g) #[] caps] w fun e w' => e = .returned (.bool (q.any p)) ∧ Below w.heap.size w w' := by
  have c := Go.Lib.hid (idxFuncC_any A n ca q g caps p w ha eg hp)
  clear ha eg hp
  generalize q.any p = R at c ⊢
  go_enter Try.func41, Try.ntmps41
  go_wp2_with (refine (c.out).mono ?_; rintro e w' ⟨⟨i, rfl, rfl⟩, b1⟩)
  go_ret
  exact ⟨rfl, b1⟩

end Go.Proofs.Ytppdljkfhoekpaa.QuWalk

/-
  Contracts of the library's slices.Equal, over texts and over numbers with a name.
-/
namespace Go.Proofs.Ytppdljkfhoekpaa.EvWalk
open Go.RowKit Go.Proofs.Ytppdljkfhoekpaa.MemRow Go.Proofs.Ytppdljkfhoekpaa.Ev Go.Proofs.Ytppdljkfhoekpaa.NameMath Go.Proofs.Ytppdljkfhoekpaa.NameWalk

end Go.Proofs.Ytppdljkfhoekpaa.EvWalk

/-
  Contracts of layer 4: Has, Value, Same.
-/
namespace Go.Proofs.Ytppdljkfhoekpaa.EvWalk
open Go.RowKit Go.Proofs.Ytppdljkfhoekpaa.MemRow Go.Proofs.Ytppdljkfhoekpaa.Ev Go.Proofs.Ytppdljkfhoekpaa.NameMath Go.Proofs.Ytppdljkfhoekpaa.NameWalk

set_option maxHeartbeats 2000000 in
set_option maxRecDepth 100000 in
theorem evHas_any (v : Value) (ev : Ev) (x : ByteArray) (w : World) (hv : IsEv w v ev) :
    Calls Try.prog 54 #[v, .string x] w fun e w' => e = .returned (.bool (hasB ev.tags x)) ∧ Below w.heap.size w w' := by
  obtain ⟨A, n, ca, B, m, cb, rfl, ha, _⟩ := hv
  have b0 : Below w.heap.size w (w.alloc (.cells #[.string ev.s, .string ev.t, .slice A n ca, .slice B m cb] 42)) := (Below.refl _ _).alloc (Nat.le_refl _) _
  have e0 := EvAt.new w (.string ev.s) (.string ev.t) (.slice A n ca) (.slice B m cb)
  have c := Go.Lib.hid (contains_any A n ca ev.tags x _ (RdC.below ha b0))
  have k2 := e0.c2
  clear ha e0
  generalize hasB ev.tags x = R at *
  go_enter Try.func54, Try.ntmps54
  go_wp2_with fail
  generalize w.alloc (.cells #[.string ev.s, .string ev.t, .slice A n ca, .slice B m cb] 42) = w1 at *
  refine (c.out).mono ?_
  rintro e w2 ⟨rfl, b1⟩
  go_wp2_with fail
  go_ret
  exact ⟨rfl, below_chain b0 b1⟩

end Go.Proofs.Ytppdljkfhoekpaa.EvWalk

/-
  Contracts of layer 6: query.Match and what it asks.
-/
namespace Go.Proofs.Ytppdljkfhoekpaa.QuWalk
open Go.RowKit Go.Proofs.Ytppdljkfhoekpaa.MemRow Go.Proofs.Ytppdljkfhoekpaa.Ev Go.Proofs.Ytppdljkfhoekpaa.NameMath Go.Proofs.Ytppdljkfhoekpaa.NameWalk Go.Proofs.Ytppdljkfhoekpaa.EvWalk Go.Proofs.Ytppdljkfhoekpaa.Qu

theorem any_nt' (l : List ByteArray) (p : ByteArray → Bool) : (l.any fun x => !p x) = !l.all p := by
  induction l with
  | nil => rfl
  | cons a l ih => rw [List.any_cons, List.all_cons, ih, Bool.not_and]

/-- A box that holds an event. -/
def EvBox (w : World) (g : Nat) (u : Value) (ev : Ev) : Prop := ∃ A n ca B m cb, u = .agg #[.string ev.s, .string ev.t, .slice A n ca, .slice B m cb] ∧ EvAt w g (.string ev.s) (.string ev.t) (.slice A n ca) (.slice B m cb) ∧ IsEv w u ev
theorem EvBox.below {w w' : World} {g : Nat} {u : Value} {ev : Ev} (h : EvBox w g u ev) (hb : Below w.heap.size w w') : EvBox w' g u ev := by
  obtain ⟨A, n, ca, B, m, cb, rfl, he, hi⟩ := h
  exact ⟨A, n, ca, B, m, cb, rfl, he.below hb he.lt, hi.below hb⟩

set_option maxHeartbeats 4000000 in
set_option maxRecDepth 100000 in
theorem hasTags1_any (g : Nat) (u : Value) (ev : Ev) (x : ByteArray) (w : World) (hb : EvBox w g u ev) :
    Calls Try.prog 53 #[.string x, .pointer (some ⟨g, 0, none⟩)] w fun e w' => e = .returned (.bool (!hasB ev.tags x)) ∧ Below w.heap.size w w' := by
  obtain ⟨A, n, ca, B, m, cb, rfl, he, hi⟩ := hb
  have c := Go.Lib.hid (evHas_any _ ev x w hi)
  have k0 := he.c0
  have k1 := he.c1
  have k2 := he.c2
  have k3 := he.c3
  clear he hi
  generalize hasB ev.tags x = R at *
  go_enter Try.func53, Try.ntmps53
  go_wp2_with (refine (c.out).mono ?_; rintro e w2 ⟨rfl, b2⟩)
  go_ret
  exact ⟨rfl, b2⟩

set_option maxHeartbeats 4000000 in
set_option maxRecDepth 100000 in
theorem hasTags_any (u : Value) (ev : Ev) (T : Option Addr) (nT cT : Nat) (ts : List ByteArray) (w : World) (hu : IsEv w u ev) (rT : RdS w T nT cT ts) :
    Calls Try.prog 43 #[u, .slice T nT cT] w fun e w' => e = .returned (.bool (ts.all fun x => hasB ev.tags x)) ∧ Below w.heap.size w w' := by
  obtain ⟨A, n, ca, B, m, cb, rfl, ra, rb⟩ := hu
  have al : Below w.heap.size w (w.alloc (.cells #[.string ev.s, .string ev.t, .slice A n ca, .slice B m cb] 42)) := (Below.refl _ _).alloc (Nat.le_refl _) _
  have e0 := EvAt.new w (.string ev.s) (.string ev.t) (.slice A n ca) (.slice B m cb)
  have bx : EvBox _ w.heap.size _ ev := ⟨A, n, ca, B, m, cb, rfl, e0, ⟨A, n, ca, B, m, cb, rfl, RdC.below ra al, RdC.below rb al⟩⟩
  have c0 := hasFuncSc_any T nT cT ts 53 #[.pointer (some ⟨w.heap.size, 0, none⟩)] (fun x => !hasB ev.tags x) _ (RdC.below rT al) (enters_of Try.func53 (by kernel_rfl) rfl) (fun W b x _ => hasTags1_any w.heap.size _ ev x W (bx.below b))
  have h := Bool.not_not (ts.all fun x => hasB ev.tags x)
  rw [any_nt'] at c0
  rw [← h]
  clear h bx e0 rT ra rb
  generalize (!ts.all fun x => hasB ev.tags x) = R at *
  have c := Go.Lib.hid c0
  clear c0
  go_enter Try.func43, Try.ntmps43
  go_upto_region 1 with (fail)
  generalize w.alloc (.cells #[.string ev.s, .string ev.t, .slice A n ca, .slice B m cb] 42) = w1 at *
  go_wp2_with (refine (c.out).mono ?_; rintro e w2 ⟨rfl, b2⟩)
  go_ret
  exact ⟨rfl, below_chain al b2⟩

set_option maxHeartbeats 4000000 in
set_option maxRecDepth 100000 in
theorem isOneOf_any (u : Value) (ev : Ev) (T : Option Addr) (nT cT : Nat) (ts : List ByteArray) (w : World) (hu : IsEv w u ev) (rT : RdS w T nT cT ts) :
    Calls Try.prog 44 #[u, .slice T nT cT] w fun e w' => e = .returned (.bool (decide (ts = []) || hasB ts ev.t)) ∧ Below w.heap.size w w' := by
  obtain ⟨A, n, ca, B, m, cb, rfl, ra, rb⟩ := hu
  have hn := RdC.le rT
  unfold maxLen at hn
  have LT := Go.Lib.hid rT.len
  have al : Below w.heap.size w (w.alloc (.cells #[.string ev.s, .string ev.t, .slice A n ca, .slice B m cb] 42)) := (Below.refl _ _).alloc (Nat.le_refl _) _
  have e0 := EvAt.new w (.string ev.s) (.string ev.t) (.slice A n ca) (.slice B m cb)
  have k1 := e0.c1
  have c := Go.Lib.hid (contains_any T nT cT ts ev.t _ (RdC.below rT al))
  clear rT ra rb e0
  generalize hR : (decide (ts = []) || hasB ts ev.t) = R
  have HR := Go.Lib.hid hR
  clear hR
  go_enter Try.func44, Try.ntmps44
  go_upto_region 1 with (fail)
  generalize w.alloc (.cells #[.string ev.s, .string ev.t, .slice A n ca, .slice B m cb] 42) = w1 at *
  by_cases h0 : nT = 0
  · subst h0
    have hR : R = true := by
      have h1 : ts = [] := List.eq_nil_of_length_eq_zero LT.out
      rw [← HR.out, decide_eq_true h1]
      rfl
    subst hR
    go_wp2_with fail
    go_ret
    exact ⟨rfl, al⟩
  · have h1 : ((nT : Int) == 0) = false := by rw [beq_eq_false_iff_ne]; omega
    have hR : hasB ts ev.t = R := by
      have h1 : ¬ ts = [] := fun h => h0 (by rw [← LT.out, h]; rfl)
      rw [← HR.out, decide_eq_false h1]
      rfl
    have d := c.out
    rw [hR] at d
    have D := Go.Lib.hid d
    clear d c hR
    go_wp2_with (refine (D.out).mono ?_; rintro e w2 ⟨rfl, b2⟩)
    go_ret
    exact ⟨rfl, below_chain al b2⟩

set_option maxHeartbeats 4000000 in
set_option maxRecDepth 100000 in
theorem match1_any (g : Nat) (u : Value) (ev : Ev) (v : Value) (c : Cl) (w : World) (hv : IsCl w v c) (hb : EvBox w g u ev) :
    Calls Try.prog 42 #[v, .pointer (some ⟨g, 0, none⟩)] w fun e w' => e = .returned (.bool (clauseB c ev)) ∧ Below w.heap.size w w' := by
  obtain ⟨T, nT, cT, Y, nY, cY, rfl, rT, rY⟩ := hv
  have al : Below w.heap.size w (w.alloc (.cells #[.slice T nT cT, .slice Y nY cY] 54)) := (Below.refl _ _).alloc (Nat.le_refl _) _
  have k := ClAt.new w (.slice T nT cT) (.slice Y nY cY)
  have rT1 := RdC.below rT al
  have rY1 := RdC.below rY al
  obtain ⟨A, n, ca, B, m, cb, rfl, he0, hi0⟩ := hb
  have he := he0.below al he0.lt
  have hi := hi0.below al
  clear rT rY he0 hi0
  generalize hR : clauseB c ev = R
  have HR := Go.Lib.hid hR
  clear hR
  go_enter Try.func42, Try.ntmps42
  go_upto_region 1 with (fail)
  generalize w.alloc (.cells #[.slice T nT cT, .slice Y nY cY] 54) = w1 at *
  have k0 := k.c0
  have k1 := k.c1
  have j0 := he.c0
  have j1 := he.c1
  have j2 := he.c2
  have j3 := he.c3
  have c1 := hasTags_any _ ev T nT cT c.tags w1 hi rT1
  generalize h1 : (c.tags.all fun x => hasB ev.tags x) = R1 at *
  have H1 := Go.Lib.hid h1
  have C1 := Go.Lib.hid c1
  clear h1 c1
  cases R1 with
  | false =>
    have hR : R = false := by
      rw [← HR.out]
      unfold clauseB
      rw [H1.out]
      rfl
    subst hR
    clear rT1 rY1 hi k
    go_wp2_with (refine (C1.out).mono ?_; rintro e w2 ⟨rfl, b2⟩)
    go_ret
    exact ⟨rfl, below_chain al b2⟩
  | true =>
    have hR : (decide (c.types = []) || hasB c.types ev.t) = R := by
      rw [← HR.out]
      unfold clauseB
      rw [H1.out, Bool.true_and]
    have HR2 := Go.Lib.hid hR
    clear hR
    go_wp2_with (refine (C1.out).mono ?_; rintro e w2 ⟨rfl, b2⟩; have l1 := bcell b2 k1; have i0 := bcell b2 j0; have i1 := bcell b2 j1; have i2 := bcell b2 j2; have i3 := bcell b2 j3; have B2 := below_chain al b2; have c2 := isOneOf_any _ ev Y nY cY c.types w2 (hi.below b2) (RdC.below rY1 b2); rw [HR2.out] at c2; have C2 := Go.Lib.hid c2; clear c2 rT1 rY1 hi k k0 k1 j0 j1 j2 j3 b2 he)
    go_wp2_with (refine (C2.out).mono ?_; rintro e w3 ⟨rfl, b3⟩)
    go_ret
    exact ⟨rfl, below_chain B2 b3⟩

set_option maxHeartbeats 4000000 in
set_option maxRecDepth 100000 in
theorem matchQ_any (v u : Value) (q : List Cl) (ev : Ev) (w : World) (hv : IsQ w v q) (hu : IsEv w u ev) :
    Calls Try.prog 28 #[v, u] w fun e w' => e = .returned (.bool (matchQ q ev)) ∧ Below w.heap.size w w' := by
  obtain ⟨C, n, cap, rfl, rC⟩ := hv
  have hu0 := hu
  obtain ⟨A, nA, cA, B, nB, cB, rfl, _, _⟩ := hu
  have s1 := QeAt.new w (.slice C n cap) (.string ev.s) (.string ev.t) (.slice A nA cA) (.slice B nB cB)
  have bx : EvBox _ (w.heap.size + 1) _ ev := ⟨A, nA, cA, B, nB, cB, rfl, s1.ee, hu0.below s1.bel⟩
  have c0 := hasFuncC_any C n cap q 42 #[.pointer (some ⟨w.heap.size + 1, 0, none⟩)] (fun c => clauseB c ev) _ (rC.below s1.bel) (enters_of Try.func42 (by kernel_rfl) rfl) (fun W b v c _ hi => match1_any (w.heap.size + 1) _ ev v c W hi (bx.below b))
  have k0 := s1.eq.c0
  have B1 := s1.bel
  unfold matchQ
  generalize (q.any fun c => clauseB c ev) = R at *
  have c := Go.Lib.hid c0
  clear c0 bx hu0 rC s1
  go_enter Try.func28, Try.ntmps28
  go_upto_region 1 with (fail)
  generalize (w.alloc (.cells #[.slice C n cap] 30)).alloc (.cells #[.string ev.s, .string ev.t, .slice A nA cA, .slice B nB cB] 42) = w1 at *
  go_wp2_with (refine (c.out).mono ?_; rintro e w2 ⟨rfl, b2⟩)
  go_ret
  exact ⟨rfl, below_chain B1 b2⟩

end Go.Proofs.Ytppdljkfhoekpaa.QuWalk

/-
  Walk of a statement of layer 13: PostingMatch.
-/
namespace Go.Proofs.Ytppdljkfhoekpaa.PoWalk
open Go.Proofs.Ytppdljkfhoekpaa.HeldAt Go.RowKit Go.Proofs.Ytppdljkfhoekpaa.MemRow Go.Proofs.Ytppdljkfhoekpaa.Ev Go.Proofs.Ytppdljkfhoekpaa.NameMath Go.Proofs.Ytppdljkfhoekpaa.NameWalk Go.Proofs.Ytppdljkfhoekpaa.EvWalk Go.Proofs.Ytppdljkfhoekpaa.NumMem Go.Proofs.Ytppdljkfhoekpaa.SmWalk Go.Proofs.Ytppdljkfhoekpaa.Qu Go.Proofs.Ytppdljkfhoekpaa.QuWalk Go.Proofs.Ytppdljkfhoekpaa.DkWalk

section
variable {Pt : Nat → Ls → Thing}
/-- What a round holds: the lists; the query and its box; the row that grows. -/
abbrev MtQ (W0 : World) (gq : Nat) (A : Option Addr) (n c : Nat) (q : List Cl) (lo : Nat) (B : Option Addr) (m d : Nat) (l : List Int) : Thing := With (With (With NoT (OqT W0 A n c q)) (BxT gq #[.slice A n c] 30)) (IwT lo B m d l)
theorem mtQ_keeps (W0 : World) (gq : Nat) (A : Option Addr) (n c : Nat) (q : List Cl) (lo : Nat) (B : Option Addr) (m d : Nat) (l : List Int) : Keeps (MtQ W0 gq A n c q lo B m d l) := with_keeps (with_keeps (with_keeps noT_keeps (oqT_keeps _ _ _ _ _)) (bxT_keeps _ _ _)) (iwT_keeps _ _ _ _ _)
set_option maxHeartbeats 8000000 in
set_option maxRecDepth 100000 in
theorem pmatch_walk (two : TwoApi) (api : LsApi Pt) (A : Option Addr) (n cap : Nat) (es : List Ev) (vq : Value) (q0 : List Cl) (z : Int) (w0 : World) (h0 : RdE w0 A n cap es) (hev : ∀ e ∈ es, EvOk e) (hq : IsQ w0 vq q0) (hqo : QOk q0) (hz : -9223372036854775808 ≤ z ∧ z ≤ 9223372036854775807) :
    Calls Try.prog 5 #[.slice A n cap, vq, .int .i64 z] w0 fun e w' => e = .returned (.bool true) ∧ Below w0.heap.size w0 w' := by
  have hn := h0.le
  unfold maxLen at hn
  have HN := Go.Lib.hid h0.len
  have HE := Go.Lib.hid hev
  have HQ := Go.Lib.hid hq
  obtain ⟨Aq, nq, cq, rfl, _⟩ := hq
  have kP := api.keeps
  clear hev
  go_enter Try.func5, Try.ntmps5
  have bx := (Below.refl w0.heap.size w0).alloc (Nat.le_refl _) (.cells #[.slice Aq nq cq] 30)
  have tx : BxT w0.heap.size #[.slice Aq nq cq] 30 (w0.alloc (.cells #[.slice Aq nq cq] 30)) (fun k => k = w0.heap.size) := ⟨heap_alloc_new w0 _, rfl, fun k hk => by simp only [World.alloc, Array.size_push]; omega⟩
  go_upto_region 1 with (fail)
  generalize hw1 : w0.alloc (.cells #[.slice Aq nq cq] 30) = w1 at *
  clear hw1
  have tq := with_no tx (bxT_keeps _ _ _)
  go_wp2_with fail
  refine (shown13_any two w1).mono ?_
  rintro e w2 ⟨rfl, b2⟩
  have tq2 := (with_keeps noT_keeps (bxT_keeps _ _ _)).keep tq b2.size fun k hk => b2.block k ((with_keeps noT_keeps (bxT_keeps _ _ _)).lt tq k hk)
  have B2 := below_chain bx b2
  clear tx tq b2 bx
  go_wp2_with fail
  refine (api.new (base := w0.heap.size) tq2 (with_keeps noT_keeps (bxT_keeps _ _ _)) (fun k hk => by omega) B2.size).mono ?_
  rintro e w3 ⟨g, rfl, p3, b3⟩
  have B3 := below_chain B2 b3
  clear tq2 B2 b3
  have hh3 := pair_bx p3
  have k3 : w3.cell? ⟨w0.heap.size, 0, none⟩ = some (.slice Aq nq cq) := by rw [cell_of_row w3 _ 0 _ _ _ hh3]; rfl
  go_wp2_with fail
  refine (less13_any (.agg #[.slice Aq nq cq]) q0 w0 w3 HQ.out B3).mono ?_
  rintro e w4 ⟨A4, n4, c4, rfl, o4, b4⟩
  have p4 := pair_place (pair_more p3 (kP _ _) (with_keeps noT_keeps (bxT_keeps _ _ _)) B3.size b4 (oqT_of o4 (by omega)))
  have B4 := below_chain B3 b4
  have hh4 := pair_bx p4
  have k4 := bcell b4 k3
  have f4 : w4.frozen? ⟨w0.heap.size, 0, none⟩ = false := by simp [World.frozen?, hh4]
  obtain ⟨p5, b5⟩ := lg_put (v := .slice A4 n4 c4) (i := 0) (cs' := #[.slice A4 n4 c4]) (kP _ _) (with_keeps noT_keeps (oqT_keeps _ _ _ _ _)) p4 (by simp only [World.setCell, Array.getElem?_modify, hh4]; rfl)
  have B5 := B4.trans b5
  have hqk : QOk (fewQ q0) := fewQ_ok hqo
  have hql := fewQ_len q0
  have hqt := fewQ_terms q0
  have HQK := Go.Lib.hid hqk
  have HQL := Go.Lib.hid hql
  have HQT := Go.Lib.hid hqt
  clear p3 hh3 k3 b4 o4 p4 hh4 b5 B3 B4 hqk hql hqt
  generalize fewQ q0 = q at *
  go_upto_region 6 with (fail)
  generalize w4.setCell ⟨w0.heap.size, 0, none⟩ (.slice A4 n4 c4) = w5 at *
  clear k4 f4
  have al := (Below.refl w5.heap.size w5).alloc (Nat.le_refl _) (.cells #[] 3)
  have p6 : Pair w0.heap.size (w5.alloc (.cells #[] 3)) (Pt g []) (MtQ w0 w0.heap.size A4 n4 c4 q w5.heap.size (some ⟨w5.heap.size, 0, none⟩) 0 0 []) := pair_more p5 (kP _ _) (with_keeps (with_keeps noT_keeps (oqT_keeps _ _ _ _ _)) (bxT_keeps _ _ _)) B5.size al ⟨OwnC.empty w5 3 (Nat.le_refl _), fun a ha => (by injection ha with ha; rw [← ha]; exact ⟨Nat.le_refl _, by simp only [World.alloc, Array.size_push]; omega⟩), fun k hk => hk.2⟩
  have B6 := below_chain B5 al
  have s6 := al.size
  clear p5 B5 al
  go_wp2_with fail
  generalize w5.alloc (.cells #[] 3) = w6 at *
  generalize w5.heap.size = lo at *
  go_loopw [9, 10] (fun wv iv wr => ∃ (B : Option Addr) (m d j : Nat), wv = .slice B m d ∧ iv = .int .i64 (j : Int) ∧ j ≤ n ∧ j ≤ 60 ∧ lo ≤ wr.heap.size ∧ Pair w0.heap.size wr (Pt g (lsM (es.take j))) (MtQ w0 w0.heap.size A4 n4 c4 q lo B m d (findP (lsM (es.take j)) q z)) ∧ Below w0.heap.size w0 wr) (fun _ iv _ => n - (intOf iv).toNat)
  case atStart => exact ⟨_, _, _, 0, rfl, rfl, Nat.zero_le _, by omega, s6, p6, B6⟩
  case round =>
    obtain ⟨B, m, d, j, rfl, rfl, hjn, hj60, hlo, pj, Bj⟩ := hrel
    clear p6 B6 s6
    have kM := fun B m d l => mtQ_keeps w0 w0.heap.size A4 n4 c4 q lo B m d l
    go_upto_region 8 with (fail)
    go_cut [29] (fun v wx => v = .bool (decide (j < n ∧ j < 60)) ∧ wr = wx)
    case first =>
      by_cases h1 : j < n
      · have i1 : (j : Int) < n := by omega
        by_cases h2 : j < 60
        · have i2 : (j : Int) < 60 := by omega
          go_wp2_with fail
          go_meet
          exact ⟨by simp [h1, h2], rfl⟩
        · have i2 : ¬ (j : Int) < 60 := by omega
          go_wp2_with fail
          go_meet
          exact ⟨by simp [h1, h2], rfl⟩
      · have i1 : ¬ (j : Int) < n := by omega
        go_wp2_with fail
        go_meet
        exact ⟨by simp [h1], rfl⟩
    obtain ⟨rfl, rfl⟩ := hcut
    have hlj : (es.take j).length = j := by rw [List.length_take, HN.out]; omega
    have hok := lsM_ok (es.take j) (by rw [hlj]; omega)
    have hln : (lsM (es.take j)).length = j := by rw [lsM_len, hlj]
    clear hlj
    by_cases hc : j < n ∧ j < 60
    · rw [show decide (j < n ∧ j < 60) = true by simpa using hc]
      obtain ⟨h1, h2⟩ := hc
      have i1 : (j : Int) < n := by omega
      obtain ⟨be, oe, rfl, _, ke⟩ := h0.at_ (by omega)
      obtain ⟨T, nT, cT, F, nF, cF, x0, x1, x2, x3, rT, rF⟩ := ke j h1
      have hnx := lsM_next (es := es) (j := j) (by rw [HN.out]; exact h1)
      have hevk := fewT_ok (ev_ok HE.out (j := j) (by rw [HN.out]; exact h1))
      have hevl := fewT_len (es.getD j noEv)
      have hfs : findP (lsM (es.take (j + 1))) q z = findP (lsM (es.take j)) q z ++ (if matchQ q (fewT (es.getD j noEv)) = true ∧ 3 * (j : Int) + 1 ≤ z then [3 * (j : Int) + 1] else []) := by
        have hlj : (es.take j).length = j := by rw [List.length_take, HN.out]; omega
        rw [ev_take es j (by rw [HN.out]; exact h1), lsM_snoc, hlj]
        exact find_snoc _ _ _ _ _
      have HX := Go.Lib.hid hnx
      have HF := Go.Lib.hid hfs
      have HML := Go.Lib.hid (show (findP (lsM (es.take j)) q z).length ≤ 60 from Nat.le_trans (find_len _ _ _) (by rw [hln]; exact hj60))
      clear ke hnx hfs
      generalize es.getD j noEv = ev at *
      have iv : IsEv w0 (.agg #[.string ev.s, .string ev.t, .slice T nT cT, .slice F nF cF]) ev := ⟨T, nT, cT, F, nF, cF, rfl, rT, rF⟩
      have HFEW := Go.Lib.hid (fun w' => few13_any _ ev w0 w' iv)
      have y0 := bcell Bj x0
      have y1 := bcell Bj x1
      have y2 := bcell Bj x2
      have y3 := bcell Bj x3
      have n1 : IntKind.i64.wrap (3 * (j : Int)) = 3 * (j : Int) := IntWalk.i64_in _ (by omega)
      have n2 : IntKind.i64.wrap (3 * (j : Int) + 1) = 3 * (j : Int) + 1 := IntWalk.i64_in _ (by omega)
      go_wp2_with fail
      refine (few13_any _ ev w0 wr iv).mono ?_
      rintro e w7 ⟨u7, rfl, v7, b7⟩
      have p7 := pj.below (kP _ _) (kM _ _ _ _) b7
      have B7 := below_chain Bj b7
      have l7 : lo ≤ w7.heap.size := Nat.le_trans hlo b7.size
      clear pj Bj b7 hlo y0 y1 y2 y3
      generalize fewT ev = fe at *
      go_wp2_with fail
      refine (api.add (p := 3 * (j : Int) + 1) p7 (kM _ _ _ _) B7.size hok (by rw [hln]; omega) (fun _ _ _ hb => v7.below (B7.trans hb)) hevk (by omega) (by omega)).mono ?_
      rintro e w8 ⟨rfl, p8, b8⟩
      rw [HX.out] at p8 ⊢
      have B8 := B7.trans b8
      have l8 : lo ≤ w8.heap.size := Nat.le_trans l7 b8.size
      clear p7 B7 b8 l7 v7 hok hln
      have hq8 := pair_oq (pair_first (pair_first p8)) B8
      have hh8 := pair_bx (pair_first p8)
      have kq : w8.cell? ⟨w0.heap.size, 0, none⟩ = some (.slice A4 n4 c4) := by rw [cell_of_row w8 _ 0 _ _ _ hh8]; rfl
      clear hh8
      go_upto_region 12 with (fail)
      go_cut [56] (fun v wx => v = .bool (decide (matchQ q fe = true ∧ 3 * (j : Int) + 1 ≤ z)) ∧ Below w8.heap.size w8 wx)
      case first =>
        have y0 := bcell B8 x0
        have y1 := bcell B8 x1
        have y2 := bcell B8 x2
        have y3 := bcell B8 x3
        by_cases hm : matchQ q fe = true
        · have hdec : decide (matchQ q fe = true ∧ 3 * (j : Int) + 1 ≤ z) = decide (3 * (j : Int) + 1 ≤ z) := by simp [hm]
          have HD := Go.Lib.hid hdec
          clear hdec
          refine wp_region_held_drew (S := (fun w' => (w'.cell? ⟨w0.heap.size, 0, none⟩ = some (.slice A4 n4 c4) ∧ w'.cell? ⟨be, oe + j * 4, none⟩ = some (.string ev.s)) ∧ (w'.cell? ⟨be, oe + j * 4 + 1, none⟩ = some (.string ev.t) ∧ w'.cell? ⟨be, oe + j * 4 + 2, none⟩ = some (.slice T nT cT)) ∧ w'.cell? ⟨be, oe + j * 4 + 3, none⟩ = some (.slice F nF cF))) (by kernel_rfl) ?_ (fun hHeld => ?_)
          · exact ⟨⟨kq, y0⟩, ⟨y1, y2⟩, y3⟩
          refine take_at (i := 0) (d := 43) (v := ?_) rfl rfl (by kernel_rfl) (by kernel_rfl) (by kernel_rfl) (fun _ _ _ h => h) (Or.inl ⟨by rfl, ?hy⟩) (by assumption) ?_
          case hy => (intro wS hSw; (try dsimp only at hSw); first | (go_simp; done) | (go_simp; with_reducible rfl))
          simp only [Act.put, List.setIfInBounds_toArray, List.set_cons_zero, List.set_cons_succ]
          refine take_at (i := 1) (d := 44) (v := ?_) rfl rfl (by kernel_rfl) (by kernel_rfl) (by kernel_rfl) (fun _ _ _ h => h) (Or.inl ⟨by rfl, ?hy⟩) (by assumption) ?_
          case hy => (intro wS hSw; (try dsimp only at hSw); first | (go_simp; done) | (go_simp; with_reducible rfl))
          simp only [Act.put, List.setIfInBounds_toArray, List.set_cons_zero, List.set_cons_succ]
          refine take_at (i := 2) (d := 45) (v := ?_) rfl rfl (by kernel_rfl) (by kernel_rfl) (by kernel_rfl) (fun _ _ _ h => h) (Or.inl ⟨by rfl, ?hy⟩) (by assumption) ?_
          case hy => (intro wS hSw; (try dsimp only at hSw); first | (go_simp; done) | (go_simp; with_reducible rfl))
          simp only [Act.put, List.setIfInBounds_toArray, List.set_cons_zero, List.set_cons_succ]
          refine take_at (i := 3) (d := 46) (v := ?_) rfl rfl (by kernel_rfl) (by kernel_rfl) (by kernel_rfl) (fun _ _ _ h => h) (Or.inl ⟨by rfl, ?hy⟩) (by assumption) ?_
          case hy => (intro wS hSw; (try dsimp only at hSw); first | (go_simp; done) | (go_simp; with_reducible rfl))
          simp only [Act.put, List.setIfInBounds_toArray, List.set_cons_zero, List.set_cons_succ]
          refine take_at (i := 4) (d := 47) (v := ?_) rfl rfl (by kernel_rfl) (by kernel_rfl) (by kernel_rfl) (fun _ _ _ h => h) (Or.inl ⟨by rfl, ?hy⟩) (by assumption) ?_
          case hy => (intro wS hSw; (try dsimp only at hSw); first | (go_simp; done) | (go_simp; with_reducible rfl))
          simp only [Act.put, List.setIfInBounds_toArray, List.set_cons_zero, List.set_cons_succ]
          refine wpAnyH_ready (rs := [5]) (by kernel_rfl) (by simp) ?_
          refine AllReadyH.cons rfl (fun K5 hK5 => ?_) AllReadyH.nil
          go_simp
          go_wp2_with (go_at_call 19; refine (HFEW.out w8.drew).mono ?_; rintro e w9 ⟨u9, rfl, v9, b9'⟩; have b9 : Below w8.heap.size w8 w9 := ⟨b9'.os, b9'.tape, b9'.output, b9'.size, b9'.block⟩)
          refine hK5.out _ _ ?_ (fun hH5 => ?_)
          · exact ⟨⟨bcell b9 kq, bcell b9 y0⟩, ⟨bcell b9 y1, bcell b9 y2⟩, bcell b9 y3⟩
          clear hK5 K5 hHeld
          refine wpAnyH_ready (rs := [6]) (by kernel_rfl) (by simp) ?_
          refine AllReadyH.cons rfl (fun K6 hK6 => ?_) AllReadyH.nil
          go_simp
          go_wp2_with (go_at_call 28; refine (matchQ_any (.agg #[.slice A4 n4 c4]) u9 q fe w9 ⟨A4, n4, c4, rfl, hq8.below b9⟩ (v9.below (below_chain B8 b9))).mono ?_; rintro e w10 ⟨rfl, b10'⟩; rw [hm]; have b10 := below_chain b9 b10')
          refine hK6.out _ _ ?_ (fun hH6 => ?_)
          · exact ⟨⟨bcell b10 kq, bcell b10 y0⟩, ⟨bcell b10 y1, bcell b10 y2⟩, bcell b10 y3⟩
          clear hK6 K6 hH5
          refine take_at (i := 7) (d := 50) (v := ?_) rfl rfl (by kernel_rfl) (by kernel_rfl) (by kernel_rfl) (fun _ _ _ h => h) (Or.inl ⟨by rfl, ?hy⟩) (by assumption) ?_
          case hy => (intro wS hSw; (try dsimp only at hSw); first | (go_simp; done) | (go_simp; with_reducible rfl))
          simp only [Act.put, List.setIfInBounds_toArray, List.set_cons_zero, List.set_cons_succ]
          refine take_at (i := 8) (d := 51) (v := ?_) rfl rfl (by kernel_rfl) (by kernel_rfl) (by kernel_rfl) (fun _ _ _ h => h) (Or.inl ⟨by rfl, ?hy⟩) (by assumption) ?_
          case hy => (intro wS hSw; (try dsimp only at hSw); first | (go_simp; done) | (go_simp; with_reducible rfl))
          simp only [Act.put, List.setIfInBounds_toArray, List.set_cons_zero, List.set_cons_succ]
          refine take_at (i := 9) (d := 52) (v := ?_) rfl rfl (by kernel_rfl) (by kernel_rfl) (by kernel_rfl) (fun _ _ _ h => h) (Or.inl ⟨by rfl, ?hy⟩) (by assumption) ?_
          case hy => (intro wS hSw; (try dsimp only at hSw); first | (go_simp; done) | (go_simp; with_reducible rfl))
          simp only [Act.put, List.setIfInBounds_toArray, List.set_cons_zero, List.set_cons_succ]
          refine take_at (i := 10) (d := 53) (v := ?_) rfl rfl (by kernel_rfl) (by kernel_rfl) (by kernel_rfl) (fun _ _ _ h => h) (Or.inl ⟨by rfl, ?hy⟩) (by assumption) ?_
          case hy => (intro wS hSw; (try dsimp only at hSw); first | (go_simp; done) | (go_simp; with_reducible rfl))
          simp only [Act.put, List.setIfInBounds_toArray, List.set_cons_zero, List.set_cons_succ]
          refine take_at (i := 11) (d := 54) (v := ?_) rfl rfl (by kernel_rfl) (by kernel_rfl) (by kernel_rfl) (fun _ _ _ h => h) (Or.inl ⟨by rfl, ?hy⟩) (by assumption) ?_
          case hy => (intro wS hSw; (try dsimp only at hSw); first | (go_simp; done) | (go_simp; with_reducible rfl))
          simp only [Act.put, List.setIfInBounds_toArray, List.set_cons_zero, List.set_cons_succ]
          refine take_at (i := 12) (d := 55) (v := ?_) rfl rfl (by kernel_rfl) (by kernel_rfl) (by kernel_rfl) (fun _ _ _ h => h) (Or.inl ⟨by rfl, ?hy⟩) (by assumption) ?_
          case hy => (intro wS hSw; (try dsimp only at hSw); first | (go_simp; done) | (go_simp; with_reducible rfl))
          simp only [Act.put, List.setIfInBounds_toArray, List.set_cons_zero, List.set_cons_succ]
          refine take_at (i := 13) (d := 56) (v := ?_) rfl rfl (by kernel_rfl) (by kernel_rfl) (by kernel_rfl) (fun _ _ _ h => h) (Or.inl ⟨by rfl, ?hy⟩) (by assumption) ?_
          case hy => (intro wS hSw; (try dsimp only at hSw); first | (go_simp; done) | (go_simp; with_reducible rfl))
          simp only [Act.put, List.setIfInBounds_toArray, List.set_cons_zero, List.set_cons_succ]
          refine wpAnyH_done (by kernel_rfl) ?_ _
          go_wp2_with fail
          go_meet
          exact ⟨by rw [HD.out], b10⟩
        · have hm : matchQ q fe = false := by simpa using hm
          have hdec : decide (matchQ q fe = true ∧ 3 * (j : Int) + 1 ≤ z) = false := by simp [hm]
          have HD := Go.Lib.hid hdec
          clear hdec
          refine wp_region_held_drew (S := (fun w' => (w'.cell? ⟨w0.heap.size, 0, none⟩ = some (.slice A4 n4 c4) ∧ w'.cell? ⟨be, oe + j * 4, none⟩ = some (.string ev.s)) ∧ (w'.cell? ⟨be, oe + j * 4 + 1, none⟩ = some (.string ev.t) ∧ w'.cell? ⟨be, oe + j * 4 + 2, none⟩ = some (.slice T nT cT)) ∧ w'.cell? ⟨be, oe + j * 4 + 3, none⟩ = some (.slice F nF cF))) (by kernel_rfl) ?_ (fun hHeld => ?_)
          · exact ⟨⟨kq, y0⟩, ⟨y1, y2⟩, y3⟩
          refine take_at (i := 0) (d := 43) (v := ?_) rfl rfl (by kernel_rfl) (by kernel_rfl) (by kernel_rfl) (fun _ _ _ h => h) (Or.inl ⟨by rfl, ?hy⟩) (by assumption) ?_
          case hy => (intro wS hSw; (try dsimp only at hSw); first | (go_simp; done) | (go_simp; with_reducible rfl))
          simp only [Act.put, List.setIfInBounds_toArray, List.set_cons_zero, List.set_cons_succ]
          refine take_at (i := 1) (d := 44) (v := ?_) rfl rfl (by kernel_rfl) (by kernel_rfl) (by kernel_rfl) (fun _ _ _ h => h) (Or.inl ⟨by rfl, ?hy⟩) (by assumption) ?_
          case hy => (intro wS hSw; (try dsimp only at hSw); first | (go_simp; done) | (go_simp; with_reducible rfl))
          simp only [Act.put, List.setIfInBounds_toArray, List.set_cons_zero, List.set_cons_succ]
          refine take_at (i := 2) (d := 45) (v := ?_) rfl rfl (by kernel_rfl) (by kernel_rfl) (by kernel_rfl) (fun _ _ _ h => h) (Or.inl ⟨by rfl, ?hy⟩) (by assumption) ?_
          case hy => (intro wS hSw; (try dsimp only at hSw); first | (go_simp; done) | (go_simp; with_reducible rfl))
          simp only [Act.put, List.setIfInBounds_toArray, List.set_cons_zero, List.set_cons_succ]
          refine take_at (i := 3) (d := 46) (v := ?_) rfl rfl (by kernel_rfl) (by kernel_rfl) (by kernel_rfl) (fun _ _ _ h => h) (Or.inl ⟨by rfl, ?hy⟩) (by assumption) ?_
          case hy => (intro wS hSw; (try dsimp only at hSw); first | (go_simp; done) | (go_simp; with_reducible rfl))
          simp only [Act.put, List.setIfInBounds_toArray, List.set_cons_zero, List.set_cons_succ]
          refine take_at (i := 4) (d := 47) (v := ?_) rfl rfl (by kernel_rfl) (by kernel_rfl) (by kernel_rfl) (fun _ _ _ h => h) (Or.inl ⟨by rfl, ?hy⟩) (by assumption) ?_
          case hy => (intro wS hSw; (try dsimp only at hSw); first | (go_simp; done) | (go_simp; with_reducible rfl))
          simp only [Act.put, List.setIfInBounds_toArray, List.set_cons_zero, List.set_cons_succ]
          refine wpAnyH_ready (rs := [5]) (by kernel_rfl) (by simp) ?_
          refine AllReadyH.cons rfl (fun K5 hK5 => ?_) AllReadyH.nil
          go_simp
          go_wp2_with (go_at_call 19; refine (HFEW.out w8.drew).mono ?_; rintro e w9 ⟨u9, rfl, v9, b9'⟩; have b9 : Below w8.heap.size w8 w9 := ⟨b9'.os, b9'.tape, b9'.output, b9'.size, b9'.block⟩)
          refine hK5.out _ _ ?_ (fun hH5 => ?_)
          · exact ⟨⟨bcell b9 kq, bcell b9 y0⟩, ⟨bcell b9 y1, bcell b9 y2⟩, bcell b9 y3⟩
          clear hK5 K5 hHeld
          refine wpAnyH_ready (rs := [6]) (by kernel_rfl) (by simp) ?_
          refine AllReadyH.cons rfl (fun K6 hK6 => ?_) AllReadyH.nil
          go_simp
          go_wp2_with (go_at_call 28; refine (matchQ_any (.agg #[.slice A4 n4 c4]) u9 q fe w9 ⟨A4, n4, c4, rfl, hq8.below b9⟩ (v9.below (below_chain B8 b9))).mono ?_; rintro e w10 ⟨rfl, b10'⟩; rw [hm]; have b10 := below_chain b9 b10')
          refine hK6.out _ _ ?_ (fun hH6 => ?_)
          · exact ⟨⟨bcell b10 kq, bcell b10 y0⟩, ⟨bcell b10 y1, bcell b10 y2⟩, bcell b10 y3⟩
          clear hK6 K6 hH5
          refine take_at (i := 7) (d := 50) (v := ?_) rfl rfl (by kernel_rfl) (by kernel_rfl) (by kernel_rfl) (fun _ _ _ h => h) (Or.inl ⟨by rfl, ?hy⟩) (by assumption) ?_
          case hy => (intro wS hSw; (try dsimp only at hSw); first | (go_simp; done) | (go_simp; with_reducible rfl))
          simp only [Act.put, List.setIfInBounds_toArray, List.set_cons_zero, List.set_cons_succ]
          refine take_at (i := 8) (d := 51) (v := undef) rfl rfl (by kernel_rfl) (by kernel_rfl) (by kernel_rfl) (fun _ _ _ h => h) (Or.inr ⟨by rfl, rfl⟩) (by assumption) ?_
          simp only [Act.put, List.setIfInBounds_toArray, List.set_cons_zero, List.set_cons_succ]
          refine take_at (i := 9) (d := 52) (v := undef) rfl rfl (by kernel_rfl) (by kernel_rfl) (by kernel_rfl) (fun _ _ _ h => h) (Or.inr ⟨by rfl, rfl⟩) (by assumption) ?_
          simp only [Act.put, List.setIfInBounds_toArray, List.set_cons_zero, List.set_cons_succ]
          refine take_at (i := 10) (d := 53) (v := undef) rfl rfl (by kernel_rfl) (by kernel_rfl) (by kernel_rfl) (fun _ _ _ h => h) (Or.inr ⟨by rfl, rfl⟩) (by assumption) ?_
          simp only [Act.put, List.setIfInBounds_toArray, List.set_cons_zero, List.set_cons_succ]
          refine take_at (i := 11) (d := 54) (v := undef) rfl rfl (by kernel_rfl) (by kernel_rfl) (by kernel_rfl) (fun _ _ _ h => h) (Or.inr ⟨by rfl, rfl⟩) (by assumption) ?_
          simp only [Act.put, List.setIfInBounds_toArray, List.set_cons_zero, List.set_cons_succ]
          refine take_at (i := 12) (d := 55) (v := undef) rfl rfl (by kernel_rfl) (by kernel_rfl) (by kernel_rfl) (fun _ _ _ h => h) (Or.inr ⟨by rfl, rfl⟩) (by assumption) ?_
          simp only [Act.put, List.setIfInBounds_toArray, List.set_cons_zero, List.set_cons_succ]
          refine take_at (i := 13) (d := 56) (v := ?_) rfl rfl (by kernel_rfl) (by kernel_rfl) (by kernel_rfl) (fun _ _ _ h => h) (Or.inl ⟨by rfl, ?hy⟩) (by assumption) ?_
          case hy => (intro wS hSw; (try dsimp only at hSw); first | (go_simp; done) | (go_simp; with_reducible rfl))
          simp only [Act.put, List.setIfInBounds_toArray, List.set_cons_zero, List.set_cons_succ]
          refine wpAnyH_done (by kernel_rfl) ?_ _
          go_wp2_with fail
          go_meet
          exact ⟨by rw [HD.out], b10⟩
      case rest =>
        obtain ⟨rfl, b9⟩ := hcut
        have p9 := p8.below (kP _ _) (kM _ _ _ _) b9
        have B9 := below_chain B8 b9
        have l9 : lo ≤ wc.heap.size := Nat.le_trans l8 b9.size
        clear p8 B8 b9 l8 hq8 kq
        by_cases hc : matchQ q fe = true ∧ 3 * (j : Int) + 1 ≤ z
        · rw [show decide (matchQ q fe = true ∧ 3 * (j : Int) + 1 ≤ z) = true from decide_eq_true hc]
          rw [if_pos hc] at HF
          clear hc
          have al := (Below.refl wc.heap.size wc).alloc (Nat.le_refl _) (.cells #[.int .i64 (3 * (j : Int) + 1)] 3)
          have d1 : RdC 1 (wc.alloc (.cells #[.int .i64 (3 * (j : Int) + 1)] 3)) (some ⟨wc.heap.size, 0, none⟩) 1 1 (nums [3 * (j : Int) + 1]) := RdC.new wc 3 (nums [3 * (j : Int) + 1]) rfl (by decide)
          have p10 := p9.below (kP _ _) (kM _ _ _ _) al
          have B10 := below_chain B9 al
          have l10 := Nat.le_trans l9 al.size
          have o10 := pair_iw p10
          have hm60 : m ≤ 60 := by have := o10.len; rw [nums_length] at this; have := HML.out; omega
          go_wp2_with (at_builtin; refine wpList_append_cells rfl (.tmp 57) (.tmp 61) 22 rfl 3 (.int .i64 0) 8 Try.underlying22 int_info rfl (by decide) rfl rfl o10 d1 (nums_one _) (by unfold maxLen; omega) (by omega) l10 ?_; intro A11 c11 w11 o11 g11 e11; obtain ⟨p11, b11⟩ := pair_push (l' := findP (lsM (es.take j)) q z ++ [3 * (j : Int) + 1]) p10 (kP _ _) (with_keeps (with_keeps noT_keeps (oqT_keeps _ _ _ _ _)) (bxT_keeps _ _ _)) B10.size (by rw [nums_append]; exact o11) g11 e11; have B11 := B10.trans b11; have l11 := Nat.le_trans l10 b11.size)
          rw [← HF.out] at p11
          go_roundw
          case rel => exact ⟨A11, m + 1, c11, j + 1, rfl, by go_num, by omega, by omega, l11, p11, B11⟩
          case measure => simp [intOf]; omega
        · rw [show decide (matchQ q fe = true ∧ 3 * (j : Int) + 1 ≤ z) = false from decide_eq_false hc]
          rw [if_neg hc, List.append_nil] at HF
          rw [← HF.out] at p9
          clear hc
          go_wp2_with fail
          go_roundw
          case rel => exact ⟨B, m, d, j + 1, rfl, by go_num, by omega, by omega, l9, p9, B9⟩
          case measure => simp [intOf]; omega
    · rw [show decide (j < n ∧ j < 60) = false by simpa using hc]
      have hqj := pair_oq (pair_first (pair_first pj)) Bj
      have hhj := pair_bx (pair_first pj)
      have kq : wr.cell? ⟨w0.heap.size, 0, none⟩ = some (.slice A4 n4 c4) := by rw [cell_of_row wr _ 0 _ _ _ hhj]; rfl
      clear hhj hc
      go_wp2_with fail
      refine (api.find (u := z) pj (kM _ _ _ _) hok ⟨A4, n4, c4, rfl, hqj⟩ HQK.out HQL.out HQT.out hz).mono ?_
      rintro e w7 ⟨C, k, c, rfl, r7, p7, b7⟩
      have B7 := below_chain Bj b7
      go_wp2_with fail
      refine (refInts_any _ _ _ _ _ _ _ w7 r7 (OwnC.rd (pair_iw p7))).mono ?_
      rintro e w8 ⟨rfl, k8, rfl⟩
      go_wp2_with fail
      go_ret
      exact ⟨rfl, bel_dn B7 k8⟩
end

end Go.Proofs.Ytppdljkfhoekpaa.PoWalk

/-
  Walk of a statement of layer 13: PostingSome.
-/
namespace Go.Proofs.Ytppdljkfhoekpaa.PoWalk
open Go.Proofs.Ytppdljkfhoekpaa.HeldAt Go.RowKit Go.Proofs.Ytppdljkfhoekpaa.MemRow Go.Proofs.Ytppdljkfhoekpaa.Ev Go.Proofs.Ytppdljkfhoekpaa.NameMath Go.Proofs.Ytppdljkfhoekpaa.NameWalk Go.Proofs.Ytppdljkfhoekpaa.EvWalk Go.Proofs.Ytppdljkfhoekpaa.NumMem Go.Proofs.Ytppdljkfhoekpaa.SmWalk Go.Proofs.Ytppdljkfhoekpaa.Qu Go.Proofs.Ytppdljkfhoekpaa.QuWalk Go.Proofs.Ytppdljkfhoekpaa.DkWalk

/-- Events, each at the next position. -/
def lsN (es : List Ev) : Ls := es.mapIdx fun i e => (fewT e, (i : Int) + 1)
theorem lsN_snoc (es : List Ev) (e : Ev) : lsN (es ++ [e]) = lsN es ++ [(fewT e, (es.length : Int) + 1)] := by simp [lsN, List.mapIdx_append]
theorem lsN_len (es : List Ev) : (lsN es).length = es.length := by simp [lsN]
theorem lsN_last (es : List Ev) : lastL (lsN es) < (es.length : Int) + 1 := by
  rcases List.eq_nil_or_concat es with rfl | ⟨M, y, rfl⟩
  · simp [lsN, lastL]
  · rw [List.concat_eq_append, lsN_snoc, lastL_snoc, List.length_append]
    simp only [List.length_singleton]
    omega
theorem lsN_ok (es : List Ev) (h : es.length ≤ 60) : LOk (lsN es) := by
  refine snoc_ind (P := fun es => es.length ≤ 60 → LOk (lsN es)) (fun _ => LOk.nil) (fun L y ih hl => ?_) es h
  rw [List.length_append, List.length_singleton] at hl
  have h1 := ih (by omega)
  have h2 := addL_ok h1 (fewT y) (p := (L.length : Int) + 1) (by omega) (by rw [lsN_len]; omega)
  rw [addL_yes (by omega) (lsN_last L)] at h2
  rw [lsN_snoc]
  exact h2
theorem lsN_next {es : List Ev} {j : Nat} (h : j < es.length) : addL (lsN (es.take j)) (fewT (es.getD j noEv)) ((j : Int) + 1) = (0, lsN (es.take (j + 1))) := by
  have hl : (es.take j).length = j := by rw [List.length_take]; omega
  have h1 := lsN_last (es.take j)
  rw [hl] at h1
  rw [addL_yes (by omega) h1, ev_take es j h, lsN_snoc, hl]
theorem lsN_le (es : List Ev) : ∀ x ∈ lsN es, x.2 ≤ es.length := by
  refine snoc_ind (P := fun es => ∀ x ∈ lsN es, x.2 ≤ es.length) (fun x h => (by cases h)) (fun L y ih => ?_) es
  intro x hx
  rw [lsN_snoc] at hx
  rw [List.length_append, List.length_singleton]
  rcases List.mem_append.1 hx with hx | hx
  · have := ih x hx; omega
  · rw [List.mem_singleton] at hx
    rw [hx]
    show (L.length : Int) + 1 ≤ ((L.length + 1 : Nat) : Int)
    omega
theorem find_all {L : Ls} {q : List Cl} {u : Int} (h : ∀ x ∈ L, x.2 ≤ u) : findP L q u = posP (matchQ q) L := up_all fun x hx => by
  obtain ⟨e, h1, _⟩ := posP_mem.1 hx
  exact h _ h1
theorem posP_congr {p p' : Ev → Bool} (L : Ls) (h : ∀ e, p e = p' e) : posP p L = posP p' L := by
  have : p = p' := funext h
  rw [this]
theorem find_tag {L : Ls} {t : ByteArray} {u : Int} (h : ∀ x ∈ L, x.2 ≤ u) : findP L [⟨[t], []⟩] u = tagP L t := by
  rw [find_all h]
  exact posP_congr L fun e => by simp [matchQ, clauseB]
theorem find_typ {L : Ls} {t : ByteArray} {u : Int} (h : ∀ x ∈ L, x.2 ≤ u) : findP L [⟨[], [t]⟩] u = typP L t := by
  rw [find_all h]
  refine posP_congr L fun e => ?_
  simp only [matchQ, clauseB, hasB, List.all_nil, List.any_cons, List.any_nil, Bool.or_false, Bool.true_and]
  rw [show decide ([t] = ([] : List ByteArray)) = false by simp, Bool.false_or]
  exact decide_eq_decide.2 eq_comm
theorem find_none (L : Ls) (u : Int) : findP L [] u = [] := by
  rw [List.eq_nil_iff_forall_not_mem]
  intro x hx
  obtain ⟨⟨e, _, h⟩, _⟩ := find_mem.1 hx
  simp [matchQ] at h
theorem find_two {L : Ls} (h : LOk L) (a b : Cl) (u : Int) : eitherF (findP L [a] u) (findP L [b] u) = findP L [a, b] u := inc_ext (either_inc _ (find_inc h _ _)) (find_inc h _ _) fun x => by
  rw [either_mem, find_mem, find_mem, find_mem]
  constructor
  · rintro (⟨⟨e, h1, h2⟩, h3⟩ | ⟨⟨e, h1, h2⟩, h3⟩)
    · exact ⟨⟨e, h1, by simp only [matchQ, List.any_cons, List.any_nil, Bool.or_false] at h2 ⊢; rw [h2]; rfl⟩, h3⟩
    · exact ⟨⟨e, h1, by simp only [matchQ, List.any_cons, List.any_nil, Bool.or_false] at h2 ⊢; rw [h2, Bool.or_true]⟩, h3⟩
  · rintro ⟨⟨e, h1, h2⟩, h3⟩
    simp only [matchQ, List.any_cons, List.any_nil, Bool.or_false] at h2
    rcases Bool.or_eq_true _ _ ▸ h2 with h2 | h2
    · exact .inl ⟨⟨e, h1, by simp only [matchQ, List.any_cons, List.any_nil, Bool.or_false]; exact h2⟩, h3⟩
    · exact .inr ⟨⟨e, h1, by simp only [matchQ, List.any_cons, List.any_nil, Bool.or_false]; exact h2⟩, h3⟩
theorem one_tag_ok {s : ByteArray} (hs : s.size ≤ maxLen) : QOk [⟨[s], []⟩] := fun c hc => by
  rw [List.mem_singleton] at hc
  rw [hc]
  exact ⟨fun x hx => (by rw [List.mem_singleton] at hx; rw [hx]; exact hs), fun x hx => (by cases hx)⟩
theorem one_typ_ok {s : ByteArray} (hs : s.size ≤ maxLen) : QOk [⟨[], [s]⟩] := fun c hc => by
  rw [List.mem_singleton] at hc
  rw [hc]
  exact ⟨fun x hx => (by cases hx), fun x hx => (by rw [List.mem_singleton] at hx; rw [hx]; exact hs)⟩
theorem rdq_of {w : World} {A : Option Addr} {n cap : Nat} {q : List Cl} {cs : List Value} (r : RdC 2 w A n cap cs) (hc : ClsR w q cs) (hl : q.length = n) : RdQ w A n cap q := by
  refine ⟨hl, r.2.1, r.2.2.1, fun hn => ?_⟩
  obtain ⟨b, a, hA, hlt, hcell⟩ := RdC.at_ r (by omega) hn
  refine ⟨b, a, hA, hlt, fun i hi => ?_⟩
  obtain ⟨T, nT, cT, Y, nY, cY, q0, q1, p1, p2⟩ := ClsR.at_ q cs hc i (by omega)
  exact ⟨T, nT, cT, Y, nY, cY, hcell _ _ q0, by rw [Nat.add_assoc]; exact hcell _ _ q1, p1, p2⟩
section
variable {Pt : Nat → Ls → Thing}
set_option maxHeartbeats 8000000 in
set_option maxRecDepth 100000 in
theorem some_walk (two : TwoApi) (api : LsApi Pt) (A : Option Addr) (n cap : Nat) (es : List Ev) (T0 Y0 T1 Y1 : Option Addr) (a0 b0 d0 e0 a1 b1 d1 e1 : Nat) (c0 c1 : Cl) (s : ByteArray) (w0 : World) (h0 : RdE w0 A n cap es) (hev : ∀ e ∈ es, EvOk e)
    (t0 : RdS w0 T0 a0 b0 c0.tags) (y0 : RdS w0 Y0 d0 e0 c0.types) (t1 : RdS w0 T1 a1 b1 c1.tags) (y1 : RdS w0 Y1 d1 e1 c1.types) (hc0 : ClOk c0) (hc1 : ClOk c1) (hs : s.size ≤ maxLen) :
    Calls Try.prog 7 #[.slice A n cap, .agg #[.slice T0 a0 b0, .slice Y0 d0 e0, .slice T1 a1 b1, .slice Y1 d1 e1], .string s] w0 fun e w' => e = .returned (.bool true) ∧ Below w0.heap.size w0 w' := by
  have hn := h0.le
  unfold maxLen at hn
  have HN := Go.Lib.hid h0.len
  have HE := Go.Lib.hid hev
  have kP := api.keeps
  clear hev
  go_enter Try.func7, Try.ntmps7
  have bx := (Below.refl w0.heap.size w0).alloc (Nat.le_refl _) (.cells #[.slice T0 a0 b0, .slice Y0 d0 e0, .slice T1 a1 b1, .slice Y1 d1 e1] 55)
  have tx := heap_alloc_new w0 (.cells #[.slice T0 a0 b0, .slice Y0 d0 e0, .slice T1 a1 b1, .slice Y1 d1 e1] 55)
  have sx : (w0.alloc (.cells #[.slice T0 a0 b0, .slice Y0 d0 e0, .slice T1 a1 b1, .slice Y1 d1 e1] 55)).heap.size = w0.heap.size + 1 := by simp only [World.alloc, Array.size_push]
  go_upto_region 1 with (fail)
  generalize w0.alloc (.cells #[.slice T0 a0 b0, .slice Y0 d0 e0, .slice T1 a1 b1, .slice Y1 d1 e1] 55) = w1 at *
  have h1 := h0.below bx
  have t0 := RdC.below t0 bx
  have y0 := RdC.below y0 bx
  have t1 := RdC.below t1 bx
  have y1 := RdC.below y1 bx
  have HBX := Go.Lib.hid (fun (w' : World) (b : Below w1.heap.size w1 w') => bx.trans (b.mono bx.size))
  clear h0 bx
  go_wp2_with fail
  refine (shown13_any two w1).mono ?_
  rintro e w2 ⟨rfl, B2⟩
  go_wp2_with fail
  refine (api.new (base := w1.heap.size) (Q := NoT) (G := fun _ => False) (fun _ h => h) noT_keeps (fun _ h => h.elim) B2.size).mono ?_
  rintro e w3 ⟨g, rfl, p3, b3⟩
  have B3 := below_chain B2 b3
  clear B2 b3
  go_wp2_with fail
  go_loopw [9] (fun iv wr => ∃ (j : Nat), iv = .int .i64 (j : Int) ∧ j ≤ n ∧ j ≤ 60 ∧ Pair w1.heap.size wr (Pt g (lsN (es.take j))) NoT ∧ Below w1.heap.size w1 wr) (fun iv _ => n - (intOf iv).toNat)
  case atStart => exact ⟨0, rfl, Nat.zero_le _, by omega, p3, B3⟩
  case round =>
    obtain ⟨j, rfl, hjn, hj60, pj, Bj⟩ := hrel
    clear p3 B3
    go_upto_region 6 with (fail)
    go_cut [31] (fun v wx => v = .bool (decide (j < n ∧ j < 60)) ∧ wr = wx)
    case first =>
      by_cases h1 : j < n
      · have i1 : (j : Int) < n := by omega
        by_cases h2 : j < 60
        · have i2 : (j : Int) < 60 := by omega
          go_wp2_with fail
          go_meet
          exact ⟨by simp [h1, h2], rfl⟩
        · have i2 : ¬ (j : Int) < 60 := by omega
          go_wp2_with fail
          go_meet
          exact ⟨by simp [h1, h2], rfl⟩
      · have i1 : ¬ (j : Int) < n := by omega
        go_wp2_with fail
        go_meet
        exact ⟨by simp [h1], rfl⟩
    obtain ⟨rfl, rfl⟩ := hcut
    have hlj : (es.take j).length = j := by rw [List.length_take, HN.out]; omega
    have hok := lsN_ok (es.take j) (by rw [hlj]; omega)
    have hln : (lsN (es.take j)).length = j := by rw [lsN_len, hlj]
    have hle := lsN_le (es.take j)
    rw [hlj] at hle
    clear hlj
    by_cases hc : j < n ∧ j < 60
    · rw [show decide (j < n ∧ j < 60) = true by simpa using hc]
      obtain ⟨hj1, hj2⟩ := hc
      have i1 : (j : Int) < n := by omega
      obtain ⟨be, oe, rfl, _, ke⟩ := h1.at_ (by omega)
      obtain ⟨T, nT, cT, F, nF, cF, x0, x1, x2, x3, rT, rF⟩ := ke j hj1
      have hnx := lsN_next (es := es) (j := j) (by rw [HN.out]; exact hj1)
      have hevk := fewT_ok (ev_ok HE.out (j := j) (by rw [HN.out]; exact hj1))
      have hevl := fewT_len (es.getD j noEv)
      have HX := Go.Lib.hid hnx
      clear ke hnx hle
      generalize es.getD j noEv = ev at *
      have iv : IsEv w1 (.agg #[.string ev.s, .string ev.t, .slice T nT cT, .slice F nF cF]) ev := ⟨T, nT, cT, F, nF, cF, rfl, rT, rF⟩
      have y0 := bcell Bj x0
      have y1 := bcell Bj x1
      have y2 := bcell Bj x2
      have y3 := bcell Bj x3
      have n2 : IntKind.i64.wrap ((j : Int) + 1) = (j : Int) + 1 := IntWalk.i64_in _ (by omega)
      go_wp2_with fail
      refine (few13_any _ ev w1 wr iv).mono ?_
      rintro e w7 ⟨u7, rfl, v7, b7⟩
      have p7 := pj.below (kP _ _) noT_keeps b7
      have B7 := below_chain Bj b7
      clear pj Bj b7 y0 y1 y2 y3
      go_wp2_with fail
      refine (api.add (p := (j : Int) + 1) p7 noT_keeps B7.size hok (by rw [hln]; omega) (fun _ _ _ hb => v7.below (B7.trans hb)) hevk (by omega) (by omega)).mono ?_
      rintro e w8 ⟨rfl, p8, b8⟩
      rw [HX.out] at p8
      have B8 := B7.trans b8
      clear p7 B7 b8 v7 hok hln
      go_wp2_with fail
      go_roundw
      case rel => exact ⟨j + 1, by go_num, by omega, by omega, p8, B8⟩
      case measure => simp [intOf]; omega
    · rw [show decide (j < n ∧ j < 60) = false by simpa using hc]
      clear hc
      have hx : wr.heap[w0.heap.size]? = _ := (Bj.block w0.heap.size (by omega)).trans tx
      have z0 : wr.cell? ⟨w0.heap.size, 0, none⟩ = some (.slice T0 a0 b0) := by rw [cell_of_row wr _ 0 _ _ _ hx]; rfl
      have z1 : wr.cell? ⟨w0.heap.size, 1, none⟩ = some (.slice Y0 d0 e0) := by rw [cell_of_row wr _ 1 _ _ _ hx]; rfl
      have z2 : wr.cell? ⟨w0.heap.size, 2, none⟩ = some (.slice T1 a1 b1) := by rw [cell_of_row wr _ 2 _ _ _ hx]; rfl
      have z3 : wr.cell? ⟨w0.heap.size, 3, none⟩ = some (.slice Y1 d1 e1) := by rw [cell_of_row wr _ 3 _ _ _ hx]; rfl
      clear hx tx sx
      have al := (Below.refl wr.heap.size wr).alloc (Nat.le_refl _) (.cells #[.slice T0 a0 b0, .slice Y0 d0 e0, .slice T1 a1 b1, .slice Y1 d1 e1] 54)
      have r4 : RdC 2 (wr.alloc (.cells #[.slice T0 a0 b0, .slice Y0 d0 e0, .slice T1 a1 b1, .slice Y1 d1 e1] 54)) (some ⟨wr.heap.size, 0, none⟩) 2 2 [.slice T0 a0 b0, .slice Y0 d0 e0, .slice T1 a1 b1, .slice Y1 d1 e1] := RdC.new wr 54 [.slice T0 a0 b0, .slice Y0 d0 e0, .slice T1 a1 b1, .slice Y1 d1 e1] rfl (by decide)
      have p4 := pj.below (kP _ _) noT_keeps al
      have B4 := below_chain Bj al
      have hcl : ClsR (wr.alloc (.cells #[.slice T0 a0 b0, .slice Y0 d0 e0, .slice T1 a1 b1, .slice Y1 d1 e1] 54)) [c0, c1] [.slice T0 a0 b0, .slice Y0 d0 e0, .slice T1 a1 b1, .slice Y1 d1 e1] := ⟨T0, a0, b0, Y0, d0, e0, _, rfl, RdC.below t0 B4, RdC.below y0 B4, T1, a1, b1, Y1, d1, e1, [], rfl, RdC.below t1 B4, RdC.below y1 B4, rfl⟩
      have hq4 : IsQ (wr.alloc (.cells #[.slice T0 a0 b0, .slice Y0 d0 e0, .slice T1 a1 b1, .slice Y1 d1 e1] 54)) (.agg #[.slice (some ⟨wr.heap.size, 0, none⟩) 2 2]) [c0, c1] := ⟨_, _, _, rfl, rdq_of r4 hcl rfl⟩
      clear pj Bj al r4 hcl t0 y0 t1 y1
      go_wp2_with fail
      generalize wr.alloc (.cells #[.slice T0 a0 b0, .slice Y0 d0 e0, .slice T1 a1 b1, .slice Y1 d1 e1] 54) = w4 at *
      refine (less13_any _ [c0, c1] w4 w4 hq4 (Below.refl _ _)).mono ?_
      rintro e w5 ⟨A5, n5, c5, rfl, ⟨cs, o5, hl5, hcs⟩, b5⟩
      obtain rfl : n5 = 2 := hl5.symm
      have r5 := OwnC.rd o5
      have p5 := p4.below (kP _ _) noT_keeps b5
      have B5 := below_chain B4 b5
      clear p4 hq4 o5 hl5
      have hfq : fewQ [c0, c1] = [fewC c0, fewC c1] := rfl
      rw [hfq] at hcs
      clear hfq
      have hk0 := fewC_ok hc0
      have hk1 := fewC_ok hc1
      have ht0 : (fewC c0).tags.length ≤ 8 ∧ (fewC c0).types.length ≤ 8 := by simp only [fewC, List.length_take]; omega
      have ht1 : (fewC c1).tags.length ≤ 8 ∧ (fewC c1).types.length ≤ 8 := by simp only [fewC, List.length_take]; omega
      generalize fewC c0 = f0 at *
      generalize fewC c1 = f1 at *
      have b6 : Below w5.heap.size w5 (w5.alloc (.cells #[.slice A5 2 c5] 30)) := (Below.refl _ _).alloc (Nat.le_refl _) _
      have k6 := (QAt.new w5 (.slice A5 2 c5)).c0
      have r6 := r5.below b6
      have h6 := (hcs.below b5).below b6
      have p6 := p5.below (kP _ _) noT_keeps b6
      have B6 := below_chain B5 b6
      obtain ⟨T, nT, cT, Y, nY, cY, cs', rfl, o1, o2, h6'⟩ := h6
      obtain ⟨q1, r1⟩ := slice_hi (P := Try.prog) 28 54 Try.underlying28 elem_clauses clause_size r6 (m := 1) (by omega)
      have q1' : ∀ W, (Instr.slice 28 (.slice A5 2 c5) none (some (.int .i64 1)) none).run Try.prog W = .ok (.slice A5 1 c5) W := q1
      obtain ⟨A7, q2, r2⟩ := slice_lo (P := Try.prog) 28 54 Try.underlying28 elem_clauses clause_size r6 (m := 1) (by omega)
      have q2' : ∀ W, (Instr.slice 28 (.slice A5 2 c5) (some (.int .i64 1)) none none).run Try.prog W = .ok (.slice A7 1 (c5 - 1)) W := q2
      have d1 : RdQ (w5.alloc (.cells #[.slice A5 2 c5] 30)) A5 1 c5 [f0] := rdq_of r1 ⟨T, nT, cT, Y, nY, cY, [], rfl, o1, o2, rfl⟩ rfl
      have d2 : RdQ (w5.alloc (.cells #[.slice A5 2 c5] 30)) A7 1 (c5 - 1) [f1] := rdq_of r2 h6' rfl
      have d3 : RdQ (w5.alloc (.cells #[.slice A5 2 c5] 30)) A5 2 c5 [f0, f1] := rdq_of r6 ⟨T, nT, cT, Y, nY, cY, cs', rfl, o1, o2, h6'⟩ rfl
      clear q1 q2 r1 r2 r6 h6' o1 o2 r5 hcs b5 b6 p5 B5
      have hLm := hln
      generalize lsN (es.take j) = L at *
      go_upto_region 10 with (fail)
      generalize w5.alloc (.cells #[.slice A5 2 c5] 30) = w6 at *
      generalize w5.heap.size = g6 at *
      have hqo0 : QOk [f0] := fun c hc => by rw [List.mem_singleton] at hc; rw [hc]; exact hk0
      have hqo1 : QOk [f1] := fun c hc => by rw [List.mem_singleton] at hc; rw [hc]; exact hk1
      have hqo2 : QOk [f0, f1] := fun c hc => by
        rcases List.mem_cons.1 hc with rfl | hc
        · exact hk0
        · rw [List.mem_singleton] at hc; rw [hc]; exact hk1
      have hqt0 : ∀ c ∈ [f0], c.tags.length ≤ 8 ∧ c.types.length ≤ 8 := fun c hc => by rw [List.mem_singleton] at hc; rw [hc]; exact ht0
      have hqt1 : ∀ c ∈ [f1], c.tags.length ≤ 8 ∧ c.types.length ≤ 8 := fun c hc => by rw [List.mem_singleton] at hc; rw [hc]; exact ht1
      have hqt2 : ∀ c ∈ [f0, f1], c.tags.length ≤ 8 ∧ c.types.length ≤ 8 := fun c hc => by
        rcases List.mem_cons.1 hc with rfl | hc
        · exact ht0
        · rw [List.mem_singleton] at hc; rw [hc]; exact ht1
      have hle99 : ∀ x ∈ L, x.2 ≤ 99 := fun x hx => by have := hle x hx; omega
      have E2 := Go.Lib.hid (find_two hok f0 f1 99)
      have ET := Go.Lib.hid (find_tag (t := s) hle99)
      have EY := Go.Lib.hid (find_typ (t := s) hle99)
      have I0 := Go.Lib.hid (find_inc hok [f0] 99)
      have I1 := Go.Lib.hid (find_inc hok [f1] 99)
      have L0 := Go.Lib.hid (show (findP L [f0] 99).length ≤ 60 from Nat.le_trans (find_len _ _ _) (by rw [hLm]; exact hj60))
      have L1 := Go.Lib.hid (show (findP L [f1] 99).length ≤ 60 from Nat.le_trans (find_len _ _ _) (by rw [hLm]; exact hj60))
      clear hle hle99 ht0 ht1 hk0 hk1 hLm hln
      go_wp2_with fail
      refine (api.find (u := 99) p6 noT_keeps hok ⟨_, _, _, rfl, d1⟩ hqo0 (by simp) hqt0 (by decide)).mono ?_
      rintro e w7 ⟨C7, m7, k7, rfl, r7, p7, b7⟩
      have B7 := below_chain B6 b7
      have z7 := bcell b7 k6
      have d2 := d2.below b7
      have d3 := d3.below b7
      clear p6 B6 b7 k6 d1
      go_wp2_with fail
      refine (api.find (u := 99) p7 noT_keeps hok ⟨_, _, _, rfl, d2⟩ hqo1 (by simp) hqt1 (by decide)).mono ?_
      rintro e w8 ⟨C8, m8, k8, rfl, r8, p8, b8⟩
      have B8 := below_chain B7 b8
      have z8 := bcell b8 z7
      have d3 := d3.below b8
      have r7 := rdi_below r7 b8
      clear p7 B7 b8 z7 d2
      go_wp2_with fail
      refine (api.find (u := 99) p8 noT_keeps hok ⟨_, _, _, rfl, d3⟩ hqo2 (by simp) hqt2 (by decide)).mono ?_
      rintro e w9 ⟨C9, m9, k9, rfl, r9, p9, b9⟩
      have B9 := below_chain B8 b9
      have r7 := rdi_below r7 b9
      have r8 := rdi_below r8 b9
      have hm7 : m7 ≤ 1000 := by have := r7.len; have := L0.out; omega
      have hm8 : m8 ≤ 1000 := by have := r8.len; have := L1.out; omega
      clear p8 B8 b9 z8 d3
      go_wp2_with fail
      refine (two.either r7 r8 I0.out I1.out hm7 hm8).mono ?_
      rintro e w10 ⟨C10, m10, k10, rfl, r10, b10⟩
      rw [E2.out] at r10
      have B10 := below_chain B9 b10
      have p10 := p9.below (kP _ _) noT_keeps b10
      have r9 := rdi_below r9 b10
      clear p9 B9 b10 r7 r8
      go_wp2_with fail
      refine (refInts_any _ _ _ _ _ _ _ w10 r9 r10).mono ?_
      rintro e w11 ⟨rfl, q11, rfl⟩
      have b11 := bel_dn (Below.refl w10.heap.size w10) q11
      generalize w10.drewN q11 = w11 at *
      have B11 := below_chain B10 b11
      have p11 := p10.below (kP _ _) noT_keeps b11
      clear p10 B10 b11 r9 r10
      have bl11 := (Below.refl w11.heap.size w11).alloc (Nat.le_refl _) (.cells #[.string s] 9)
      have hs11 : (w11.alloc (.cells #[.string s] 9)).heap.size = w11.heap.size + 1 := by simp only [World.alloc, Array.size_push]
      have rs11 : RdS (w11.alloc (.cells #[.string s] 9)) (some ⟨w11.heap.size, 0, none⟩) 1 1 [s] := RdC.new w11 9 (strs [s]) rfl (by decide)
      have bm11 := (Below.refl (w11.alloc (.cells #[.string s] 9)).heap.size (w11.alloc (.cells #[.string s] 9))).alloc (Nat.le_refl _) (.cells #[.slice (some ⟨w11.heap.size, 0, none⟩) 1 1, .slice none 0 0] 54)
      have rc11 : RdC 2 ((w11.alloc (.cells #[.string s] 9)).alloc (.cells #[.slice (some ⟨w11.heap.size, 0, none⟩) 1 1, .slice none 0 0] 54)) (some ⟨w11.heap.size + 1, 0, none⟩) 1 1 [.slice (some ⟨w11.heap.size, 0, none⟩) 1 1, .slice none 0 0] := by rw [← hs11]; exact RdC.new _ 54 [.slice (some ⟨w11.heap.size, 0, none⟩) 1 1, .slice none 0 0] rfl (by decide)
      have hq11 : IsQ ((w11.alloc (.cells #[.string s] 9)).alloc (.cells #[.slice (some ⟨w11.heap.size, 0, none⟩) 1 1, .slice none 0 0] 54)) (.agg #[.slice (some ⟨w11.heap.size + 1, 0, none⟩) 1 1]) [⟨[s], []⟩] := ⟨_, _, _, rfl, rdq_of rc11 ⟨some ⟨w11.heap.size, 0, none⟩, 1, 1, none, 0, 0, [], rfl, RdC.below rs11 bm11, RdC.nil _, rfl⟩ rfl⟩
      have bb11 := below_chain bl11 bm11
      have p12 := p11.below (kP _ _) noT_keeps bb11
      have B12 := below_chain B11 bb11
      clear p11 B11 bl11 bm11 rs11 rc11 hs11 bb11
      go_wp2_with fail
      generalize ((w11.alloc (.cells #[.string s] 9)).alloc (.cells #[.slice (some ⟨w11.heap.size, 0, none⟩) 1 1, .slice none 0 0] 54)) = w12 at *
      have hqo12 := one_tag_ok hs
      refine (api.find (u := 99) p12 noT_keeps hok hq11 hqo12 (by simp) (fun c hc => by rw [List.mem_singleton] at hc; rw [hc]; exact ⟨by simp, by simp⟩) (by decide)).mono ?_
      rintro e w13 ⟨C13, m13, k13, rfl, r13, p13, b13⟩
      rw [ET.out] at r13
      have B13 := below_chain B12 b13
      clear p12 B12 b13 hq11 hqo12
      go_wp2_with fail
      refine (api.tag (t := s) p13 noT_keeps hok hs).mono ?_
      rintro e w14 ⟨C14, m14, k14, rfl, r14, p14, b14⟩
      have B14 := below_chain B13 b14
      have r13 := rdi_below r13 b14
      clear p13 B13 b14
      go_wp2_with fail
      refine (refInts_any _ _ _ _ _ _ _ w14 r13 r14).mono ?_
      rintro e w15 ⟨rfl, q15, rfl⟩
      have b15 := bel_dn (Below.refl w14.heap.size w14) q15
      generalize w14.drewN q15 = w15 at *
      have B15 := below_chain B14 b15
      have p15 := p14.below (kP _ _) noT_keeps b15
      clear p14 B14 b15 r13 r14
      have bl15 := (Below.refl w15.heap.size w15).alloc (Nat.le_refl _) (.cells #[.string s] 9)
      have hs15 : (w15.alloc (.cells #[.string s] 9)).heap.size = w15.heap.size + 1 := by simp only [World.alloc, Array.size_push]
      have rs15 : RdS (w15.alloc (.cells #[.string s] 9)) (some ⟨w15.heap.size, 0, none⟩) 1 1 [s] := RdC.new w15 9 (strs [s]) rfl (by decide)
      have bm15 := (Below.refl (w15.alloc (.cells #[.string s] 9)).heap.size (w15.alloc (.cells #[.string s] 9))).alloc (Nat.le_refl _) (.cells #[.slice none 0 0, .slice (some ⟨w15.heap.size, 0, none⟩) 1 1] 54)
      have rc15 : RdC 2 ((w15.alloc (.cells #[.string s] 9)).alloc (.cells #[.slice none 0 0, .slice (some ⟨w15.heap.size, 0, none⟩) 1 1] 54)) (some ⟨w15.heap.size + 1, 0, none⟩) 1 1 [.slice none 0 0, .slice (some ⟨w15.heap.size, 0, none⟩) 1 1] := by rw [← hs15]; exact RdC.new _ 54 [.slice none 0 0, .slice (some ⟨w15.heap.size, 0, none⟩) 1 1] rfl (by decide)
      have hq15 : IsQ ((w15.alloc (.cells #[.string s] 9)).alloc (.cells #[.slice none 0 0, .slice (some ⟨w15.heap.size, 0, none⟩) 1 1] 54)) (.agg #[.slice (some ⟨w15.heap.size + 1, 0, none⟩) 1 1]) [⟨[], [s]⟩] := ⟨_, _, _, rfl, rdq_of rc15 ⟨none, 0, 0, some ⟨w15.heap.size, 0, none⟩, 1, 1, [], rfl, RdC.nil _, RdC.below rs15 bm15, rfl⟩ rfl⟩
      have bb15 := below_chain bl15 bm15
      have p16 := p15.below (kP _ _) noT_keeps bb15
      have B16 := below_chain B15 bb15
      clear p15 B15 bl15 bm15 rs15 rc15 hs15 bb15
      go_wp2_with fail
      generalize ((w15.alloc (.cells #[.string s] 9)).alloc (.cells #[.slice none 0 0, .slice (some ⟨w15.heap.size, 0, none⟩) 1 1] 54)) = w16 at *
      have hqo16 := one_typ_ok hs
      refine (api.find (u := 99) p16 noT_keeps hok hq15 hqo16 (by simp) (fun c hc => by rw [List.mem_singleton] at hc; rw [hc]; exact ⟨by simp, by simp⟩) (by decide)).mono ?_
      rintro e w17 ⟨C17, m17, k17, rfl, r17, p17, b17⟩
      rw [EY.out] at r17
      have B17 := below_chain B16 b17
      clear p16 B16 b17 hq15 hqo16
      go_wp2_with fail
      refine (api.typ (t := s) p17 noT_keeps hok hs).mono ?_
      rintro e w18 ⟨C18, m18, k18, rfl, r18, p18, b18⟩
      have B18 := below_chain B17 b18
      have r17 := rdi_below r17 b18
      clear p17 B17 b18
      go_wp2_with fail
      refine (refInts_any _ _ _ _ _ _ _ w18 r17 r18).mono ?_
      rintro e w19 ⟨rfl, q19, rfl⟩
      have b19 := bel_dn (Below.refl w18.heap.size w18) q19
      generalize w18.drewN q19 = w19 at *
      have B19 := below_chain B18 b19
      have p19 := p18.below (kP _ _) noT_keeps b19
      clear p18 B18 b19 r17 r18
      go_wp2_with fail
      refine (api.find (u := 99) p19 noT_keeps hok ⟨_, _, _, rfl, RdQ.nil _⟩ (fun c hc => by cases hc) (by decide) (fun c hc => by cases hc) (by decide)).mono ?_
      rintro e w20 ⟨C20, m20, k20, rfl, r20, _, b20⟩
      rw [find_none] at r20
      obtain rfl : m20 = 0 := r20.len.symm
      have B20 := below_chain B19 b20
      go_wp2_with fail
      go_ret
      exact ⟨by simp, HBX.out _ B20⟩
end

end Go.Proofs.Ytppdljkfhoekpaa.PoWalk

/-
  Walk of a statement of layer 13: PostingLists.
-/
namespace Go.Proofs.Ytppdljkfhoekpaa.PoWalk
open Go.RowKit Go.Proofs.Ytppdljkfhoekpaa.MemRow Go.Proofs.Ytppdljkfhoekpaa.Ev Go.Proofs.Ytppdljkfhoekpaa.NameMath Go.Proofs.Ytppdljkfhoekpaa.NameWalk Go.Proofs.Ytppdljkfhoekpaa.EvWalk Go.Proofs.Ytppdljkfhoekpaa.NumMem Go.Proofs.Ytppdljkfhoekpaa.SmWalk Go.Proofs.Ytppdljkfhoekpaa.Qu Go.Proofs.Ytppdljkfhoekpaa.QuWalk Go.Proofs.Ytppdljkfhoekpaa.DkWalk

/-- A row of texts. -/
def SsT (A : Option Addr) (n c : Nat) (ss : List ByteArray) : Thing := fun w G => RdS w A n c ss ∧ (∀ a, A = some a → G a.block) ∧ ∀ k, G k → k < w.heap.size
theorem ssT_keeps (A : Option Addr) (n c : Nat) (ss : List ByteArray) : Keeps (SsT A n c ss) :=
  ⟨fun ⟨h, i, hl⟩ hs hk => ⟨rdc_keep h fun a ha => hk _ (i a ha), i, fun k h => Nat.lt_of_lt_of_le (hl k h) hs⟩, fun h => h.2.2⟩
theorem pair_ss {base : Nat} {w : World} {P : Thing} {A : Option Addr} {n c : Nat} {ss : List ByteArray} (h : Pair base w P (SsT A n c ss)) : RdS w A n c ss := by
  obtain ⟨_, _, _, hr, _⟩ := h
  exact hr.1
theorem pair_no {base : Nat} {w : World} {P Q : Thing} (h : Pair base w P Q) : Pair base w P NoT := by
  obtain ⟨F, G, hp, _, h1, _, _⟩ := h
  exact ⟨F, fun _ => False, hp, fun _ h => h, h1, fun _ h => h.elim, fun _ _ h => h⟩
theorem putL_pos (l : List ByteArray) (s : ByteArray) : 0 < (putL l s).length := List.length_pos_of_mem ((putL_mem l s s).2 (.inl rfl))
theorem ss_put {base : Nat} {w w' : World} {P : Thing} {A A' : Option Addr} {n c n' c' : Nat} {ss : List ByteArray} {s : ByteArray} (h : Pair base w P (SsT A n c ss)) (kp : Keeps P) (hb : base ≤ w.heap.size) (r : RdS w' A' n' c' (putL ss s)) (b : Below w.heap.size w w') (hA : A' = A ∨ ∀ a, A' = some a → w.heap.size ≤ a.block) : Pair base w' P (SsT A' n' c' (putL ss s)) := by
  rcases hA with rfl | hA
  · obtain ⟨F, G, h1, ⟨_, h3, h4⟩, h5, h6, h7⟩ := h.below kp (ssT_keeps _ _ _ _) b
    exact ⟨F, G, h1, ⟨r, h3, h4⟩, h5, h6, h7⟩
  · have hn : 0 < n' := by rw [← r.len]; exact putL_pos ss s
    refine pair_second (pair_more (R := SsT A' n' c' (putL ss s)) h kp (ssT_keeps _ _ _ _) hb b ⟨r, fun a ha => ⟨hA a ha, ?_⟩, fun k hk => hk.2⟩)
    obtain ⟨bb, oo, e, hlt, _⟩ := RdS.at_ r hn
    rw [ha] at e
    injection e with e
    rw [e]
    exact hlt

theorem lsN_types (es : List Ev) : (lsN es).map (fun x => x.1.t) = es.map (·.t) := by
  refine snoc_ind (P := fun es => (lsN es).map (fun x => x.1.t) = es.map (·.t)) rfl (fun L y ih => ?_) es
  rw [lsN_snoc, List.map_append, ih, List.map_append]
  rfl
/-- The positions of the first types. -/
def allTyP (L : Ls) (ns : List ByteArray) (k : Nat) : List Int := posP (fun e => hasB (ns.take k) e.t) L
theorem all_zero (L : Ls) (ns : List ByteArray) : allTyP L ns 0 = [] := by
  rw [List.eq_nil_iff_forall_not_mem]
  intro x hx
  obtain ⟨e, _, h⟩ := posP_mem.1 hx
  simp [hasB] at h
theorem all_succ {L : Ls} (h : LOk L) {ns : List ByteArray} {k : Nat} (hk : k < ns.length) : eitherF (allTyP L ns k) (typP L (ns.getD k ByteArray.empty)) = allTyP L ns (k + 1) := inc_ext (either_inc _ (posP_inc h _)) (posP_inc h _) fun x => by
  unfold allTyP typP
  rw [either_mem, posP_mem, posP_mem, posP_mem, take_get ns k hk]
  constructor
  · rintro (⟨e, h1, h2⟩ | ⟨e, h1, h2⟩)
    · exact ⟨e, h1, hasB_mem.2 (List.mem_append_left _ (hasB_mem.1 h2))⟩
    · exact ⟨e, h1, hasB_mem.2 (List.mem_append_right _ (List.mem_singleton.2 (of_decide_eq_true h2)))⟩
  · rintro ⟨e, h1, h2⟩
    rcases List.mem_append.1 (hasB_mem.1 h2) with h3 | h3
    · exact .inl ⟨e, h1, hasB_mem.2 h3⟩
    · exact .inr ⟨e, h1, decide_eq_true (List.mem_singleton.1 h3)⟩
theorem all_len {L : Ls} {ns : List ByteArray} (h : ∀ x ∈ L, x.1.t ∈ ns) {k : Nat} (hk : k = ns.length) : (allTyP L ns k).length = L.length := by
  unfold allTyP posP
  rw [List.length_map, List.take_of_length_le (by omega), List.filter_eq_self.2 fun x hx => hasB_mem.2 (h x hx)]
def tZ : ByteArray := ⟨#[122, 122]⟩
def evZ (s : ByteArray) : Ev := ⟨ByteArray.empty, tZ, [s], []⟩
theorem tag_z (L : Ls) (s : ByteArray) (p : Int) : tagP (L ++ [(evZ s, p)]) s = tagP L s ++ [p] := by
  unfold tagP
  rw [posP_append, posP_one, if_pos (by simp [hasB, evZ])]
theorem typ_z (L : Ls) (s : ByteArray) (p : Int) : typP (L ++ [(evZ s, p)]) tZ = typP L tZ ++ [p] := by
  unfold typP
  rw [posP_append, posP_one, if_pos (by simp [evZ])]
theorem evZ_ok {s : ByteArray} (hs : s.size ≤ maxLen) : EvOk (evZ s) := ⟨(by show (0 : Nat) ≤ maxLen; omega), (by show (2 : Nat) ≤ maxLen; unfold maxLen; omega), fun x hx => (by rw [show (evZ s).tags = [s] from rfl, List.mem_singleton] at hx; rw [hx]; exact hs), fun x hx => (by cases hx), fun x hx => (by cases hx)⟩
section
variable {Pt : Nat → Ls → Thing} {Pw : Nat → Ls → Nat → Ls → Thing}
set_option maxHeartbeats 8000000 in
set_option maxRecDepth 100000 in
theorem plists_walk (two : TwoApi) (api : LtApi Pt Pw) (A : Option Addr) (n cap : Nat) (es : List Ev) (s : ByteArray) (w0 : World) (h0 : RdE w0 A n cap es) (hev : ∀ e ∈ es, EvOk e) (hs : s.size ≤ maxLen) :
    Calls Try.prog 8 #[.slice A n cap, .string s] w0 fun e w' => e = .returned (.bool true) ∧ Below w0.heap.size w0 w' := by
  have hn := h0.le
  unfold maxLen at hn
  have HN := Go.Lib.hid h0.len
  have HE := Go.Lib.hid hev
  have kP := api.keeps
  clear hev
  go_enter Try.func8, Try.ntmps8
  go_wp2_with fail
  refine (shown13_any two w0).mono ?_
  rintro e w2 ⟨rfl, B2⟩
  go_wp2_with fail
  refine (api.new (base := w0.heap.size) (Q := NoT) (G := fun _ => False) (fun _ h => h) noT_keeps (fun _ h => h.elim) B2.size).mono ?_
  rintro e w3 ⟨g, rfl, p3, b3⟩
  have B3 := below_chain B2 b3
  clear B2 b3
  have hmin : ((min (n : Int) 60) : Int) = ((min n 60 : Nat) : Int) := by omega
  obtain ⟨k, hk⟩ : ∃ k, k = min n 60 := ⟨_, rfl⟩
  have hk60 : k ≤ 60 := by omega
  have hkn : k ≤ n := by omega
  rw [← hk] at hmin
  clear hk
  have al := (Below.refl w3.heap.size w3).alloc (Nat.le_refl _) (.cells #[] 9)
  have p4 : Pair w0.heap.size (w3.alloc (.cells #[] 9)) (Pt g []) (SsT (some ⟨w3.heap.size, 0, none⟩) 0 0 []) := pair_second (pair_more p3 (kP _ _) noT_keeps B3.size al ⟨RdC.empty _ _ (by decide), fun a ha => (by injection ha with ha; rw [← ha]; exact ⟨Nat.le_refl _, by simp only [World.alloc, Array.size_push]; omega⟩), fun k hk => hk.2⟩)
  have B4 := below_chain B3 al
  clear p3 B3 al
  go_wp2_with fail
  go_loopw [8, 9] (fun tv iv wr => ∃ (C : Option Addr) (m c j : Nat), tv = .slice C m c ∧ iv = .int .i64 (j : Int) ∧ j ≤ k ∧ Pair w0.heap.size wr (Pt g (lsN (es.take j))) (SsT C m c (normTags ((es.take j).map (·.t)))) ∧ Below w0.heap.size w0 wr) (fun _ iv _ => k - (intOf iv).toNat)
  case atStart => exact ⟨_, _, _, 0, rfl, rfl, Nat.zero_le _, p4, B4⟩
  case round =>
    obtain ⟨C, m, c, j, rfl, rfl, hj, pj, Bj⟩ := hrel
    clear p4 B4
    have hlj : (es.take j).length = j := by rw [List.length_take, HN.out]; omega
    have hok := lsN_ok (es.take j) (by rw [hlj]; omega)
    have hln : (lsN (es.take j)).length = j := by rw [lsN_len, hlj]
    by_cases hlt : j < k
    · have i1 : (j : Int) < k := by omega
      obtain ⟨be, oe, rfl, _, ke⟩ := h0.at_ (by omega)
      obtain ⟨T, nT, cT, F, nF, cF, x0, x1, x2, x3, rT, rF⟩ := ke j (by omega)
      have hnx := lsN_next (es := es) (j := j) (by rw [HN.out]; omega)
      have hevk := fewT_ok (ev_ok HE.out (j := j) (by rw [HN.out]; omega))
      have hevl := fewT_len (es.getD j noEv)
      have hnt : normTags ((es.take (j + 1)).map (·.t)) = putL (normTags ((es.take j).map (·.t))) (es.getD j noEv).t := by
        rw [ev_take es j (by rw [HN.out]; omega), List.map_append, List.map_cons, List.map_nil, normTags_snoc]
      have hm : m ≤ 1000000 := by
        have h1 := (pair_ss pj).len
        have h2 := normTags_len ((es.take j).map (·.t))
        rw [List.length_map, hlj] at h2
        omega
      have HX := Go.Lib.hid hnx
      have HT := Go.Lib.hid hnt
      clear ke hnx hnt hlj
      generalize es.getD j noEv = ev at *
      have iv : IsEv w0 (.agg #[.string ev.s, .string ev.t, .slice T nT cT, .slice F nF cF]) ev := ⟨T, nT, cT, F, nF, cF, rfl, rT, rF⟩
      have y0 := bcell Bj x0
      have y1 := bcell Bj x1
      have y2 := bcell Bj x2
      have y3 := bcell Bj x3
      have n2 : IntKind.i64.wrap ((j : Int) + 1) = (j : Int) + 1 := IntWalk.i64_in _ (by omega)
      go_wp2_with fail
      refine (few13_any _ ev w0 wr iv).mono ?_
      rintro e w7 ⟨u7, rfl, v7, b7⟩
      have p7 := pj.below (kP _ _) (ssT_keeps _ _ _ _) b7
      have B7 := below_chain Bj b7
      clear pj Bj b7 y0 y1 y2 y3
      go_wp2_with fail
      refine (api.add (p := (j : Int) + 1) p7 (ssT_keeps _ _ _ _) B7.size hok (by rw [hln]; omega) (fun _ _ _ hb => v7.below (B7.trans hb)) hevk (by omega) (by omega)).mono ?_
      rintro e w8 ⟨rfl, p8, b8⟩
      rw [HX.out] at p8 ⊢
      have B8 := B7.trans b8
      have y1 := bcell B8 x1
      clear p7 B7 b8 v7 hok hln
      go_wp2_with fail
      refine (refPut_any C m c _ ev.t w8 (pair_ss p8) hm).mono ?_
      rintro e w9 ⟨C9, m9, c9, rfl, r9, b9, h9⟩
      have p9 := ss_put p8 (kP _ _) B8.size r9 b9 h9
      rw [← HT.out] at p9
      have B9 := below_chain B8 b9
      clear p8 B8 b9 r9 h9
      go_wp2_with fail
      go_roundw
      case rel => exact ⟨C9, m9, c9, j + 1, rfl, by go_num, by omega, p9, B9⟩
      case measure => simp [intOf]; omega
    · obtain rfl : j = k := by omega
      have i1 : ¬ (j : Int) < j := by omega
      have r4 := pair_ss pj
      have p4 := pair_no pj
      have hall : ∀ x ∈ lsN (es.take j), x.1.t ∈ normTags ((es.take j).map (·.t)) := fun x hx => by
        rw [normTags_mem, ← lsN_types]
        exact List.mem_map.2 ⟨x, hx, rfl⟩
      have hsz : ∀ i, ((normTags ((es.take j).map (·.t))).getD i ByteArray.empty).size ≤ maxLen := fun i => by
        by_cases hi : i < (normTags ((es.take j).map (·.t))).length
        · have h1 : (normTags ((es.take j).map (·.t))).getD i ByteArray.empty ∈ normTags ((es.take j).map (·.t)) := by
            simp only [List.getD, List.getElem?_eq_getElem hi, Option.getD_some]
            exact List.getElem_mem hi
          rw [normTags_mem] at h1
          obtain ⟨e, he, h2⟩ := List.mem_map.1 h1
          rw [← h2]
          exact (HE.out e (List.mem_of_mem_take he)).t
        · rw [List.getD, List.getElem?_eq_none (Nat.le_of_not_lt hi)]
          exact Nat.zero_le _
      have hm60 : m ≤ 60 := by
        have h1 := r4.len
        have h2 := normTags_len ((es.take j).map (·.t))
        rw [List.length_map, hlj] at h2
        omega
      have hlast := lsN_last (es.take j)
      rw [hlj] at hlast
      clear pj hlj
      generalize normTags ((es.take j).map (·.t)) = ns at *
      generalize lsN (es.take j) = L at *
      have HM := Go.Lib.hid r4.len
      have AS := Go.Lib.hid (fun k (hk : k < m) => all_succ hok (ns := ns) (k := k) (by rw [HM.out]; exact hk))
      have AL := Go.Lib.hid (all_len hall HM.out.symm)
      have SZ := Go.Lib.hid hsz
      have IA := Go.Lib.hid (fun k => posP_inc hok (fun e => hasB (ns.take k) e.t))
      have IT := Go.Lib.hid (fun t => posP_inc hok (fun e => decide (e.t = t)))
      have LA := Go.Lib.hid (fun k => show (allTyP L ns k).length ≤ 60 from Nat.le_trans (posP_len _ L) (by rw [hln]; exact hk60))
      have LT := Go.Lib.hid (fun t => show (typP L t).length ≤ 60 from Nat.le_trans (posP_len _ L) (by rw [hln]; exact hk60))
      have IG := Go.Lib.hid (show Inc (tagP L s) from posP_inc hok _)
      have LG := Go.Lib.hid (show (tagP L s).length ≤ 60 from Nat.le_trans (posP_len _ L) (by rw [hln]; exact hk60))
      rw [hln] at AL
      have HLN := Go.Lib.hid hln
      clear hall hsz
      have al := (Below.refl wr.heap.size wr).alloc (Nat.le_refl _) (.cells #[] 3)
      have r5 : RdI (wr.alloc (.cells #[] 3)) (some ⟨wr.heap.size, 0, none⟩) 0 0 (allTyP L ns 0) := by rw [all_zero]; exact RdC.empty _ _ (by decide)
      have p5 := p4.below (kP _ _) noT_keeps al
      have r4' : RdS (wr.alloc (.cells #[] 3)) C m c ns := RdC.below r4 al
      have B5 := below_chain Bj al
      clear r4 p4 Bj al
      go_wp2_with fail
      obtain ⟨wo, rfl⟩ : ∃ wo : World, wo = wr := ⟨_, rfl⟩
      go_loopw [10, 11] (fun av iv wr => ∃ (C7 : Option Addr) (m7 c7 i : Nat), av = .slice C7 m7 c7 ∧ iv = .int .i64 (i : Int) ∧ i ≤ m ∧ RdI wr C7 m7 c7 (allTyP L ns i) ∧ RdS wr C m c ns ∧ Pair w0.heap.size wr (Pt g L) NoT ∧ Below w0.heap.size w0 wr) (fun _ iv _ => m - (intOf iv).toNat)
      case atStart => exact ⟨_, _, _, 0, rfl, rfl, Nat.zero_le _, r5, r4', p5, B5⟩
      case round =>
        obtain ⟨C7, m7, c7, i, rfl, rfl, hi, r5, r4, pj, Bj⟩ := hrel
        clear r4' p5 B5
        have hm7 : m7 ≤ 60 := by have := r5.len; have := LA.out i; omega
        by_cases hlt2 : i < m
        · have i2 : (i : Int) < m := by omega
          obtain ⟨bn, on, rfl, _, kn⟩ := RdS.at_ r4 (by omega)
          have y1 := kn i hlt2
          have hst := AS.out i hlt2
          have hzs := SZ.out i
          have hlt3 := LT.out (ns.getD i ByteArray.empty)
          have hit : Inc (typP L (ns.getD i ByteArray.empty)) := IT.out (ns.getD i ByteArray.empty)
          have HS := Go.Lib.hid hst
          clear kn hst
          generalize ns.getD i ByteArray.empty = x at *
          go_wp2_with fail
          refine (api.typ (t := x) pj noT_keeps hok hzs).mono ?_
          rintro e w7 ⟨C8, m8, c8, rfl, r8, p7, b7⟩
          have B7 := below_chain Bj b7
          have r5 := rdi_below r5 b7
          have r4 : RdS w7 (some ⟨bn, on, none⟩) m c ns := RdC.below r4 b7
          have hm8 : m8 ≤ 1000 := by have := r8.len; omega
          clear pj Bj b7 y1
          go_wp2_with fail
          refine (two.either r5 r8 (IA.out i) hit (by omega) hm8).mono ?_
          rintro e w8 ⟨C9, m9, c9, rfl, r9, b9⟩
          have B9 := below_chain B7 b9
          have p9 := p7.below (kP _ _) noT_keeps b9
          have r4 : RdS w8 (some ⟨bn, on, none⟩) m c ns := RdC.below r4 b9
          rw [HS.out] at r9
          clear p7 B7 b9 r5 r8
          go_wp2_with fail
          go_roundw
          case rel => exact ⟨C9, m9, c9, i + 1, rfl, by go_num, by omega, r9, r4, p9, B9⟩
          case measure => simp [intOf]; omega
        · obtain rfl : i = m := by omega
          have i2 : ¬ (i : Int) < i := by omega
          obtain rfl : m7 = j := by rw [← r5.len, AL.out]
          clear r4 r5 AS SZ IA IT LA
          go_wp2_with fail
          refine (api.tagN (t := s) pj noT_keeps Bj.size hok hs).mono ?_
          rintro e w7 ⟨C8, m8, c8, rfl, p7, b7⟩
          have B7 := below_chain Bj b7
          have r8 := pair_ri1 p7
          have kR := with_keeps noT_keeps (riT_keeps C8 m8 c8 (tagP L s))
          have hm8 : m8 ≤ 60 := by have := r8.len; have := LG.out; omega
          clear pj Bj b7
          go_wp2_with fail
          obtain ⟨wp, rfl⟩ : ∃ wp : World, wp = wr := ⟨_, rfl⟩
          go_loopw [13] (fun iv wr => ∃ (i : Nat), iv = .int .i64 (i : Int) ∧ 1 ≤ i ∧ i ≤ 61 ∧ Hid (∃ q, wr = w7.drewN q)) (fun iv _ => m8 - (intOf iv).toNat)
          case atStart => exact ⟨1, rfl, Nat.le_refl _, by omega, Go.Lib.hid ⟨0, rfl⟩⟩
          case round =>
            obtain ⟨i, rfl, hi1, hi61, HQ⟩ := hrel
            by_cases hlt4 : i < m8
            · have i4 : (i : Int) < m8 := by omega
              have r8' : RdI wr C8 m8 c8 (tagP L s) := by obtain ⟨q, rfl⟩ := HQ.out; exact r8
              obtain ⟨bt, ot, rfl, _, kt⟩ := r8'.at_ (by omega)
              have y1 := kt i hlt4
              have y2 := kt (i - 1) (by omega)
              have hlt5 := inc_lt IG.out (show i - 1 < i by omega) (by rw [r8.len]; exact hlt4)
              have n1 : IntKind.i64.wrap ((i : Int) - 1) = ((i - 1 : Nat) : Int) := by rw [IntWalk.i64_in _ (by omega)]; omega
              have j5 : ((i - 1 : Nat) : Int) < m8 := by omega
              have j6 : ¬ (tagP L s).getD i 0 ≤ (tagP L s).getD (i - 1) 0 := by omega
              clear kt r8' hlt5
              generalize (tagP L s).getD i 0 = x at *
              generalize (tagP L s).getD (i - 1) 0 = y at *
              generalize i - 1 = t at *
              go_upto_region 22 with (fail)
              go_quiet (fail)
              go_wp2_with fail
              go_roundw
              case rel => exact ⟨i + 1, by go_num, by omega, by omega, Go.Lib.hid (by obtain ⟨q, hq⟩ := HQ.out; exact ⟨_, by rw [hq, World.drewN_drewN]⟩)⟩
              case measure => simp [intOf]; omega
            · have i4 : ¬ (i : Int) < m8 := by omega
              have bq : Below w7.heap.size w7 wr := by obtain ⟨q, rfl⟩ := HQ.out; exact bel_dn (Below.refl _ _) q
              have p8 := p7.below (kP _ _) kR bq
              have B8 := below_chain B7 bq
              clear p7 B7 bq HQ r8
              go_wp2_with fail
              refine (api.clone p8 kR B8.size hok).mono ?_
              rintro e w9 ⟨g2, rfl, p9, b9⟩
              have B9 := below_chain B8 b9
              have q9 := pair_impL (api.swap _ _ _ _) p9
              clear p8 B8 b9 p9
              have bl := (Below.refl w9.heap.size w9).alloc (Nat.le_refl _) (.cells #[.string s] 9)
              have rs : RdS (w9.alloc (.cells #[.string s] 9)) (some ⟨w9.heap.size, 0, none⟩) 1 1 [s] := RdC.new w9 9 (strs [s]) rfl (by decide)
              have q10 := pair_more (R := SsT (some ⟨w9.heap.size, 0, none⟩) 1 1 [s]) q9 (api.tkeeps _ _ _ _) kR B9.size bl ⟨rs, fun a e => by injection e with e; subst e; exact ⟨Nat.le_refl _, by simp⟩, fun k hk => hk.2⟩
              have B10 := below_chain B9 bl
              have hz : addL L (evZ s) 99 = (0, L ++ [(evZ s, 99)]) := addL_yes (by decide) (by omega)
              have hok2 := addL_ok hok (evZ s) (p := 99) (by decide) (by rw [HLN.out]; omega)
              rw [hz] at hok2
              have HZ := Go.Lib.hid hz
              have TZ := Go.Lib.hid (tag_z L s 99)
              have YZ := Go.Lib.hid (typ_z L s 99)
              have hl60 : L.length < 200 := by rw [HLN.out]; omega
              clear q9 B9 bl rs hz hln hlast
              go_wp2_with fail
              generalize w9.alloc (.cells #[.string s] 9) = w10 at *
              refine (api.tadd (p := 99) (e := evZ s) q10 (with_keeps kR (ssT_keeps _ _ _ _)) B10.size hok hl60 (fun w' G hq _ => by obtain ⟨_, _, _, ⟨rs, _, _⟩, _⟩ := hq; exact ⟨_, _, _, _, _, _, rfl, rs, RdC.nil _⟩) (evZ_ok hs) (by show 1 ≤ 100; decide) (by decide)).mono ?_
              rintro e w11 ⟨rfl, p11, b11⟩
              rw [HZ.out] at p11
              have B11 := B10.trans b11
              have q11 := pair_first (pair_impL (api.swap _ _ _ _) p11)
              clear q10 B10 b11 p11
              go_wp2_with fail
              refine (api.ttag (t := s) q11 kR hok hs).mono ?_
              rintro e w12 ⟨C12, m12, c12, rfl, r12, p12, b12⟩
              have B12 := below_chain B11 b12
              have r8 := pair_ri1 p12
              clear q11 B11 b12
              go_wp2_with fail
              refine (refInts_any _ _ _ _ _ _ _ w12 r12 r8).mono ?_
              rintro e w13 ⟨rfl, q13, rfl⟩
              have b13 := bel_dn (Below.refl w12.heap.size w12) q13
              generalize w12.drewN q13 = w13 at *
              have B13 := below_chain B12 b13
              have p13 := p12.below (api.tkeeps _ _ _ _) kR b13
              have hm8 := r8.len
              have q14 := pair_impL (api.swap _ _ _ _) p13
              clear B12 b13 p12 p13 r12
              go_wp2_with fail
              refine (api.ttag (t := s) q14 kR hok2 hs).mono ?_
              rintro e w15 ⟨C15, m15, c15, rfl, r15, p15, b15⟩
              rw [TZ.out] at r15
              obtain rfl : m15 = m8 + 1 := by rw [← r15.len, List.length_append, hm8]; rfl
              have B15 := below_chain B13 b15
              have q15 := pair_impL (api.swap _ _ _ _) p15
              have n8 : IntKind.i64.wrap ((m8 : Int) + 1) = (m8 : Int) + 1 := IntWalk.i64_in _ (by omega)
              clear q14 B13 b15 p15 r15 r8 hm8
              go_wp2_with fail
              refine (api.ttyp (t := tZ) q15 kR hok (by decide)).mono ?_
              rintro e w16 ⟨C16, m16, c16, rfl, r16, p16, b16⟩
              have B16 := below_chain B15 b16
              have q16 := pair_impL (api.swap _ _ _ _) p16
              have hm16 := r16.len
              have hm16' : m16 ≤ 60 := by have := LT.out tZ; omega
              clear q15 B15 b16 p16 r16
              go_wp2_with fail
              refine (api.ttyp (t := tZ) q16 kR hok2 (by decide)).mono ?_
              rintro e w17 ⟨C17, m17, c17, rfl, r17, p17, b17⟩
              rw [YZ.out] at r17
              obtain rfl : m17 = m16 + 1 := by rw [← r17.len, List.length_append, hm16]; rfl
              have B17 := below_chain B16 b17
              have n16 : IntKind.i64.wrap (((m16 + 1 : Nat) : Int) - 1) = (m16 : Int) := by rw [IntWalk.i64_in _ (by omega)]; omega
              have n16' : IntKind.i64.wrap (m16 : Int) = (m16 : Int) := IntWalk.i64_in _ (by omega)
              clear q16 B16 b17 p17 r17 hm16
              go_wp2_with fail
              go_ret
              exact ⟨by simp, B17⟩
end

end Go.Proofs.Ytppdljkfhoekpaa.PoWalk

/-
  Contracts of the document's answers of layer 13: the lists: Add.
-/
namespace Go.Proofs.Ytppdljkfhoekpaa.PoWalk
open Go.Proofs.Ytppdljkfhoekpaa.HeldAt Go.RowKit Go.Proofs.Ytppdljkfhoekpaa.MemRow Go.Proofs.Ytppdljkfhoekpaa.Ev Go.Proofs.Ytppdljkfhoekpaa.NameMath Go.Proofs.Ytppdljkfhoekpaa.NameWalk Go.Proofs.Ytppdljkfhoekpaa.EvWalk Go.Proofs.Ytppdljkfhoekpaa.NumMem Go.Proofs.Ytppdljkfhoekpaa.SmWalk Go.Proofs.Ytppdljkfhoekpaa.Qu Go.Proofs.Ytppdljkfhoekpaa.QuWalk Go.Proofs.Ytppdljkfhoekpaa.DkWalk

theorem event_info : (Try.prog.info? 42).map (fun i => (i.zero, i.size, i.bytes)) = some (some (.agg #[.string ⟨#[]⟩, .string ⟨#[]⟩, .slice none 0 0, .slice none 0 0]), 4, 80) := by kernel_rfl
theorem last_pos {L : Ls} (h : 0 < L.length) : (L.map (·.2)).getD (L.length - 1) 0 = lastL L := by
  rcases List.eq_nil_or_concat L with rfl | ⟨M, y, rfl⟩
  · cases h
  · rw [List.concat_eq_append, lastL_snoc]
    simp [List.getD]
theorem set_far {w : World} {g k i : Nat} {v : Value} (h : k ≠ g) : (w.setCell ⟨g, i, none⟩ v).heap[k]? = w.heap[k]? := by
  have : g ≠ k := fun e => h e.symm
  simp [World.setCell, Array.getElem?_modify, this]
theorem set_keep {k : Nat} {w : World} {A : Option Addr} {n cap g : Nat} {cs : List Value} (h : RdC k w A n cap cs) (hA : ∀ a, A = some a → a.block ≠ g) (i : Nat) (v : Value) : RdC k (w.setCell ⟨g, i, none⟩ v) A n cap cs := rdc_keep h fun a ha => set_far (hA a ha)
theorem ch_set {F : Nat → Prop} {w w1 : World} {g : Nat} (h : Ch F w w1) (hg : F g) (i : Nat) (v : Value) : Ch F w (w1.setCell ⟨g, i, none⟩ v) :=
  ⟨h.os, h.tape, h.output, by simpa [World.setCell] using h.size, fun k hk hn => (set_far (fun e => hn (by rw [e]; exact hg))).trans (h.block k hk hn)⟩
set_option maxHeartbeats 16000000 in
set_option maxRecDepth 100000 in
theorem refAdd_any {W0 w : World} {base : Nat} {g : Nat} {L : Ls} {Q : Thing} {T F : Option Addr} {nT cT nF cF : Nat} {e : Ev} {p : Int} (hp : Pair base w (LsT W0 g L) Q) (kq : Keeps Q) (hb : base ≤ w.heap.size) (hT : RdS W0 T nT cT e.tags) (hF : RdF W0 F nF cF e.fs) (hl : L.length < 200) :
    Calls Try.prog 20 #[.pointer (some ⟨g, 0, none⟩), .agg #[.string e.s, .string e.t, .slice T nT cT, .slice F nF cF], .int .i64 p] w fun r w' => r = .returned (.int .i64 (addL L e p).1) ∧ Pair base w' (LsT W0 g (addL L e p).2) Q ∧ Below base w w' := by
  have bx := (Below.refl w.heap.size w).alloc (Nat.le_refl _) (.cells #[.string e.s, .string e.t, .slice T nT cT, .slice F nF cF] 42)
  have tx := heap_alloc_new w (.cells #[.string e.s, .string e.t, .slice T nT cT, .slice F nF cF] 42)
  have p1 := hp.below (lsT_keeps _ _ _) kq bx
  have hgb : g ≠ w.heap.size := by
    obtain ⟨F1, G1, ⟨_, _, _, _, _, _, _, _, _, _, hg, _, _, hlt⟩, _⟩ := hp
    have := hlt g hg
    omega
  generalize hR : addL L e p = R
  have HR := Go.Lib.hid hR
  clear hR
  have B1 := ch_below (Below.refl base w) (Ch.of_below (F := fun _ => False) bx) (fun _ h => h.elim) hb
  go_enter Try.func20, Try.ntmps20
  go_upto_region 1 with (fail)
  generalize w.alloc (.cells #[.string e.s, .string e.t, .slice T nT cT, .slice F nF cF] 42) = w1 at *
  have hw1 : w.heap.size < w1.heap.size := (Array.getElem?_eq_some_iff.1 tx).1
  have HB0 := Go.Lib.hid (fun (w' : World) (b : Below w1.heap.size w1 w') => B1.trans (ch_below (Below.refl base w1) (Ch.of_below (F := fun _ => False) b) (fun _ h => h.elim) (Nat.le_trans hb (Nat.le_of_lt hw1))))
  have hb1 : base ≤ w1.heap.size := Nat.le_trans hb (Nat.le_of_lt hw1)
  generalize w.heap.size = gb at *
  have p1' := p1
  obtain ⟨F1, G1, ⟨A, n, c, B, d, cs, hh, rE, hcs, rI, hg, hA, hBk, hlt⟩, hqG, f1, f2, f3⟩ := p1'
  have HG := Go.Lib.hid (⟨hh, hg, hA, hBk, hlt, hqG, f1, f2, f3⟩ : _ ∧ _ ∧ _ ∧ _ ∧ _ ∧ _ ∧ _ ∧ _ ∧ _)
  clear hg hA hBk hlt hqG f1 f2 f3
  have hn : L.length = n := by have := rI.len; rw [List.length_map] at this; exact this
  have hn2 : n < 200 := by omega
  have kE : w1.cell? ⟨g, 0, none⟩ = some (.slice A n c) := by rw [cell_of_row w1 g 0 _ _ _ hh]; rfl
  have kI : w1.cell? ⟨g, 1, none⟩ = some (.slice B n d) := by rw [cell_of_row w1 g 1 _ _ _ hh]; rfl
  have fE : w1.frozen? ⟨g, 0, none⟩ = false := by simp [World.frozen?, hh]
  have e0 : w1.cell? ⟨gb, 0, none⟩ = some (.string e.s) := by rw [cell_of_row w1 gb 0 _ _ _ tx]; rfl
  have e1 : w1.cell? ⟨gb, 1, none⟩ = some (.string e.t) := by rw [cell_of_row w1 gb 1 _ _ _ tx]; rfl
  have e2 : w1.cell? ⟨gb, 2, none⟩ = some (.slice T nT cT) := by rw [cell_of_row w1 gb 2 _ _ _ tx]; rfl
  have e3 : w1.cell? ⟨gb, 3, none⟩ = some (.slice F nF cF) := by rw [cell_of_row w1 gb 3 _ _ _ tx]; rfl
  have HLP := Go.Lib.hid (fun (h : 0 < n) => show (L.map (·.2)).getD (n - 1) 0 = lastL L by rw [← hn]; exact last_pos (by omega))
  have HN := Go.Lib.hid hn
  clear hp bx tx hb B1 hl hn
  go_cut [32] (fun v wx => v = .bool (decide (p < 1 ∨ p ≤ lastL L)) ∧ ∃ q, wx = w1.drewN q)
  case first =>
    by_cases h1 : p < 1
    · have hd : decide (p < 1 ∨ p ≤ lastL L) = true := decide_eq_true (.inl h1)
      have HD := Go.Lib.hid hd
      clear hd
      go_quiet (fail)
      go_wp2_with fail
      go_meet
      exact ⟨by rw [HD.out], _, rfl⟩
    · by_cases h0 : 0 < n
      · have i0 : (0 : Int) < n := by omega
        have n1 : IntKind.i64.wrap ((n : Int) - 1) = ((n - 1 : Nat) : Int) := by rw [IntWalk.i64_in _ (by omega)]; omega
        obtain ⟨bi, oi, rfl, _, ki⟩ := rI.at_ h0
        have y1 := ki (n - 1) (by omega)
        rw [HLP.out h0] at y1
        have j1 : ((n - 1 : Nat) : Int) < n := by omega
        clear ki
        by_cases h2 : p ≤ lastL L
        · have hd : decide (p < 1 ∨ p ≤ lastL L) = true := decide_eq_true (.inr h2)
          have HD := Go.Lib.hid hd
          clear hd
          generalize lastL L = z at *
          generalize n - 1 = t at *
          go_quiet (fail)
          go_wp2_with fail
          go_meet
          exact ⟨by rw [HD.out], _, rfl⟩
        · have hd : decide (p < 1 ∨ p ≤ lastL L) = false := decide_eq_false (fun h => h.elim h1 h2)
          have HD := Go.Lib.hid hd
          clear hd
          generalize lastL L = z at *
          generalize n - 1 = t at *
          go_quiet (fail)
          go_wp2_with fail
          go_meet
          exact ⟨by rw [HD.out], _, rfl⟩
      · have i0 : ¬ (0 : Int) < n := by omega
        have hz : lastL L = 0 := by
          have : L = [] := List.eq_nil_of_length_eq_zero (by have := HN.out; omega)
          rw [this]; rfl
        have hd : decide (p < 1 ∨ p ≤ lastL L) = false := decide_eq_false (fun h => h.elim h1 (fun h => by omega))
        have HD := Go.Lib.hid hd
        clear hd hz
        go_quiet (fail)
        go_wp2_with fail
        go_meet
        exact ⟨by rw [HD.out], _, rfl⟩
  case rest =>
    obtain ⟨rfl, q, rfl⟩ := hcut
    have bq : Below w1.heap.size w1 (w1.drewN q) := bel_dn (Below.refl _ _) q
    have B2 := HB0.out _ bq
    have p2 := p1.below (lsT_keeps _ _ _) kq bq
    by_cases hc : p < 1 ∨ p ≤ lastL L
    · rw [show decide (p < 1 ∨ p ≤ lastL L) = true from decide_eq_true hc]
      have e : R = (1, L) := by rw [← HR.out]; unfold addL; rw [if_pos hc]
      subst e
      clear hc
      go_wp2_with fail
      go_ret
      exact ⟨rfl, p2, B2⟩
    · rw [show decide (p < 1 ∨ p ≤ lastL L) = false from decide_eq_false hc]
      have eR : R = (0, L ++ [(e, p)]) := by rw [← HR.out]; unfold addL; rw [if_neg hc]
      subst eR
      have rE := RdC.below rE bq
      have rI := rdi_below rI bq
      have kE := bcell bq kE
      have kI := bcell bq kI
      have fE : (w1.drewN q).frozen? ⟨g, 0, none⟩ = false := fE
      have e0 := bcell bq e0
      have e1 := bcell bq e1
      have e2 := bcell bq e2
      have e3 := bcell bq e3
      have hb2 : base ≤ (w1.drewN q).heap.size := hb1
      have hone : ∀ v ∈ ([.string e.s, .string e.t, .slice T nT cT, .slice F nF cF] : List Value), v.oneCell' = true := by
        intro v hv
        simp only [List.mem_cons, List.not_mem_nil, or_false] at hv
        rcases hv with rfl | rfl | rfl | rfl <;> rfl
      have HBQ := Go.Lib.hid bq
      have hgw : w1.heap.size = (w1.drewN q).heap.size := rfl
      have HGW := Go.Lib.hid hgw
      clear hc HR bq p1 HB0 hh HLP hb1 hgw
      generalize w1.drewN q = w2 at *
      go_upto_region 3 with (fail)
      go_cut [42] (fun v wx => ∃ A9 c9 w9, v = .slice A9 (n + 1) c9 ∧ wx = w9.setCell ⟨g, 0, none⟩ (.slice A9 (n + 1) c9) ∧ OwnC 4 w9 w2.heap.size 42 A9 (n + 1) c9 (cs ++ [.string e.s, .string e.t, .slice T nT cT, .slice F nF cF]) ∧ Below w2.heap.size w2 w9)
      case first =>
        have B2d : Below w2.heap.size w2 w2.drew := bel_dn (Below.refl _ _) 1
        have HSZ : Hid (w2.drew.heap.size = w2.heap.size) := Go.Lib.hid rfl
        have bd0 : Below w2.drew.heap.size w2.drew w2.drew := Below.refl _ _
        have rE : RdC 4 w2.drew A n c cs := RdC.drew rE
        have kE : w2.drew.cell? ⟨g, 0, none⟩ = some (.slice A n c) := kE
        have fE : w2.drew.frozen? ⟨g, 0, none⟩ = false := fE
        have e0 : w2.drew.cell? ⟨gb, 0, none⟩ = some (.string e.s) := e0
        have e1 : w2.drew.cell? ⟨gb, 1, none⟩ = some (.string e.t) := e1
        have e2 : w2.drew.cell? ⟨gb, 2, none⟩ = some (.slice T nT cT) := e2
        have e3 : w2.drew.cell? ⟨gb, 3, none⟩ = some (.slice F nF cF) := e3
        clear p2 B2 rI kI hb2
        refine wp_region_held_drew (S := (fun w' => (w'.cell? ⟨gb, 0, none⟩ = some (.string e.s) ∧ w'.cell? ⟨gb, 1, none⟩ = some (.string e.t)) ∧ w'.cell? ⟨gb, 2, none⟩ = some (.slice T nT cT) ∧ w'.cell? ⟨gb, 3, none⟩ = some (.slice F nF cF))) (by kernel_rfl) ?_ (fun hHeld => ?_)
        · exact ⟨⟨e0, e1⟩, e2, e3⟩
        generalize w2.drew = wd at *
        refine take_at (i := 0) (d := 33) (v := ?_) rfl rfl (by kernel_rfl) (by kernel_rfl) (by kernel_rfl) (fun _ _ _ h => h) (Or.inl ⟨by rfl, ?hy⟩) (by assumption) ?_
        case hy => (intro wS hSw; (try dsimp only at hSw); first | (go_simp; done) | (go_simp; with_reducible rfl))
        simp only [Act.put, List.setIfInBounds_toArray, List.set_cons_zero, List.set_cons_succ]
        refine take_at (i := 2) (d := 35) (v := ?_) rfl rfl (by kernel_rfl) (by kernel_rfl) (by kernel_rfl) (fun _ _ _ h => h) (Or.inl ⟨by rfl, ?hy⟩) (by assumption) ?_
        case hy => (intro wS hSw; (try dsimp only at hSw); first | (go_simp; done) | (go_simp; with_reducible rfl))
        simp only [Act.put, List.setIfInBounds_toArray, List.set_cons_zero, List.set_cons_succ]
        refine take_at (i := 3) (d := 36) (v := ?_) rfl rfl (by kernel_rfl) (by kernel_rfl) (by kernel_rfl) (fun _ _ _ h => h) (Or.inl ⟨by rfl, ?hy⟩) (by assumption) ?_
        case hy => (intro wS hSw; (try dsimp only at hSw); first | (go_simp; done) | (go_simp; with_reducible rfl))
        simp only [Act.put, List.setIfInBounds_toArray, List.set_cons_zero, List.set_cons_succ]
        refine take_at (i := 4) (d := 37) (v := ?_) rfl rfl (by kernel_rfl) (by kernel_rfl) (by kernel_rfl) (fun _ _ _ h => h) (Or.inl ⟨by rfl, ?hy⟩) (by assumption) ?_
        case hy => (intro wS hSw; (try dsimp only at hSw); first | (go_simp; done) | (go_simp; with_reducible rfl))
        simp only [Act.put, List.setIfInBounds_toArray, List.set_cons_zero, List.set_cons_succ]
        refine take_at (i := 7) (d := 40) (v := ?_) rfl rfl (by kernel_rfl) (by kernel_rfl) (by kernel_rfl) (fun _ _ _ h => h) (Or.inl ⟨by rfl, ?hy⟩) (by assumption) ?_
        case hy => (intro wS hSw; (try dsimp only at hSw); first | (go_simp; done) | (go_simp; with_reducible rfl))
        simp only [Act.put, List.setIfInBounds_toArray, List.set_cons_zero, List.set_cons_succ]
        refine wpAnyH_ready (rs := [1, 5, 8]) (by kernel_rfl) (by simp) ?_
        refine AllReadyH.cons rfl (fun K0 hK0 => ?_) ?_
        · skip
          have bs0 := (Below.refl wd.heap.size wd).alloc (Nat.le_refl _) (.cells #[] 42)
          have es0 : wd.heap.size = wd.heap.size := rfl
          have b0 := below_chain bd0 bs0
          have o0 : OwnC 4 (wd.alloc (.cells #[] 42)) wd.heap.size 42 (some ⟨wd.heap.size, 0, none⟩) 0 0 [] := by rw [← es0]; exact OwnC.empty wd 42 bd0.size
          go_simp
          refine hK0.out _ _ ?_ (fun hH0 => ?_)
          · exact ⟨⟨bcell b0 e0, bcell b0 e1⟩, bcell b0 e2, bcell b0 e3⟩
          clear hK0 K0
          refine wpAnyH_ready (rs := [5, 8]) (by kernel_rfl) (by simp) ?_
          refine AllReadyH.cons rfl (fun K1 hK1 => ?_) ?_
          · skip
            have kx1 := bcell b0 kE
            go_simp
            refine hK1.out _ _ ?_ (fun hH1 => ?_)
            · exact ⟨⟨bcell b0 e0, bcell b0 e1⟩, bcell b0 e2, bcell b0 e3⟩
            clear hK1 K1
            refine wpAnyH_ready (rs := [6, 8]) (by kernel_rfl) (by simp) ?_
            refine AllReadyH.cons rfl (fun K2 hK2 => ?_) ?_
            · skip
              refine step_append_cells (by rfl) (.tmp 34) (.tmp 38) 34 rfl 42 (.agg #[.string ⟨#[]⟩, .string ⟨#[]⟩, .slice none 0 0, .slice none 0 0]) 80 Try.underlying34 event_info rfl (by decide) rfl rfl o0 (RdC.below rE b0) (EvsR.one _ _ hcs) (by unfold maxLen; omega) (by omega) b0.size ?_
              intro A2 c2 w2 o2 g2 i2
              have b2 := below_grown_own o0 b0 g2 b0.size
              rw [Nat.zero_add, List.nil_append] at o2
              (try go_simp)
              refine hK2.out _ _ ?_ (fun hH2 => ?_)
              · exact ⟨⟨bcell b2 e0, bcell b2 e1⟩, bcell b2 e2, bcell b2 e3⟩
              clear hK2 K2
              refine wpAnyH_ready (rs := [8]) (by kernel_rfl) (by simp) ?_
              refine AllReadyH.cons rfl (fun K3 hK3 => ?_) AllReadyH.nil
              have bs3 := (Below.refl w2.heap.size w2).alloc (Nat.le_refl _) (.cells #[.string e.s, .string e.t, .slice T nT cT, .slice F nF cF] 42)
              have es3 : w2.heap.size = w2.heap.size := rfl
              have b3 := below_chain b2 bs3
              have d3 : RdC 4 (w2.alloc (.cells #[.string e.s, .string e.t, .slice T nT cT, .slice F nF cF] 42)) (some ⟨w2.heap.size, 0, none⟩) 1 1 [.string e.s, .string e.t, .slice T nT cT, .slice F nF cF] := by rw [← es3]; exact RdC.new w2 42 [.string e.s, .string e.t, .slice T nT cT, .slice F nF cF] rfl (by decide)
              have o3 := OwnC.below o2 bs3
              go_simp
              refine hK3.out _ _ ?_ (fun hH3 => ?_)
              · exact ⟨⟨bcell b3 e0, bcell b3 e1⟩, bcell b3 e2, bcell b3 e3⟩
              clear hK3 K3
              refine wpAnyH_ready (rs := [9]) (by kernel_rfl) (by simp) ?_
              refine AllReadyH.cons rfl (fun K4 hK4 => ?_) AllReadyH.nil
              refine step_append_cells (by rfl) (.tmp 39) (.tmp 41) 34 rfl 42 (.agg #[.string ⟨#[]⟩, .string ⟨#[]⟩, .slice none 0 0, .slice none 0 0]) 80 Try.underlying34 event_info rfl (by decide) rfl rfl o3 d3 hone (by unfold maxLen; omega) (by omega) b3.size ?_
              intro A4 c4 w4 o4 g4 i4
              have b4 := below_grown_own o3 b3 g4 b3.size
              (try go_simp)
              refine hK4.out _ _ ?_ (fun hH4 => ?_)
              · exact ⟨⟨bcell b4 e0, bcell b4 e1⟩, bcell b4 e2, bcell b4 e3⟩
              clear hK4 K4
              refine take_at (i := 10) (d := 43) (v := ?_) rfl rfl (by kernel_rfl) (by kernel_rfl) (by kernel_rfl) (fun _ _ _ h => h) (Or.inl ⟨by rfl, ?hy⟩) (by assumption) ?_
              case hy => (intro wS hSw; (try dsimp only at hSw); first | (go_simp; done) | (go_simp; with_reducible rfl))
              simp only [Act.put, List.setIfInBounds_toArray, List.set_cons_zero, List.set_cons_succ]
              refine take_at (i := 11) (d := 44) (v := ?_) rfl rfl (by kernel_rfl) (by kernel_rfl) (by kernel_rfl) (fun _ _ _ h => h) (Or.inl ⟨by rfl, ?hy⟩) (by assumption) ?_
              case hy => (intro wS hSw; (try dsimp only at hSw); first | (go_simp; done) | (go_simp; with_reducible rfl))
              simp only [Act.put, List.setIfInBounds_toArray, List.set_cons_zero, List.set_cons_succ]
              refine wpAnyH_ready (rs := [12]) (by kernel_rfl) (by simp) ?_
              refine AllReadyH.cons rfl (fun K5 hK5 => ?_) AllReadyH.nil
              have kx5 := bcell b4 kE
              have fx5 : w4.frozen? ⟨g, 0, none⟩ = false := (b4.frozen (World.block_lt_of_cell? wd ⟨g, 0, none⟩ kE)).trans fE
              go_simp
              refine hK5.out _ _ ?_ (fun hH5 => ?_)
              · exact ⟨⟨(World.cell?_setCell_far _ _ _ _ hgb).trans (bcell b4 e0), (World.cell?_setCell_far _ _ _ _ hgb).trans (bcell b4 e1)⟩, (World.cell?_setCell_far _ _ _ _ hgb).trans (bcell b4 e2), (World.cell?_setCell_far _ _ _ _ hgb).trans (bcell b4 e3)⟩
              clear hK5 K5
              refine wpAnyH_done (by kernel_rfl) ?_ _
              go_wp2_with fail
              go_meet
              exact ⟨_, _, _, rfl, rfl, by rw [← HSZ.out]; exact o4, below_chain B2d b4⟩
            refine AllReadyH.cons rfl (fun K6 hK6 => ?_) AllReadyH.nil
            have bs6 := (Below.refl (wd.alloc (.cells #[] 42)).heap.size (wd.alloc (.cells #[] 42))).alloc (Nat.le_refl _) (.cells #[.string e.s, .string e.t, .slice T nT cT, .slice F nF cF] 42)
            have es6 : (wd.alloc (.cells #[] 42)).heap.size = wd.heap.size + 1 := by simp only [World.alloc, Array.size_push]
            have b6 := below_chain b0 bs6
            have d6 : RdC 4 ((wd.alloc (.cells #[] 42)).alloc (.cells #[.string e.s, .string e.t, .slice T nT cT, .slice F nF cF] 42)) (some ⟨wd.heap.size + 1, 0, none⟩) 1 1 [.string e.s, .string e.t, .slice T nT cT, .slice F nF cF] := by rw [← es6]; exact RdC.new (wd.alloc (.cells #[] 42)) 42 [.string e.s, .string e.t, .slice T nT cT, .slice F nF cF] rfl (by decide)
            have o6 := OwnC.below o0 bs6
            go_simp
            refine hK6.out _ _ ?_ (fun hH6 => ?_)
            · exact ⟨⟨bcell b6 e0, bcell b6 e1⟩, bcell b6 e2, bcell b6 e3⟩
            clear hK6 K6
            refine wpAnyH_ready (rs := [6]) (by kernel_rfl) (by simp) ?_
            refine AllReadyH.cons rfl (fun K7 hK7 => ?_) AllReadyH.nil
            refine step_append_cells (by rfl) (.tmp 34) (.tmp 38) 34 rfl 42 (.agg #[.string ⟨#[]⟩, .string ⟨#[]⟩, .slice none 0 0, .slice none 0 0]) 80 Try.underlying34 event_info rfl (by decide) rfl rfl o6 (RdC.below rE b6) (EvsR.one _ _ hcs) (by unfold maxLen; omega) (by omega) b6.size ?_
            intro A7 c7 w7 o7 g7 i7
            have b7 := below_grown_own o6 b6 g7 b6.size
            rw [Nat.zero_add, List.nil_append] at o7
            have d7 := RdC.grown d6 g7 (fun b o h => by injection h with h; injection h with h; rw [← h]; intro h2; injection h2 with h2; dsimp only at h2; omega)
            (try go_simp)
            refine hK7.out _ _ ?_ (fun hH7 => ?_)
            · exact ⟨⟨bcell b7 e0, bcell b7 e1⟩, bcell b7 e2, bcell b7 e3⟩
            clear hK7 K7
            refine wpAnyH_ready (rs := [9]) (by kernel_rfl) (by simp) ?_
            refine AllReadyH.cons rfl (fun K8 hK8 => ?_) AllReadyH.nil
            refine step_append_cells (by rfl) (.tmp 39) (.tmp 41) 34 rfl 42 (.agg #[.string ⟨#[]⟩, .string ⟨#[]⟩, .slice none 0 0, .slice none 0 0]) 80 Try.underlying34 event_info rfl (by decide) rfl rfl o7 d7 hone (by unfold maxLen; omega) (by omega) b7.size ?_
            intro A8 c8 w8 o8 g8 i8
            have b8 := below_grown_own o7 b7 g8 b7.size
            (try go_simp)
            refine hK8.out _ _ ?_ (fun hH8 => ?_)
            · exact ⟨⟨bcell b8 e0, bcell b8 e1⟩, bcell b8 e2, bcell b8 e3⟩
            clear hK8 K8
            refine take_at (i := 10) (d := 43) (v := ?_) rfl rfl (by kernel_rfl) (by kernel_rfl) (by kernel_rfl) (fun _ _ _ h => h) (Or.inl ⟨by rfl, ?hy⟩) (by assumption) ?_
            case hy => (intro wS hSw; (try dsimp only at hSw); first | (go_simp; done) | (go_simp; with_reducible rfl))
            simp only [Act.put, List.setIfInBounds_toArray, List.set_cons_zero, List.set_cons_succ]
            refine take_at (i := 11) (d := 44) (v := ?_) rfl rfl (by kernel_rfl) (by kernel_rfl) (by kernel_rfl) (fun _ _ _ h => h) (Or.inl ⟨by rfl, ?hy⟩) (by assumption) ?_
            case hy => (intro wS hSw; (try dsimp only at hSw); first | (go_simp; done) | (go_simp; with_reducible rfl))
            simp only [Act.put, List.setIfInBounds_toArray, List.set_cons_zero, List.set_cons_succ]
            refine wpAnyH_ready (rs := [12]) (by kernel_rfl) (by simp) ?_
            refine AllReadyH.cons rfl (fun K9 hK9 => ?_) AllReadyH.nil
            have kx9 := bcell b8 kE
            have fx9 : w8.frozen? ⟨g, 0, none⟩ = false := (b8.frozen (World.block_lt_of_cell? wd ⟨g, 0, none⟩ kE)).trans fE
            go_simp
            refine hK9.out _ _ ?_ (fun hH9 => ?_)
            · exact ⟨⟨(World.cell?_setCell_far _ _ _ _ hgb).trans (bcell b8 e0), (World.cell?_setCell_far _ _ _ _ hgb).trans (bcell b8 e1)⟩, (World.cell?_setCell_far _ _ _ _ hgb).trans (bcell b8 e2), (World.cell?_setCell_far _ _ _ _ hgb).trans (bcell b8 e3)⟩
            clear hK9 K9
            refine wpAnyH_done (by kernel_rfl) ?_ _
            go_wp2_with fail
            go_meet
            exact ⟨_, _, _, rfl, rfl, by rw [← HSZ.out]; exact o8, below_chain B2d b8⟩
          refine AllReadyH.cons rfl (fun K10 hK10 => ?_) AllReadyH.nil
          have bs10 := (Below.refl (wd.alloc (.cells #[] 42)).heap.size (wd.alloc (.cells #[] 42))).alloc (Nat.le_refl _) (.cells #[.string e.s, .string e.t, .slice T nT cT, .slice F nF cF] 42)
          have es10 : (wd.alloc (.cells #[] 42)).heap.size = wd.heap.size + 1 := by simp only [World.alloc, Array.size_push]
          have b10 := below_chain b0 bs10
          have d10 : RdC 4 ((wd.alloc (.cells #[] 42)).alloc (.cells #[.string e.s, .string e.t, .slice T nT cT, .slice F nF cF] 42)) (some ⟨wd.heap.size + 1, 0, none⟩) 1 1 [.string e.s, .string e.t, .slice T nT cT, .slice F nF cF] := by rw [← es10]; exact RdC.new (wd.alloc (.cells #[] 42)) 42 [.string e.s, .string e.t, .slice T nT cT, .slice F nF cF] rfl (by decide)
          have o10 := OwnC.below o0 bs10
          go_simp
          refine hK10.out _ _ ?_ (fun hH10 => ?_)
          · exact ⟨⟨bcell b10 e0, bcell b10 e1⟩, bcell b10 e2, bcell b10 e3⟩
          clear hK10 K10
          refine wpAnyH_ready (rs := [5]) (by kernel_rfl) (by simp) ?_
          refine AllReadyH.cons rfl (fun K11 hK11 => ?_) AllReadyH.nil
          have kx11 := bcell b10 kE
          go_simp
          refine hK11.out _ _ ?_ (fun hH11 => ?_)
          · exact ⟨⟨bcell b10 e0, bcell b10 e1⟩, bcell b10 e2, bcell b10 e3⟩
          clear hK11 K11
          refine wpAnyH_ready (rs := [6]) (by kernel_rfl) (by simp) ?_
          refine AllReadyH.cons rfl (fun K12 hK12 => ?_) AllReadyH.nil
          refine step_append_cells (by rfl) (.tmp 34) (.tmp 38) 34 rfl 42 (.agg #[.string ⟨#[]⟩, .string ⟨#[]⟩, .slice none 0 0, .slice none 0 0]) 80 Try.underlying34 event_info rfl (by decide) rfl rfl o10 (RdC.below rE b10) (EvsR.one _ _ hcs) (by unfold maxLen; omega) (by omega) b10.size ?_
          intro A12 c12 w12 o12 g12 i12
          have b12 := below_grown_own o10 b10 g12 b10.size
          rw [Nat.zero_add, List.nil_append] at o12
          have d12 := RdC.grown d10 g12 (fun b o h => by injection h with h; injection h with h; rw [← h]; intro h2; injection h2 with h2; dsimp only at h2; omega)
          (try go_simp)
          refine hK12.out _ _ ?_ (fun hH12 => ?_)
          · exact ⟨⟨bcell b12 e0, bcell b12 e1⟩, bcell b12 e2, bcell b12 e3⟩
          clear hK12 K12
          refine wpAnyH_ready (rs := [9]) (by kernel_rfl) (by simp) ?_
          refine AllReadyH.cons rfl (fun K13 hK13 => ?_) AllReadyH.nil
          refine step_append_cells (by rfl) (.tmp 39) (.tmp 41) 34 rfl 42 (.agg #[.string ⟨#[]⟩, .string ⟨#[]⟩, .slice none 0 0, .slice none 0 0]) 80 Try.underlying34 event_info rfl (by decide) rfl rfl o12 d12 hone (by unfold maxLen; omega) (by omega) b12.size ?_
          intro A13 c13 w13 o13 g13 i13
          have b13 := below_grown_own o12 b12 g13 b12.size
          (try go_simp)
          refine hK13.out _ _ ?_ (fun hH13 => ?_)
          · exact ⟨⟨bcell b13 e0, bcell b13 e1⟩, bcell b13 e2, bcell b13 e3⟩
          clear hK13 K13
          refine take_at (i := 10) (d := 43) (v := ?_) rfl rfl (by kernel_rfl) (by kernel_rfl) (by kernel_rfl) (fun _ _ _ h => h) (Or.inl ⟨by rfl, ?hy⟩) (by assumption) ?_
          case hy => (intro wS hSw; (try dsimp only at hSw); first | (go_simp; done) | (go_simp; with_reducible rfl))
          simp only [Act.put, List.setIfInBounds_toArray, List.set_cons_zero, List.set_cons_succ]
          refine take_at (i := 11) (d := 44) (v := ?_) rfl rfl (by kernel_rfl) (by kernel_rfl) (by kernel_rfl) (fun _ _ _ h => h) (Or.inl ⟨by rfl, ?hy⟩) (by assumption) ?_
          case hy => (intro wS hSw; (try dsimp only at hSw); first | (go_simp; done) | (go_simp; with_reducible rfl))
          simp only [Act.put, List.setIfInBounds_toArray, List.set_cons_zero, List.set_cons_succ]
          refine wpAnyH_ready (rs := [12]) (by kernel_rfl) (by simp) ?_
          refine AllReadyH.cons rfl (fun K14 hK14 => ?_) AllReadyH.nil
          have kx14 := bcell b13 kE
          have fx14 : w13.frozen? ⟨g, 0, none⟩ = false := (b13.frozen (World.block_lt_of_cell? wd ⟨g, 0, none⟩ kE)).trans fE
          go_simp
          refine hK14.out _ _ ?_ (fun hH14 => ?_)
          · exact ⟨⟨(World.cell?_setCell_far _ _ _ _ hgb).trans (bcell b13 e0), (World.cell?_setCell_far _ _ _ _ hgb).trans (bcell b13 e1)⟩, (World.cell?_setCell_far _ _ _ _ hgb).trans (bcell b13 e2), (World.cell?_setCell_far _ _ _ _ hgb).trans (bcell b13 e3)⟩
          clear hK14 K14
          refine wpAnyH_done (by kernel_rfl) ?_ _
          go_wp2_with fail
          go_meet
          exact ⟨_, _, _, rfl, rfl, by rw [← HSZ.out]; exact o13, below_chain B2d b13⟩
        refine AllReadyH.cons rfl (fun K15 hK15 => ?_) ?_
        · skip
          have kx15 := bcell bd0 kE
          go_simp
          refine hK15.out _ _ ?_ (fun hH15 => ?_)
          · exact ⟨⟨bcell bd0 e0, bcell bd0 e1⟩, bcell bd0 e2, bcell bd0 e3⟩
          clear hK15 K15
          refine wpAnyH_ready (rs := [1, 8]) (by kernel_rfl) (by simp) ?_
          refine AllReadyH.cons rfl (fun K16 hK16 => ?_) ?_
          · skip
            have bs16 := (Below.refl wd.heap.size wd).alloc (Nat.le_refl _) (.cells #[] 42)
            have es16 : wd.heap.size = wd.heap.size := rfl
            have b16 := below_chain bd0 bs16
            have o16 : OwnC 4 (wd.alloc (.cells #[] 42)) wd.heap.size 42 (some ⟨wd.heap.size, 0, none⟩) 0 0 [] := by rw [← es16]; exact OwnC.empty wd 42 bd0.size
            go_simp
            refine hK16.out _ _ ?_ (fun hH16 => ?_)
            · exact ⟨⟨bcell b16 e0, bcell b16 e1⟩, bcell b16 e2, bcell b16 e3⟩
            clear hK16 K16
            refine wpAnyH_ready (rs := [6, 8]) (by kernel_rfl) (by simp) ?_
            refine AllReadyH.cons rfl (fun K17 hK17 => ?_) ?_
            · skip
              refine step_append_cells (by rfl) (.tmp 34) (.tmp 38) 34 rfl 42 (.agg #[.string ⟨#[]⟩, .string ⟨#[]⟩, .slice none 0 0, .slice none 0 0]) 80 Try.underlying34 event_info rfl (by decide) rfl rfl o16 (RdC.below rE b16) (EvsR.one _ _ hcs) (by unfold maxLen; omega) (by omega) b16.size ?_
              intro A17 c17 w17 o17 g17 i17
              have b17 := below_grown_own o16 b16 g17 b16.size
              rw [Nat.zero_add, List.nil_append] at o17
              (try go_simp)
              refine hK17.out _ _ ?_ (fun hH17 => ?_)
              · exact ⟨⟨bcell b17 e0, bcell b17 e1⟩, bcell b17 e2, bcell b17 e3⟩
              clear hK17 K17
              refine wpAnyH_ready (rs := [8]) (by kernel_rfl) (by simp) ?_
              refine AllReadyH.cons rfl (fun K18 hK18 => ?_) AllReadyH.nil
              have bs18 := (Below.refl w17.heap.size w17).alloc (Nat.le_refl _) (.cells #[.string e.s, .string e.t, .slice T nT cT, .slice F nF cF] 42)
              have es18 : w17.heap.size = w17.heap.size := rfl
              have b18 := below_chain b17 bs18
              have d18 : RdC 4 (w17.alloc (.cells #[.string e.s, .string e.t, .slice T nT cT, .slice F nF cF] 42)) (some ⟨w17.heap.size, 0, none⟩) 1 1 [.string e.s, .string e.t, .slice T nT cT, .slice F nF cF] := by rw [← es18]; exact RdC.new w17 42 [.string e.s, .string e.t, .slice T nT cT, .slice F nF cF] rfl (by decide)
              have o18 := OwnC.below o17 bs18
              go_simp
              refine hK18.out _ _ ?_ (fun hH18 => ?_)
              · exact ⟨⟨bcell b18 e0, bcell b18 e1⟩, bcell b18 e2, bcell b18 e3⟩
              clear hK18 K18
              refine wpAnyH_ready (rs := [9]) (by kernel_rfl) (by simp) ?_
              refine AllReadyH.cons rfl (fun K19 hK19 => ?_) AllReadyH.nil
              refine step_append_cells (by rfl) (.tmp 39) (.tmp 41) 34 rfl 42 (.agg #[.string ⟨#[]⟩, .string ⟨#[]⟩, .slice none 0 0, .slice none 0 0]) 80 Try.underlying34 event_info rfl (by decide) rfl rfl o18 d18 hone (by unfold maxLen; omega) (by omega) b18.size ?_
              intro A19 c19 w19 o19 g19 i19
              have b19 := below_grown_own o18 b18 g19 b18.size
              (try go_simp)
              refine hK19.out _ _ ?_ (fun hH19 => ?_)
              · exact ⟨⟨bcell b19 e0, bcell b19 e1⟩, bcell b19 e2, bcell b19 e3⟩
              clear hK19 K19
              refine take_at (i := 10) (d := 43) (v := ?_) rfl rfl (by kernel_rfl) (by kernel_rfl) (by kernel_rfl) (fun _ _ _ h => h) (Or.inl ⟨by rfl, ?hy⟩) (by assumption) ?_
              case hy => (intro wS hSw; (try dsimp only at hSw); first | (go_simp; done) | (go_simp; with_reducible rfl))
              simp only [Act.put, List.setIfInBounds_toArray, List.set_cons_zero, List.set_cons_succ]
              refine take_at (i := 11) (d := 44) (v := ?_) rfl rfl (by kernel_rfl) (by kernel_rfl) (by kernel_rfl) (fun _ _ _ h => h) (Or.inl ⟨by rfl, ?hy⟩) (by assumption) ?_
              case hy => (intro wS hSw; (try dsimp only at hSw); first | (go_simp; done) | (go_simp; with_reducible rfl))
              simp only [Act.put, List.setIfInBounds_toArray, List.set_cons_zero, List.set_cons_succ]
              refine wpAnyH_ready (rs := [12]) (by kernel_rfl) (by simp) ?_
              refine AllReadyH.cons rfl (fun K20 hK20 => ?_) AllReadyH.nil
              have kx20 := bcell b19 kE
              have fx20 : w19.frozen? ⟨g, 0, none⟩ = false := (b19.frozen (World.block_lt_of_cell? wd ⟨g, 0, none⟩ kE)).trans fE
              go_simp
              refine hK20.out _ _ ?_ (fun hH20 => ?_)
              · exact ⟨⟨(World.cell?_setCell_far _ _ _ _ hgb).trans (bcell b19 e0), (World.cell?_setCell_far _ _ _ _ hgb).trans (bcell b19 e1)⟩, (World.cell?_setCell_far _ _ _ _ hgb).trans (bcell b19 e2), (World.cell?_setCell_far _ _ _ _ hgb).trans (bcell b19 e3)⟩
              clear hK20 K20
              refine wpAnyH_done (by kernel_rfl) ?_ _
              go_wp2_with fail
              go_meet
              exact ⟨_, _, _, rfl, rfl, by rw [← HSZ.out]; exact o19, below_chain B2d b19⟩
            refine AllReadyH.cons rfl (fun K21 hK21 => ?_) AllReadyH.nil
            have bs21 := (Below.refl (wd.alloc (.cells #[] 42)).heap.size (wd.alloc (.cells #[] 42))).alloc (Nat.le_refl _) (.cells #[.string e.s, .string e.t, .slice T nT cT, .slice F nF cF] 42)
            have es21 : (wd.alloc (.cells #[] 42)).heap.size = wd.heap.size + 1 := by simp only [World.alloc, Array.size_push]
            have b21 := below_chain b16 bs21
            have d21 : RdC 4 ((wd.alloc (.cells #[] 42)).alloc (.cells #[.string e.s, .string e.t, .slice T nT cT, .slice F nF cF] 42)) (some ⟨wd.heap.size + 1, 0, none⟩) 1 1 [.string e.s, .string e.t, .slice T nT cT, .slice F nF cF] := by rw [← es21]; exact RdC.new (wd.alloc (.cells #[] 42)) 42 [.string e.s, .string e.t, .slice T nT cT, .slice F nF cF] rfl (by decide)
            have o21 := OwnC.below o16 bs21
            go_simp
            refine hK21.out _ _ ?_ (fun hH21 => ?_)
            · exact ⟨⟨bcell b21 e0, bcell b21 e1⟩, bcell b21 e2, bcell b21 e3⟩
            clear hK21 K21
            refine wpAnyH_ready (rs := [6]) (by kernel_rfl) (by simp) ?_
            refine AllReadyH.cons rfl (fun K22 hK22 => ?_) AllReadyH.nil
            refine step_append_cells (by rfl) (.tmp 34) (.tmp 38) 34 rfl 42 (.agg #[.string ⟨#[]⟩, .string ⟨#[]⟩, .slice none 0 0, .slice none 0 0]) 80 Try.underlying34 event_info rfl (by decide) rfl rfl o21 (RdC.below rE b21) (EvsR.one _ _ hcs) (by unfold maxLen; omega) (by omega) b21.size ?_
            intro A22 c22 w22 o22 g22 i22
            have b22 := below_grown_own o21 b21 g22 b21.size
            rw [Nat.zero_add, List.nil_append] at o22
            have d22 := RdC.grown d21 g22 (fun b o h => by injection h with h; injection h with h; rw [← h]; intro h2; injection h2 with h2; dsimp only at h2; omega)
            (try go_simp)
            refine hK22.out _ _ ?_ (fun hH22 => ?_)
            · exact ⟨⟨bcell b22 e0, bcell b22 e1⟩, bcell b22 e2, bcell b22 e3⟩
            clear hK22 K22
            refine wpAnyH_ready (rs := [9]) (by kernel_rfl) (by simp) ?_
            refine AllReadyH.cons rfl (fun K23 hK23 => ?_) AllReadyH.nil
            refine step_append_cells (by rfl) (.tmp 39) (.tmp 41) 34 rfl 42 (.agg #[.string ⟨#[]⟩, .string ⟨#[]⟩, .slice none 0 0, .slice none 0 0]) 80 Try.underlying34 event_info rfl (by decide) rfl rfl o22 d22 hone (by unfold maxLen; omega) (by omega) b22.size ?_
            intro A23 c23 w23 o23 g23 i23
            have b23 := below_grown_own o22 b22 g23 b22.size
            (try go_simp)
            refine hK23.out _ _ ?_ (fun hH23 => ?_)
            · exact ⟨⟨bcell b23 e0, bcell b23 e1⟩, bcell b23 e2, bcell b23 e3⟩
            clear hK23 K23
            refine take_at (i := 10) (d := 43) (v := ?_) rfl rfl (by kernel_rfl) (by kernel_rfl) (by kernel_rfl) (fun _ _ _ h => h) (Or.inl ⟨by rfl, ?hy⟩) (by assumption) ?_
            case hy => (intro wS hSw; (try dsimp only at hSw); first | (go_simp; done) | (go_simp; with_reducible rfl))
            simp only [Act.put, List.setIfInBounds_toArray, List.set_cons_zero, List.set_cons_succ]
            refine take_at (i := 11) (d := 44) (v := ?_) rfl rfl (by kernel_rfl) (by kernel_rfl) (by kernel_rfl) (fun _ _ _ h => h) (Or.inl ⟨by rfl, ?hy⟩) (by assumption) ?_
            case hy => (intro wS hSw; (try dsimp only at hSw); first | (go_simp; done) | (go_simp; with_reducible rfl))
            simp only [Act.put, List.setIfInBounds_toArray, List.set_cons_zero, List.set_cons_succ]
            refine wpAnyH_ready (rs := [12]) (by kernel_rfl) (by simp) ?_
            refine AllReadyH.cons rfl (fun K24 hK24 => ?_) AllReadyH.nil
            have kx24 := bcell b23 kE
            have fx24 : w23.frozen? ⟨g, 0, none⟩ = false := (b23.frozen (World.block_lt_of_cell? wd ⟨g, 0, none⟩ kE)).trans fE
            go_simp
            refine hK24.out _ _ ?_ (fun hH24 => ?_)
            · exact ⟨⟨(World.cell?_setCell_far _ _ _ _ hgb).trans (bcell b23 e0), (World.cell?_setCell_far _ _ _ _ hgb).trans (bcell b23 e1)⟩, (World.cell?_setCell_far _ _ _ _ hgb).trans (bcell b23 e2), (World.cell?_setCell_far _ _ _ _ hgb).trans (bcell b23 e3)⟩
            clear hK24 K24
            refine wpAnyH_done (by kernel_rfl) ?_ _
            go_wp2_with fail
            go_meet
            exact ⟨_, _, _, rfl, rfl, by rw [← HSZ.out]; exact o23, below_chain B2d b23⟩
          refine AllReadyH.cons rfl (fun K25 hK25 => ?_) AllReadyH.nil
          have bs25 := (Below.refl wd.heap.size wd).alloc (Nat.le_refl _) (.cells #[.string e.s, .string e.t, .slice T nT cT, .slice F nF cF] 42)
          have es25 : wd.heap.size = wd.heap.size := rfl
          have b25 := below_chain bd0 bs25
          have d25 : RdC 4 (wd.alloc (.cells #[.string e.s, .string e.t, .slice T nT cT, .slice F nF cF] 42)) (some ⟨wd.heap.size, 0, none⟩) 1 1 [.string e.s, .string e.t, .slice T nT cT, .slice F nF cF] := by rw [← es25]; exact RdC.new wd 42 [.string e.s, .string e.t, .slice T nT cT, .slice F nF cF] rfl (by decide)
          go_simp
          refine hK25.out _ _ ?_ (fun hH25 => ?_)
          · exact ⟨⟨bcell b25 e0, bcell b25 e1⟩, bcell b25 e2, bcell b25 e3⟩
          clear hK25 K25
          refine wpAnyH_ready (rs := [1]) (by kernel_rfl) (by simp) ?_
          refine AllReadyH.cons rfl (fun K26 hK26 => ?_) AllReadyH.nil
          have bs26 := (Below.refl (wd.alloc (.cells #[.string e.s, .string e.t, .slice T nT cT, .slice F nF cF] 42)).heap.size (wd.alloc (.cells #[.string e.s, .string e.t, .slice T nT cT, .slice F nF cF] 42))).alloc (Nat.le_refl _) (.cells #[] 42)
          have es26 : (wd.alloc (.cells #[.string e.s, .string e.t, .slice T nT cT, .slice F nF cF] 42)).heap.size = wd.heap.size + 1 := by simp only [World.alloc, Array.size_push]
          have b26 := below_chain b25 bs26
          have o26 : OwnC 4 ((wd.alloc (.cells #[.string e.s, .string e.t, .slice T nT cT, .slice F nF cF] 42)).alloc (.cells #[] 42)) wd.heap.size 42 (some ⟨wd.heap.size + 1, 0, none⟩) 0 0 [] := by rw [← es26]; exact OwnC.empty (wd.alloc (.cells #[.string e.s, .string e.t, .slice T nT cT, .slice F nF cF] 42)) 42 b25.size
          have d26 := RdC.below d25 bs26
          go_simp
          refine hK26.out _ _ ?_ (fun hH26 => ?_)
          · exact ⟨⟨bcell b26 e0, bcell b26 e1⟩, bcell b26 e2, bcell b26 e3⟩
          clear hK26 K26
          refine wpAnyH_ready (rs := [6]) (by kernel_rfl) (by simp) ?_
          refine AllReadyH.cons rfl (fun K27 hK27 => ?_) AllReadyH.nil
          refine step_append_cells (by rfl) (.tmp 34) (.tmp 38) 34 rfl 42 (.agg #[.string ⟨#[]⟩, .string ⟨#[]⟩, .slice none 0 0, .slice none 0 0]) 80 Try.underlying34 event_info rfl (by decide) rfl rfl o26 (RdC.below rE b26) (EvsR.one _ _ hcs) (by unfold maxLen; omega) (by omega) b26.size ?_
          intro A27 c27 w27 o27 g27 i27
          have b27 := below_grown_own o26 b26 g27 b26.size
          rw [Nat.zero_add, List.nil_append] at o27
          have d27 := RdC.grown d26 g27 (fun b o h => by injection h with h; injection h with h; rw [← h]; intro h2; injection h2 with h2; dsimp only at h2; omega)
          (try go_simp)
          refine hK27.out _ _ ?_ (fun hH27 => ?_)
          · exact ⟨⟨bcell b27 e0, bcell b27 e1⟩, bcell b27 e2, bcell b27 e3⟩
          clear hK27 K27
          refine wpAnyH_ready (rs := [9]) (by kernel_rfl) (by simp) ?_
          refine AllReadyH.cons rfl (fun K28 hK28 => ?_) AllReadyH.nil
          refine step_append_cells (by rfl) (.tmp 39) (.tmp 41) 34 rfl 42 (.agg #[.string ⟨#[]⟩, .string ⟨#[]⟩, .slice none 0 0, .slice none 0 0]) 80 Try.underlying34 event_info rfl (by decide) rfl rfl o27 d27 hone (by unfold maxLen; omega) (by omega) b27.size ?_
          intro A28 c28 w28 o28 g28 i28
          have b28 := below_grown_own o27 b27 g28 b27.size
          (try go_simp)
          refine hK28.out _ _ ?_ (fun hH28 => ?_)
          · exact ⟨⟨bcell b28 e0, bcell b28 e1⟩, bcell b28 e2, bcell b28 e3⟩
          clear hK28 K28
          refine take_at (i := 10) (d := 43) (v := ?_) rfl rfl (by kernel_rfl) (by kernel_rfl) (by kernel_rfl) (fun _ _ _ h => h) (Or.inl ⟨by rfl, ?hy⟩) (by assumption) ?_
          case hy => (intro wS hSw; (try dsimp only at hSw); first | (go_simp; done) | (go_simp; with_reducible rfl))
          simp only [Act.put, List.setIfInBounds_toArray, List.set_cons_zero, List.set_cons_succ]
          refine take_at (i := 11) (d := 44) (v := ?_) rfl rfl (by kernel_rfl) (by kernel_rfl) (by kernel_rfl) (fun _ _ _ h => h) (Or.inl ⟨by rfl, ?hy⟩) (by assumption) ?_
          case hy => (intro wS hSw; (try dsimp only at hSw); first | (go_simp; done) | (go_simp; with_reducible rfl))
          simp only [Act.put, List.setIfInBounds_toArray, List.set_cons_zero, List.set_cons_succ]
          refine wpAnyH_ready (rs := [12]) (by kernel_rfl) (by simp) ?_
          refine AllReadyH.cons rfl (fun K29 hK29 => ?_) AllReadyH.nil
          have kx29 := bcell b28 kE
          have fx29 : w28.frozen? ⟨g, 0, none⟩ = false := (b28.frozen (World.block_lt_of_cell? wd ⟨g, 0, none⟩ kE)).trans fE
          go_simp
          refine hK29.out _ _ ?_ (fun hH29 => ?_)
          · exact ⟨⟨(World.cell?_setCell_far _ _ _ _ hgb).trans (bcell b28 e0), (World.cell?_setCell_far _ _ _ _ hgb).trans (bcell b28 e1)⟩, (World.cell?_setCell_far _ _ _ _ hgb).trans (bcell b28 e2), (World.cell?_setCell_far _ _ _ _ hgb).trans (bcell b28 e3)⟩
          clear hK29 K29
          refine wpAnyH_done (by kernel_rfl) ?_ _
          go_wp2_with fail
          go_meet
          exact ⟨_, _, _, rfl, rfl, by rw [← HSZ.out]; exact o28, below_chain B2d b28⟩
        refine AllReadyH.cons rfl (fun K30 hK30 => ?_) AllReadyH.nil
        have bs30 := (Below.refl wd.heap.size wd).alloc (Nat.le_refl _) (.cells #[.string e.s, .string e.t, .slice T nT cT, .slice F nF cF] 42)
        have es30 : wd.heap.size = wd.heap.size := rfl
        have b30 := below_chain bd0 bs30
        have d30 : RdC 4 (wd.alloc (.cells #[.string e.s, .string e.t, .slice T nT cT, .slice F nF cF] 42)) (some ⟨wd.heap.size, 0, none⟩) 1 1 [.string e.s, .string e.t, .slice T nT cT, .slice F nF cF] := by rw [← es30]; exact RdC.new wd 42 [.string e.s, .string e.t, .slice T nT cT, .slice F nF cF] rfl (by decide)
        go_simp
        refine hK30.out _ _ ?_ (fun hH30 => ?_)
        · exact ⟨⟨bcell b30 e0, bcell b30 e1⟩, bcell b30 e2, bcell b30 e3⟩
        clear hK30 K30
        refine wpAnyH_ready (rs := [1, 5]) (by kernel_rfl) (by simp) ?_
        refine AllReadyH.cons rfl (fun K31 hK31 => ?_) ?_
        · skip
          have bs31 := (Below.refl (wd.alloc (.cells #[.string e.s, .string e.t, .slice T nT cT, .slice F nF cF] 42)).heap.size (wd.alloc (.cells #[.string e.s, .string e.t, .slice T nT cT, .slice F nF cF] 42))).alloc (Nat.le_refl _) (.cells #[] 42)
          have es31 : (wd.alloc (.cells #[.string e.s, .string e.t, .slice T nT cT, .slice F nF cF] 42)).heap.size = wd.heap.size + 1 := by simp only [World.alloc, Array.size_push]
          have b31 := below_chain b30 bs31
          have o31 : OwnC 4 ((wd.alloc (.cells #[.string e.s, .string e.t, .slice T nT cT, .slice F nF cF] 42)).alloc (.cells #[] 42)) wd.heap.size 42 (some ⟨wd.heap.size + 1, 0, none⟩) 0 0 [] := by rw [← es31]; exact OwnC.empty (wd.alloc (.cells #[.string e.s, .string e.t, .slice T nT cT, .slice F nF cF] 42)) 42 b30.size
          have d31 := RdC.below d30 bs31
          go_simp
          refine hK31.out _ _ ?_ (fun hH31 => ?_)
          · exact ⟨⟨bcell b31 e0, bcell b31 e1⟩, bcell b31 e2, bcell b31 e3⟩
          clear hK31 K31
          refine wpAnyH_ready (rs := [5]) (by kernel_rfl) (by simp) ?_
          refine AllReadyH.cons rfl (fun K32 hK32 => ?_) AllReadyH.nil
          have kx32 := bcell b31 kE
          go_simp
          refine hK32.out _ _ ?_ (fun hH32 => ?_)
          · exact ⟨⟨bcell b31 e0, bcell b31 e1⟩, bcell b31 e2, bcell b31 e3⟩
          clear hK32 K32
          refine wpAnyH_ready (rs := [6]) (by kernel_rfl) (by simp) ?_
          refine AllReadyH.cons rfl (fun K33 hK33 => ?_) AllReadyH.nil
          refine step_append_cells (by rfl) (.tmp 34) (.tmp 38) 34 rfl 42 (.agg #[.string ⟨#[]⟩, .string ⟨#[]⟩, .slice none 0 0, .slice none 0 0]) 80 Try.underlying34 event_info rfl (by decide) rfl rfl o31 (RdC.below rE b31) (EvsR.one _ _ hcs) (by unfold maxLen; omega) (by omega) b31.size ?_
          intro A33 c33 w33 o33 g33 i33
          have b33 := below_grown_own o31 b31 g33 b31.size
          rw [Nat.zero_add, List.nil_append] at o33
          have d33 := RdC.grown d31 g33 (fun b o h => by injection h with h; injection h with h; rw [← h]; intro h2; injection h2 with h2; dsimp only at h2; omega)
          (try go_simp)
          refine hK33.out _ _ ?_ (fun hH33 => ?_)
          · exact ⟨⟨bcell b33 e0, bcell b33 e1⟩, bcell b33 e2, bcell b33 e3⟩
          clear hK33 K33
          refine wpAnyH_ready (rs := [9]) (by kernel_rfl) (by simp) ?_
          refine AllReadyH.cons rfl (fun K34 hK34 => ?_) AllReadyH.nil
          refine step_append_cells (by rfl) (.tmp 39) (.tmp 41) 34 rfl 42 (.agg #[.string ⟨#[]⟩, .string ⟨#[]⟩, .slice none 0 0, .slice none 0 0]) 80 Try.underlying34 event_info rfl (by decide) rfl rfl o33 d33 hone (by unfold maxLen; omega) (by omega) b33.size ?_
          intro A34 c34 w34 o34 g34 i34
          have b34 := below_grown_own o33 b33 g34 b33.size
          (try go_simp)
          refine hK34.out _ _ ?_ (fun hH34 => ?_)
          · exact ⟨⟨bcell b34 e0, bcell b34 e1⟩, bcell b34 e2, bcell b34 e3⟩
          clear hK34 K34
          refine take_at (i := 10) (d := 43) (v := ?_) rfl rfl (by kernel_rfl) (by kernel_rfl) (by kernel_rfl) (fun _ _ _ h => h) (Or.inl ⟨by rfl, ?hy⟩) (by assumption) ?_
          case hy => (intro wS hSw; (try dsimp only at hSw); first | (go_simp; done) | (go_simp; with_reducible rfl))
          simp only [Act.put, List.setIfInBounds_toArray, List.set_cons_zero, List.set_cons_succ]
          refine take_at (i := 11) (d := 44) (v := ?_) rfl rfl (by kernel_rfl) (by kernel_rfl) (by kernel_rfl) (fun _ _ _ h => h) (Or.inl ⟨by rfl, ?hy⟩) (by assumption) ?_
          case hy => (intro wS hSw; (try dsimp only at hSw); first | (go_simp; done) | (go_simp; with_reducible rfl))
          simp only [Act.put, List.setIfInBounds_toArray, List.set_cons_zero, List.set_cons_succ]
          refine wpAnyH_ready (rs := [12]) (by kernel_rfl) (by simp) ?_
          refine AllReadyH.cons rfl (fun K35 hK35 => ?_) AllReadyH.nil
          have kx35 := bcell b34 kE
          have fx35 : w34.frozen? ⟨g, 0, none⟩ = false := (b34.frozen (World.block_lt_of_cell? wd ⟨g, 0, none⟩ kE)).trans fE
          go_simp
          refine hK35.out _ _ ?_ (fun hH35 => ?_)
          · exact ⟨⟨(World.cell?_setCell_far _ _ _ _ hgb).trans (bcell b34 e0), (World.cell?_setCell_far _ _ _ _ hgb).trans (bcell b34 e1)⟩, (World.cell?_setCell_far _ _ _ _ hgb).trans (bcell b34 e2), (World.cell?_setCell_far _ _ _ _ hgb).trans (bcell b34 e3)⟩
          clear hK35 K35
          refine wpAnyH_done (by kernel_rfl) ?_ _
          go_wp2_with fail
          go_meet
          exact ⟨_, _, _, rfl, rfl, by rw [← HSZ.out]; exact o34, below_chain B2d b34⟩
        refine AllReadyH.cons rfl (fun K36 hK36 => ?_) AllReadyH.nil
        have kx36 := bcell b30 kE
        go_simp
        refine hK36.out _ _ ?_ (fun hH36 => ?_)
        · exact ⟨⟨bcell b30 e0, bcell b30 e1⟩, bcell b30 e2, bcell b30 e3⟩
        clear hK36 K36
        refine wpAnyH_ready (rs := [1]) (by kernel_rfl) (by simp) ?_
        refine AllReadyH.cons rfl (fun K37 hK37 => ?_) AllReadyH.nil
        have bs37 := (Below.refl (wd.alloc (.cells #[.string e.s, .string e.t, .slice T nT cT, .slice F nF cF] 42)).heap.size (wd.alloc (.cells #[.string e.s, .string e.t, .slice T nT cT, .slice F nF cF] 42))).alloc (Nat.le_refl _) (.cells #[] 42)
        have es37 : (wd.alloc (.cells #[.string e.s, .string e.t, .slice T nT cT, .slice F nF cF] 42)).heap.size = wd.heap.size + 1 := by simp only [World.alloc, Array.size_push]
        have b37 := below_chain b30 bs37
        have o37 : OwnC 4 ((wd.alloc (.cells #[.string e.s, .string e.t, .slice T nT cT, .slice F nF cF] 42)).alloc (.cells #[] 42)) wd.heap.size 42 (some ⟨wd.heap.size + 1, 0, none⟩) 0 0 [] := by rw [← es37]; exact OwnC.empty (wd.alloc (.cells #[.string e.s, .string e.t, .slice T nT cT, .slice F nF cF] 42)) 42 b30.size
        have d37 := RdC.below d30 bs37
        go_simp
        refine hK37.out _ _ ?_ (fun hH37 => ?_)
        · exact ⟨⟨bcell b37 e0, bcell b37 e1⟩, bcell b37 e2, bcell b37 e3⟩
        clear hK37 K37
        refine wpAnyH_ready (rs := [6]) (by kernel_rfl) (by simp) ?_
        refine AllReadyH.cons rfl (fun K38 hK38 => ?_) AllReadyH.nil
        refine step_append_cells (by rfl) (.tmp 34) (.tmp 38) 34 rfl 42 (.agg #[.string ⟨#[]⟩, .string ⟨#[]⟩, .slice none 0 0, .slice none 0 0]) 80 Try.underlying34 event_info rfl (by decide) rfl rfl o37 (RdC.below rE b37) (EvsR.one _ _ hcs) (by unfold maxLen; omega) (by omega) b37.size ?_
        intro A38 c38 w38 o38 g38 i38
        have b38 := below_grown_own o37 b37 g38 b37.size
        rw [Nat.zero_add, List.nil_append] at o38
        have d38 := RdC.grown d37 g38 (fun b o h => by injection h with h; injection h with h; rw [← h]; intro h2; injection h2 with h2; dsimp only at h2; omega)
        (try go_simp)
        refine hK38.out _ _ ?_ (fun hH38 => ?_)
        · exact ⟨⟨bcell b38 e0, bcell b38 e1⟩, bcell b38 e2, bcell b38 e3⟩
        clear hK38 K38
        refine wpAnyH_ready (rs := [9]) (by kernel_rfl) (by simp) ?_
        refine AllReadyH.cons rfl (fun K39 hK39 => ?_) AllReadyH.nil
        refine step_append_cells (by rfl) (.tmp 39) (.tmp 41) 34 rfl 42 (.agg #[.string ⟨#[]⟩, .string ⟨#[]⟩, .slice none 0 0, .slice none 0 0]) 80 Try.underlying34 event_info rfl (by decide) rfl rfl o38 d38 hone (by unfold maxLen; omega) (by omega) b38.size ?_
        intro A39 c39 w39 o39 g39 i39
        have b39 := below_grown_own o38 b38 g39 b38.size
        (try go_simp)
        refine hK39.out _ _ ?_ (fun hH39 => ?_)
        · exact ⟨⟨bcell b39 e0, bcell b39 e1⟩, bcell b39 e2, bcell b39 e3⟩
        clear hK39 K39
        refine take_at (i := 10) (d := 43) (v := ?_) rfl rfl (by kernel_rfl) (by kernel_rfl) (by kernel_rfl) (fun _ _ _ h => h) (Or.inl ⟨by rfl, ?hy⟩) (by assumption) ?_
        case hy => (intro wS hSw; (try dsimp only at hSw); first | (go_simp; done) | (go_simp; with_reducible rfl))
        simp only [Act.put, List.setIfInBounds_toArray, List.set_cons_zero, List.set_cons_succ]
        refine take_at (i := 11) (d := 44) (v := ?_) rfl rfl (by kernel_rfl) (by kernel_rfl) (by kernel_rfl) (fun _ _ _ h => h) (Or.inl ⟨by rfl, ?hy⟩) (by assumption) ?_
        case hy => (intro wS hSw; (try dsimp only at hSw); first | (go_simp; done) | (go_simp; with_reducible rfl))
        simp only [Act.put, List.setIfInBounds_toArray, List.set_cons_zero, List.set_cons_succ]
        refine wpAnyH_ready (rs := [12]) (by kernel_rfl) (by simp) ?_
        refine AllReadyH.cons rfl (fun K40 hK40 => ?_) AllReadyH.nil
        have kx40 := bcell b39 kE
        have fx40 : w39.frozen? ⟨g, 0, none⟩ = false := (b39.frozen (World.block_lt_of_cell? wd ⟨g, 0, none⟩ kE)).trans fE
        go_simp
        refine hK40.out _ _ ?_ (fun hH40 => ?_)
        · exact ⟨⟨(World.cell?_setCell_far _ _ _ _ hgb).trans (bcell b39 e0), (World.cell?_setCell_far _ _ _ _ hgb).trans (bcell b39 e1)⟩, (World.cell?_setCell_far _ _ _ _ hgb).trans (bcell b39 e2), (World.cell?_setCell_far _ _ _ _ hgb).trans (bcell b39 e3)⟩
        clear hK40 K40
        refine wpAnyH_done (by kernel_rfl) ?_ _
        go_wp2_with fail
        go_meet
        exact ⟨_, _, _, rfl, rfl, by rw [← HSZ.out]; exact o39, below_chain B2d b39⟩
      case rest =>
        obtain ⟨A9, c9, w9, rfl, rfl, o9, b9⟩ := hcut
        obtain ⟨hh, hg, hA, hBk, hlt, hqG, f1, f2, f3⟩ := HG.out
        have hgs : g < w2.heap.size := by have := hlt g hg; rw [← HGW.out]; exact this
        have hA9 : ∀ a, A9 = some a → a.block ≠ g := fun a ha => by have := (OwnC.lt o9 a ha).1; omega
        have h9 : w9.heap[g]? = _ := (b9.block g hgs).trans ((HBQ.out.block g (by rw [HGW.out]; exact hgs)).trans hh)
        have h3 := two_set0 (v := .slice A9 (n + 1) c9) h9
        have s3 : (w9.setCell ⟨g, 0, none⟩ (.slice A9 (n + 1) c9)).heap.size = w9.heap.size := by simp [World.setCell]
        have r9 := set_keep (OwnC.rd o9) hA9 0 (.slice A9 (n + 1) c9)
        have i9 : RdI (w9.setCell ⟨g, 0, none⟩ (.slice A9 (n + 1) c9)) B n d (L.map (·.2)) := set_keep (rdi_below rI b9) (fun a ha => (hBk a ha).2) 0 _
        have c3 : Ch F1 w2 (w9.setCell ⟨g, 0, none⟩ (.slice A9 (n + 1) c9)) := ch_set (Ch.of_below b9) hg 0 _
        have hq2 := kq.keep hqG HBQ.out.size fun k hk => HBQ.out.block k (kq.lt hqG k hk)
        have hlt2 : ∀ k, F1 k → k < w2.heap.size := fun k hk => by rw [← HGW.out]; exact hlt k hk
        have k3 : (w9.setCell ⟨g, 0, none⟩ (.slice A9 (n + 1) c9)).cell? ⟨g, 1, none⟩ = some (.slice B n d) := (two_cell h3).2.1
        have fz3 : (w9.setCell ⟨g, 0, none⟩ (.slice A9 (n + 1) c9)).frozen? ⟨g, 1, none⟩ = false := (two_cell h3).2.2 1
        have hA9' : ∀ a, A9 = some a → w2.heap.size ≤ a.block ∧ a.block < w9.heap.size := fun a ha => OwnC.lt o9 a ha
        have hs9 := b9.size
        clear e0 e1 e2 e3 kE kI fE rE rI o9 b9 h9 hone
        have HH := Go.Lib.hid (⟨h3, hg, hgs, hA9, hA9', hs9, s3, c3, hq2, hlt2, f1, f2, f3, r9⟩ : _ ∧ _ ∧ _ ∧ _ ∧ _ ∧ _ ∧ _ ∧ _ ∧ _ ∧ _ ∧ _ ∧ _ ∧ _ ∧ _)
        clear h3 hg hgs hA9 hA9' hs9 s3 c3 hq2 hlt2 f1 f2 f3 r9 hh hA hBk hlt hqG
        generalize hw3 : w9.setCell ⟨g, 0, none⟩ (.slice A9 (n + 1) c9) = w3 at *
        clear hw3
        have ba : Below w3.heap.size w3 (w3.alloc (.cells #[] 3)) := (Below.refl _ _).alloc (Nat.le_refl _) _
        have o1 : OwnC 1 (w3.alloc (.cells #[] 3)) w3.heap.size 3 (some ⟨w3.heap.size, 0, none⟩) 0 0 [] := OwnC.empty w3 3 (Nat.le_refl _)
        have d3 := RdC.below i9 ba
        have k2 := bcell ba k3
        go_wp2_with (first
          | (at_builtin; refine wpList_copy_cells rfl (.tmp 46) (.tmp 50) 22 rfl 3 (.int .i64 0) 8 Try.underlying22 int_info rfl (by decide) rfl rfl o1 d3 (nums_one _) (by unfold maxLen; omega) (by omega) ba.size ba ?_; intro A5 c5 w5 o5 b5; have bb := (Below.refl w5.heap.size w5).alloc (Nat.le_refl _) (.cells #[.int .i64 p] 3); have o6 := o5.below bb; have d6 : RdC 1 (w5.alloc (.cells #[.int .i64 p] 3)) (some ⟨w5.heap.size, 0, none⟩) 1 1 (nums [p]) := RdC.new w5 3 (nums [p]) rfl (by decide); have b6 := below_chain b5 bb)
          | (at_builtin; refine wpList_more_cells rfl (.tmp 51) (.tmp 53) 22 rfl 3 (.int .i64 0) 8 Try.underlying22 int_info rfl (by decide) rfl rfl o6 d6 (nums_one _) (by unfold maxLen; omega) (by omega) b6.size b6 ?_; intro A7 c7 w7 o7 b7 g7; have k7 := bcell b7 k3; have f7 : w7.frozen? ⟨g, 1, none⟩ = false := (b7.frozen (World.block_lt_of_cell? w3 ⟨g, 1, none⟩ k3)).trans fz3))
        obtain ⟨h3, hg, hgs, hA9, hA9', hs9, s3, c3, hq2, hlt2, f1, f2, f3, r9⟩ := HH.out
        have hw3 : w2.heap.size ≤ w3.heap.size := by omega
        have hA7 : ∀ a, A7 = some a → w3.heap.size ≤ a.block ∧ a.block < w7.heap.size := fun a ha => OwnC.lt o7 a ha
        have h7 : w7.heap[g]? = _ := (b7.block g (by omega)).trans h3
        have h8 := two_set1 (v := .slice A7 (n + 1) c7) h7
        have s8 : (w7.setCell ⟨g, 1, none⟩ (.slice A7 (n + 1) c7)).heap.size = w7.heap.size := by simp [World.setCell]
        have r7 := set_keep (RdC.below r9 b7) hA9 1 (.slice A7 (n + 1) c7)
        have i7 := set_keep (OwnC.rd o7) (fun a ha => (by have := (hA7 a ha).1; omega : a.block ≠ g)) 1 (.slice A7 (n + 1) c7)
        have c8 : Ch F1 w2 (w7.setCell ⟨g, 1, none⟩ (.slice A7 (n + 1) c7)) := ch_set (c3.then_below b7) hg 1 _
        have hes : EvsR W0 ((L ++ [(e, p)]).map (·.1)) (cs ++ [.string e.s, .string e.t, .slice T nT cT, .slice F nF cF]) := by rw [List.map_append]; exact EvsR.snoc hT hF _ _ hcs
        have hnm : nums (L.map (·.2)) ++ nums [p] = nums ((L ++ [(e, p)]).map (·.2)) := by rw [← nums_append, List.map_append]; rfl
        have i7' : RdI (w7.setCell ⟨g, 1, none⟩ (.slice A7 (n + 1) c7)) A7 (n + 1) c7 ((L ++ [(e, p)]).map (·.2)) := by
          unfold RdI
          rw [← hnm]
          exact i7
        have hs7 := b7.size
        have tt : LsT W0 g (L ++ [(e, p)]) (w7.setCell ⟨g, 1, none⟩ (.slice A7 (n + 1) c7)) (up F1 w2 (w7.setCell ⟨g, 1, none⟩ (.slice A7 (n + 1) c7))) :=
          ⟨A9, n + 1, c9, A7, c7, _, h8, r7, hes, i7', .inl hg, fun a ha => ⟨.inr ⟨(hA9' a ha).1, by have := (hA9' a ha).2; omega⟩, hA9 a ha⟩, fun a ha => ⟨.inr ⟨by have := (hA7 a ha).1; omega, by have := (hA7 a ha).2; omega⟩, by have := (hA7 a ha).1; omega⟩, fun k hk => up_lt hlt2 c8.size hk⟩
        have pf := Go.Lib.hid (Pair.left hq2 kq f1 f2 f3 hb2 tt c8)
        have bf := Go.Lib.hid (B2.trans (ch_below (Below.refl base w2) c8 f1 hb2))
        clear h3 hg hgs hA9 hA9' hs9 s3 c3 hq2 hlt2 f1 f2 f3 r9 HH hA7 h7 h8 s8 r7 i7 i7' c8 tt hes hnm p2 B2
        go_wp2_with fail
        go_ret
        exact ⟨rfl, pf.out, bf.out⟩

end Go.Proofs.Ytppdljkfhoekpaa.PoWalk

/-
  Layer 13: rows of calls that came in: an event, and a number.
-/
namespace Go.Proofs.Ytppdljkfhoekpaa.PoWalk
open Go.RowKit Go.ChangeShapes Go.WideShapes Go.Joins Go.Deep Go.Proofs.Ytppdljkfhoekpaa.MemRow Go.Proofs.Ytppdljkfhoekpaa.Ev Go.Proofs.Ytppdljkfhoekpaa.Open Go.Proofs.Ytppdljkfhoekpaa.NumMem

def noPop : Ev × Int := (noEv, 0)
def PopCells (w : World) (b o : Nat) (x : Ev × Int) : Prop :=
  ∃ A n ca B m cb, w.cell? ⟨b, o, none⟩ = some (.string x.1.s) ∧ w.cell? ⟨b, o + 1, none⟩ = some (.string x.1.t) ∧ w.cell? ⟨b, o + 2, none⟩ = some (.slice A n ca) ∧ w.cell? ⟨b, o + 3, none⟩ = some (.slice B m cb) ∧ w.cell? ⟨b, o + 4, none⟩ = some (.int .i64 x.2) ∧ RdS w A n ca x.1.tags ∧ RdF w B m cb x.1.fs
/-- A slice that reads as calls. -/
def RdP (w : World) (A : Option Addr) (n cap : Nat) (ds : List (Ev × Int)) : Prop :=
  ds.length = n ∧ n ≤ cap ∧ cap ≤ maxLen ∧ (0 < n → ∃ b o, A = some ⟨b, o, none⟩ ∧ b < w.heap.size ∧ ∀ i, i < n → PopCells w b (o + i * 5) (ds.getD i noPop))
theorem RdP.nil (w : World) : RdP w none 0 0 [] := ⟨rfl, Nat.le_refl _, Nat.zero_le _, fun h => absurd h (by omega)⟩
theorem RdP.len {w : World} {A : Option Addr} {n cap : Nat} {ds : List (Ev × Int)} (h : RdP w A n cap ds) : ds.length = n := h.1
theorem RdP.le {w : World} {A : Option Addr} {n cap : Nat} {ds : List (Ev × Int)} (h : RdP w A n cap ds) : n ≤ maxLen := Nat.le_trans h.2.1 h.2.2.1
theorem RdP.at_ {w : World} {A : Option Addr} {n cap : Nat} {ds : List (Ev × Int)} (h : RdP w A n cap ds) (hn : 0 < n) : ∃ b o, A = some ⟨b, o, none⟩ ∧ b < w.heap.size ∧ ∀ i, i < n → PopCells w b (o + i * 5) (ds.getD i noPop) := h.2.2.2 hn
theorem pop_get {ds : List (Ev × Int)} {j : Nat} (h : j < ds.length) : ds.getD j noPop ∈ ds := by
  rw [List.getD_eq_getElem?_getD, List.getElem?_eq_getElem h]
  exact List.getElem_mem h
structure PopOk (d : Ev × Int) : Prop where
  ev : EvOk d.1
  far : -9223372036854775808 ≤ d.2 ∧ d.2 ≤ 9223372036854775807

section
variable {H : Type} {enc : TypeId × Value → H} {P : Program} {W : World} {base : Nat} {t e : TypeId} {v : Value} {d : DataW H} {p : List MemPlace}
theorem trod_struct4 {spare : Nat → Bool} {held : Bool} {f0 f1 f2 f3 : Field} {fuel : Nat} {cs : List Value} {x : DataW H × List MemPlace} (ht : P.underlying t = some (.struct #[f0, f1, f2, f3])) (h : DataW.trod enc P W base spare held fuel t cs = some x) :
    ∃ y0 y1 y2 y3 n, DataW.trod enc P W base spare held n f0.type ((cs.drop f0.offset).take (P.cellsOf f0.type)) = some y0 ∧ DataW.trod enc P W base spare held n f1.type ((cs.drop f1.offset).take (P.cellsOf f1.type)) = some y1 ∧ DataW.trod enc P W base spare held n f2.type ((cs.drop f2.offset).take (P.cellsOf f2.type)) = some y2 ∧ DataW.trod enc P W base spare held n f3.type ((cs.drop f3.offset).take (P.cellsOf f3.type)) = some y3 := by
  obtain ⟨xs, n, _, rfl, hl, hlen, hf⟩ := DataW.trod_struct ht h
  match xs, hlen with
  | [y0, y1, y2, y3], _ => exact ⟨y0, y1, y2, y3, n, by simpa using hf 0 f0 rfl, by simpa using hf 1 f1 rfl, by simpa using hf 2 f2 rfl, by simpa using hf 3 f3 rfl⟩
theorem trod_struct2 {spare : Nat → Bool} {held : Bool} {f0 f1 : Field} {fuel : Nat} {cs : List Value} {x : DataW H × List MemPlace} (ht : P.underlying t = some (.struct #[f0, f1])) (h : DataW.trod enc P W base spare held fuel t cs = some x) :
    ∃ y0 y1 n, DataW.trod enc P W base spare held n f0.type ((cs.drop f0.offset).take (P.cellsOf f0.type)) = some y0 ∧ DataW.trod enc P W base spare held n f1.type ((cs.drop f1.offset).take (P.cellsOf f1.type)) = some y1 := by
  obtain ⟨xs, n, _, rfl, hl, hlen, hf⟩ := DataW.trod_struct ht h
  match xs, hlen with
  | [y0, y1], _ => exact ⟨y0, y1, n, by simpa using hf 0 f0 rfl, by simpa using hf 1 f1 rfl⟩
end
section
variable {H : Type} {enc : TypeId × Value → H}
set_option maxRecDepth 100000 in
theorem tr_pop {W : World} {fuel : Nat} {v0 v1 v2 v3 v4 : Value} {y : DataW H × List MemPlace} (h : DataW.trod enc Try.prog W 0 (fun _ => true) true fuel 45 [v0, v1, v2, v3, v4] = some y) :
    ∃ d : Ev × Int, PopOk d ∧ ∃ A n ca B m cb, v0 = .string d.1.s ∧ v1 = .string d.1.t ∧ v2 = .slice A n ca ∧ v3 = .slice B m cb ∧ v4 = .int .i64 d.2 ∧ RdS W A n ca d.1.tags ∧ RdF W B m cb d.1.fs := by
  obtain ⟨y0, y1, n, q0, q1⟩ := trod_struct2 Try.underlying45 h
  have c0 : Try.prog.cellsOf 3 = 1 := by kernel_rfl
  have c1 : Try.prog.cellsOf 42 = 4 := by kernel_rfl
  have cs : Try.prog.cellsOf 9 = 1 := by kernel_rfl
  have ct : Try.prog.cellsOf 39 = 1 := by kernel_rfl
  have cf : Try.prog.cellsOf 40 = 1 := by kernel_rfl
  have z0 : DataW.trod enc Try.prog W 0 (fun _ => true) true n 42 [v0, v1, v2, v3] = some y0 := by simpa [c1] using q0
  have z1 : DataW.trod enc Try.prog W 0 (fun _ => true) true n 3 [v4] = some y1 := by simpa [c0] using q1
  obtain ⟨zf, x4, _, wf⟩ := DataW.trod_int Try.underlying3 z1
  obtain ⟨u0, u1, u2, u3, k, b0, b1, b2, b3⟩ := trod_struct4 Try.underlying42 z0
  have b0' : DataW.trod enc Try.prog W 0 (fun _ => true) true k 9 [v0] = some u0 := by simpa [cs] using b0
  have b1' : DataW.trod enc Try.prog W 0 (fun _ => true) true k 9 [v1] = some u1 := by simpa [cs] using b1
  have b2' : DataW.trod enc Try.prog W 0 (fun _ => true) true k 39 [v2] = some u2 := by simpa [ct] using b2
  have b3' : DataW.trod enc Try.prog W 0 (fun _ => true) true k 40 [v3] = some u3 := by simpa [cf] using b3
  obtain ⟨s, x0, _, ws⟩ := DataW.trod_string Try.underlying9 b0'
  obtain ⟨s', x1, _, wt⟩ := DataW.trod_string Try.underlying9 b1'
  obtain ⟨A, na, ca, ss, rfl, hs, ws2⟩ := tr_strs Try.underlying39 Try.underlying9 (by kernel_rfl) b2'
  obtain ⟨B, m, cb, fs, rfl, hf, wf2, wz⟩ := tr_flds Try.underlying40 Try.underlying109 (by kernel_rfl) rfl rfl (by kernel_rfl) (by kernel_rfl) Try.underlying9 Try.underlying3 b3'
  injection x0 with x0
  injection x1 with x1
  injection x4 with x4
  subst x0 x1 x4
  exact ⟨(⟨s, s', ss, fs⟩, zf), ⟨⟨ws, wt, ws2, wf2, wz⟩, bounds_i64 wf⟩, A, na, ca, B, m, cb, rfl, rfl, rfl, rfl, rfl, hs, hf⟩
set_option maxRecDepth 100000 in
theorem op_pops {W : World} {base : Nat} {v : Value} {d : DataW H} {p : List MemPlace} (ho : Value.okWide Try.prog W .any base 27 v) (h : DataW.Trod enc Try.prog W 0 (fun _ => true) true 27 v d p) :
    ∃ A n ca ds, v = .slice A n ca ∧ RdP W A n ca ds ∧ ∀ d ∈ ds, PopOk d := by
  obtain ⟨a, len, cap, rfl⟩ := okWide_slice Try.underlying27 ho
  obtain ⟨fuel, hf⟩ := h
  have ce : Try.prog.cellsOf 45 = 5 := by kernel_rfl
  have hf : DataW.trod enc Try.prog W 0 (fun _ => true) true fuel 27 [.slice a len cap] = some (d, p) := hf
  rcases open_slice Try.underlying27 hf with ⟨hcs, _⟩ | ⟨a, l, c, m, nn, D, Pl, hcs, _, hl, hm, hmm, _, hx⟩
  · simp only [List.cons.injEq, and_true] at hcs
    rw [hcs]
    exact ⟨none, 0, 0, [], rfl, RdP.nil W, fun d hd => by simp at hd⟩
  · simp only [List.cons.injEq, and_true] at hcs
    rw [hcs]
    have hm' : m = c := by simpa using hmm
    subst hm'
    have each : ∀ i, i < m → ∃ d : Ev × Int, PopOk d ∧ ∃ A n ca B k cb, W.cell? (a.add (i * 5)) = some (.string d.1.s) ∧ W.cell? (a.add (i * 5 + 1)) = some (.string d.1.t) ∧ W.cell? (a.add (i * 5 + 2)) = some (.slice A n ca) ∧ W.cell? (a.add (i * 5 + 3)) = some (.slice B k cb) ∧ W.cell? (a.add (i * 5 + 4)) = some (.int .i64 d.2) ∧ RdS W A n ca d.1.tags ∧ RdF W B k cb d.1.fs := by
      intro i hi
      obtain ⟨cs', h1, h2⟩ := hx i hi
      rw [ce] at h1
      obtain ⟨_, hlen, hcell⟩ := World.cells?_some h1
      match cs', hlen with
      | [v0, v1, v2, v3, v4], _ =>
        have e0 := hcell 0 (by omega)
        have e1 := hcell 1 (by omega)
        have e2 := hcell 2 (by omega)
        have e3 := hcell 3 (by omega)
        have e4 := hcell 4 (by omega)
        rw [add_add] at e0 e1 e2 e3 e4
        obtain ⟨d, ok, A, n, ca, B, k, cb, rfl, rfl, rfl, rfl, rfl, r, r2⟩ := tr_pop h2
        exact ⟨d, ok, A, n, ca, B, k, cb, by simpa using e0, by simpa using e1, by simpa using e2, by simpa using e3, by simpa using e4, r, r2⟩
    have hex : ∃ F : Nat → Ev × Int, ∀ i, i < m → PopOk (F i) ∧ ∃ A n ca B k cb, W.cell? (a.add (i * 5)) = some (.string (F i).1.s) ∧ W.cell? (a.add (i * 5 + 1)) = some (.string (F i).1.t) ∧ W.cell? (a.add (i * 5 + 2)) = some (.slice A n ca) ∧ W.cell? (a.add (i * 5 + 3)) = some (.slice B k cb) ∧ W.cell? (a.add (i * 5 + 4)) = some (.int .i64 (F i).2) ∧ RdS W A n ca (F i).1.tags ∧ RdF W B k cb (F i).1.fs :=
      ⟨fun i => if hi : i < m then (each i hi).choose else noPop, fun i hi => by simp only [hi, dif_pos]; exact (each i hi).choose_spec⟩
    obtain ⟨F, hF'⟩ := hex
    refine ⟨_, l, m, (List.range l).map F, rfl, ⟨by simp, hl, hm, fun hn => ?_⟩, ?_⟩
    · obtain ⟨_, _, _, _, _, _, _, hc0, _⟩ := hF' 0 (by omega)
      rw [Nat.zero_mul] at hc0
      have e0 := spot_none hc0
      have hb := World.block_lt_of_cell? W _ hc0
      rw [e0, add_at] at hb
      refine ⟨a.block, a.off, by rw [← e0], hb, fun i hi => ?_⟩
      have hFj : ((List.range l).map F).getD i noPop = F i := by simp [List.getD, hi]
      rw [hFj]
      obtain ⟨_, A, n, ca, B, k, cb, h0, h1, h2, h3, h4, r, r2⟩ := hF' i (by omega)
      rw [e0, add_at] at h0 h1 h2 h3 h4
      exact ⟨A, n, ca, B, k, cb, h0, h1, h2, h3, h4, r, r2⟩
    · intro x hxm
      obtain ⟨j, hj, rfl⟩ := List.mem_map.1 hxm
      exact (hF' j (by have := List.mem_range.1 hj; omega)).1
end

end Go.Proofs.Ytppdljkfhoekpaa.PoWalk

