/-
  Contracts of the library's IndexFunc, ContainsFunc over texts and over clauses, with a function value that holds what it captured.
-/
import Derived.Deep.DeepCutAuto
import Derived.Deep.QuietTactic
import Derived.BigQuiet
import Derived.Lib.SlicesSearch
import Derived.Lib.Walk
import Derived.ArgAppend
import Derived.Deep.RegionHeldLaw
import Derived.Maps.OwnOps
import Derived.WalkSpells
import Derived.Laws.IdiomRangeMap
import Derived.Test.YtiplfhmimpkplaaGreatMg4
namespace Go.Proofs.YtiplfhmimpkplaaGreat.QuWalk
open Go.RowKit Go.Proofs.YtiplfhmimpkplaaGreat.MemRow Go.Proofs.YtiplfhmimpkplaaGreat.Ev Go.Proofs.YtiplfhmimpkplaaGreat.NameMath Go.Proofs.YtiplfhmimpkplaaGreat.NameWalk Go.Proofs.YtiplfhmimpkplaaGreat.EvWalk Go.Proofs.YtiplfhmimpkplaaGreat.Qu

/-- A function number that the program has. -/
def Runs (g : Nat) : Prop := ∀ args w, (callFunc g args).run Tryz.prog w = .ok (.enter g args) w

/-- A predicate on texts that holds what it captured, handed to the library. -/
def PredSc (g : Nat) (caps : Array Value) (p : ByteArray → Bool) (ss : List ByteArray) (w : World) : Prop :=
  ∀ W, Below w.heap.size w W → ∀ x ∈ ss, Calls Tryz.prog g (#[.string x] ++ caps) W fun e W' => e = .returned (.bool (p x)) ∧ Below W.heap.size W W'
/-- A predicate on clauses that holds what it captured, handed to the library. -/
def PredCc (g : Nat) (caps : Array Value) (p : Cl → Bool) (q : List Cl) (w : World) : Prop :=
  ∀ W, Below w.heap.size w W → ∀ v, ∀ c ∈ q, IsCl W v c → Calls Tryz.prog g (#[v] ++ caps) W fun e W' => e = .returned (.bool (p c)) ∧ Below W.heap.size W W'

theorem anyC_miss {p : Cl → Bool} {l : List Cl} {j : Nat} (hj : j < l.length) (h : (l.take j).any p = false) (hp : p (l.getD j noCl) = false) : (l.take (j + 1)).any p = false := any_miss (d := noCl) hj h hp

set_option maxHeartbeats 4000000 in
set_option maxRecDepth 100000 in
theorem idxFuncSc_any (A : Option Addr) (n ca : Nat) (ss : List ByteArray) (g : Nat) (caps : Array Value) (p : ByteArray → Bool) (w : World) (ha : RdS w A n ca ss) (eg : Runs g) (hp : PredSc g caps p ss w) :
    Calls Tryz.prog 98 #[.slice A n ca, .func (.func g) #[] caps] w fun e w' => EvWalk.Found (ss.any p) e ∧ Below w.heap.size w w' := by
  unfold Runs at eg
  have hn := RdC.le ha
  unfold maxLen at hn
  have la := ha.len
  generalize hR : ss.any p = R
  have HR := Go.Lib.hid hR
  have LA := Go.Lib.hid la
  have HP := Go.Lib.hid hp
  clear hR la hp
  go_enter Tryz.func98, Tryz.ntmps98
  go_wp2_with fail
  go_loopw [5, 8] (fun _ i wr => ∃ j : Nat, j ≤ n ∧ i = .int .i64 j ∧ (ss.take j).any p = false ∧ Below w.heap.size w wr) (fun _ i _ => n - (intOf i).toNat)
  case atStart => exact ⟨0, Nat.zero_le _, rfl, rfl, Below.refl _ _⟩
  case round =>
    obtain ⟨j, hj, rfl, hq, hb⟩ := hrel
    have HQ := Go.Lib.hid hq
    clear hq
    have a1 := RdC.below ha hb
    by_cases hlt : j < n
    · obtain ⟨ba, oa, rfl, _, ka⟩ := RdS.at_ a1 (by omega)
      have ka1 := ka j hlt
      have i1 : (j : Int) < n := by omega
      have hjl : j < ss.length := by rw [LA.out]; exact hlt
      have HM := Go.Lib.hid (fun h => any_miss (p := p) (d := ByteArray.empty) hjl HQ.out h)
      have HH := Go.Lib.hid (fun h => any_hit (p := p) (d := ByteArray.empty) hjl h)
      have c := Go.Lib.hid (HP.out wr hb _ (mem_getD ss j hjl))
      clear ka hjl a1
      generalize hy : ss.getD j ByteArray.empty = y at *
      clear hy
      cases hpy : p y with
      | true =>
        have hR : R = true := by rw [← HR.out]; exact HH.out hpy
        subst hR
        rw [hpy] at c
        clear HM HH hpy
        go_wp2_with (refine (c.out).mono ?_; rintro e w1 ⟨rfl, b1⟩)
        go_ret
        exact ⟨⟨j, rfl, dec_ge0 j⟩, below_chain hb b1⟩
      | false =>
        rw [hpy] at c
        have HN := Go.Lib.hid (HM.out hpy)
        clear HM HH hpy
        go_wp2_with (refine (c.out).mono ?_; rintro e w1 ⟨rfl, b1⟩)
        go_roundw
        case rel => exact ⟨j + 1, by omega, by go_num, HN.out, below_chain hb b1⟩
        case measure => simp [intOf]; omega
    · obtain rfl : n = j := by omega
      have hR : R = false := by
        rw [← HR.out]
        have h1 := HQ.out
        rwa [List.take_of_length_le (by rw [LA.out]; exact Nat.le_refl _)] at h1
      subst hR
      go_wp2_with fail
      go_ret
      exact ⟨⟨-1, rfl, by decide⟩, hb⟩

set_option maxHeartbeats 2000000 in
set_option maxRecDepth 100000 in
theorem hasFuncSc_any (A : Option Addr) (n ca : Nat) (ss : List ByteArray) (g : Nat) (caps : Array Value) (p : ByteArray → Bool) (w : World) (ha : RdS w A n ca ss) (eg : Runs g) (hp : PredSc g caps p ss w) :
    Calls Tryz.prog 75 #[.slice A n ca, .func (.func g) #[] caps] w fun e w' => e = .returned (.bool (ss.any p)) ∧ Below w.heap.size w w' := by
  have c := Go.Lib.hid (idxFuncSc_any A n ca ss g caps p w ha eg hp)
  clear ha eg hp
  generalize ss.any p = R at c ⊢
  go_enter Tryz.func75, Tryz.ntmps75
  go_wp2_with (refine (c.out).mono ?_; rintro e w' ⟨⟨i, rfl, rfl⟩, b1⟩)
  go_ret
  exact ⟨rfl, b1⟩

set_option maxHeartbeats 4000000 in
set_option maxRecDepth 100000 in
theorem idxFuncC_any (A : Option Addr) (n ca : Nat) (q : List Cl) (g : Nat) (caps : Array Value) (p : Cl → Bool) (w : World) (ha : RdQ w A n ca q) (eg : Runs g) (hp : PredCc g caps p q w) :
    Calls Tryz.prog 92 #[.slice A n ca, .func (.func g) #[] caps] w fun e w' => EvWalk.Found (q.any p) e ∧ Below w.heap.size w w' := by
  unfold Runs at eg
  have hn := ha.le
  unfold maxLen at hn
  have la := ha.len
  generalize hR : q.any p = R
  have HR := Go.Lib.hid hR
  have LA := Go.Lib.hid la
  have HP := Go.Lib.hid hp
  clear hR la hp
  go_enter Tryz.func92, Tryz.ntmps92
  go_wp2_with fail
  go_loopw [5, 8] (fun _ i wr => ∃ j : Nat, j ≤ n ∧ i = .int .i64 j ∧ (q.take j).any p = false ∧ Below w.heap.size w wr) (fun _ i _ => n - (intOf i).toNat)
  case atStart => exact ⟨0, Nat.zero_le _, rfl, rfl, Below.refl _ _⟩
  case round =>
    obtain ⟨j, hj, rfl, hq, hb⟩ := hrel
    have HQ := Go.Lib.hid hq
    clear hq
    have a1 := ha.below hb
    by_cases hlt : j < n
    · obtain ⟨ba, oa, rfl, _, ka⟩ := a1.at_ (by omega)
      obtain ⟨T, nT, cT, Y, nY, cY, x0, x1, rT, rY⟩ := ka j hlt
      have i1 : (j : Int) < n := by omega
      have hjl : j < q.length := by rw [LA.out]; exact hlt
      have HM := Go.Lib.hid (fun h => anyC_miss (p := p) hjl HQ.out h)
      have HH := Go.Lib.hid (fun h => any_hit (p := p) (d := noCl) hjl h)
      have c := Go.Lib.hid (HP.out wr hb (.agg #[.slice T nT cT, .slice Y nY cY]) _ (cl_get hjl) ⟨T, nT, cT, Y, nY, cY, rfl, rT, rY⟩)
      clear ka hjl a1 rT rY
      generalize q.getD j noCl = y at *
      cases hpy : p y with
      | true =>
        have hR : R = true := by rw [← HR.out]; exact HH.out hpy
        subst hR
        rw [hpy] at c
        clear HM HH hpy
        go_wp2_with (refine (c.out).mono ?_; rintro e w1 ⟨rfl, b1⟩)
        go_ret
        exact ⟨⟨j, rfl, dec_ge0 j⟩, below_chain hb b1⟩
      | false =>
        rw [hpy] at c
        have HN := Go.Lib.hid (HM.out hpy)
        clear HM HH hpy
        go_wp2_with (refine (c.out).mono ?_; rintro e w1 ⟨rfl, b1⟩)
        go_roundw
        case rel => exact ⟨j + 1, by omega, by go_num, HN.out, below_chain hb b1⟩
        case measure => simp [intOf]; omega
    · obtain rfl : n = j := by omega
      have hR : R = false := by
        rw [← HR.out]
        have h1 := HQ.out
        rwa [List.take_of_length_le (by rw [LA.out]; exact Nat.le_refl _)] at h1
      subst hR
      go_wp2_with fail
      go_ret
      exact ⟨⟨-1, rfl, by decide⟩, hb⟩

set_option maxHeartbeats 2000000 in
set_option maxRecDepth 100000 in
theorem hasFuncC_any (A : Option Addr) (n ca : Nat) (q : List Cl) (g : Nat) (caps : Array Value) (p : Cl → Bool) (w : World) (ha : RdQ w A n ca q) (eg : Runs g) (hp : PredCc g caps p q w) :
    Calls Tryz.prog 67 #[.slice A n ca, .func (.func g) #[] caps] w fun e w' => e = .returned (.bool (q.any p)) ∧ Below w.heap.size w w' := by
  have c := Go.Lib.hid (idxFuncC_any A n ca q g caps p w ha eg hp)
  clear ha eg hp
  generalize q.any p = R at c ⊢
  go_enter Tryz.func67, Tryz.ntmps67
  go_wp2_with (refine (c.out).mono ?_; rintro e w' ⟨⟨i, rfl, rfl⟩, b1⟩)
  go_ret
  exact ⟨rfl, b1⟩

end Go.Proofs.YtiplfhmimpkplaaGreat.QuWalk

/-
  Contracts of the library's slices.Equal, over texts and over numbers with a name.
-/
namespace Go.Proofs.YtiplfhmimpkplaaGreat.EvWalk
open Go.RowKit Go.Proofs.YtiplfhmimpkplaaGreat.MemRow Go.Proofs.YtiplfhmimpkplaaGreat.Ev Go.Proofs.YtiplfhmimpkplaaGreat.NameMath Go.Proofs.YtiplfhmimpkplaaGreat.NameWalk

end Go.Proofs.YtiplfhmimpkplaaGreat.EvWalk

/-
  Contracts of layer 4: Has, Value, Same.
-/
namespace Go.Proofs.YtiplfhmimpkplaaGreat.EvWalk
open Go.RowKit Go.Proofs.YtiplfhmimpkplaaGreat.MemRow Go.Proofs.YtiplfhmimpkplaaGreat.Ev Go.Proofs.YtiplfhmimpkplaaGreat.NameMath Go.Proofs.YtiplfhmimpkplaaGreat.NameWalk

set_option maxHeartbeats 2000000 in
set_option maxRecDepth 100000 in
theorem evHas_any (v : Value) (ev : Ev) (x : ByteArray) (w : World) (hv : IsEv w v ev) :
    Calls Tryz.prog 94 #[v, .string x] w fun e w' => e = .returned (.bool (hasB ev.tags x)) ∧ Below w.heap.size w w' := by
  obtain ⟨A, n, ca, B, m, cb, rfl, ha, _⟩ := hv
  have b0 : Below w.heap.size w (w.alloc (.cells #[.string ev.s, .string ev.t, .slice A n ca, .slice B m cb] 42)) := (Below.refl _ _).alloc (Nat.le_refl _) _
  have e0 := EvAt.new w (.string ev.s) (.string ev.t) (.slice A n ca) (.slice B m cb)
  have c := Go.Lib.hid (contains_any A n ca ev.tags x _ (RdC.below ha b0))
  have k2 := e0.c2
  clear ha e0
  generalize hasB ev.tags x = R at *
  go_enter Tryz.func94, Tryz.ntmps94
  go_wp2_with fail
  generalize w.alloc (.cells #[.string ev.s, .string ev.t, .slice A n ca, .slice B m cb] 42) = w1 at *
  refine (c.out).mono ?_
  rintro e w2 ⟨rfl, b1⟩
  go_wp2_with fail
  go_ret
  exact ⟨rfl, below_chain b0 b1⟩

end Go.Proofs.YtiplfhmimpkplaaGreat.EvWalk

/-
  Contracts of layer 6: query.Match and what it asks.
-/
namespace Go.Proofs.YtiplfhmimpkplaaGreat.QuWalk
open Go.RowKit Go.Proofs.YtiplfhmimpkplaaGreat.MemRow Go.Proofs.YtiplfhmimpkplaaGreat.Ev Go.Proofs.YtiplfhmimpkplaaGreat.NameMath Go.Proofs.YtiplfhmimpkplaaGreat.NameWalk Go.Proofs.YtiplfhmimpkplaaGreat.EvWalk Go.Proofs.YtiplfhmimpkplaaGreat.Qu

theorem any_nt' (l : List ByteArray) (p : ByteArray → Bool) : (l.any fun x => !p x) = !l.all p := by
  induction l with
  | nil => rfl
  | cons a l ih => rw [List.any_cons, List.all_cons, ih, Bool.not_and]

/-- A box that holds an event. -/
def EvBox (w : World) (g : Nat) (u : Value) (ev : Ev) : Prop := ∃ A n ca B m cb, u = .agg #[.string ev.s, .string ev.t, .slice A n ca, .slice B m cb] ∧ EvAt w g (.string ev.s) (.string ev.t) (.slice A n ca) (.slice B m cb) ∧ IsEv w u ev
theorem EvBox.below {w w' : World} {g : Nat} {u : Value} {ev : Ev} (h : EvBox w g u ev) (hb : Below w.heap.size w w') : EvBox w' g u ev := by
  obtain ⟨A, n, ca, B, m, cb, rfl, he, hi⟩ := h
  exact ⟨A, n, ca, B, m, cb, rfl, he.below hb he.lt, hi.below hb⟩

set_option maxHeartbeats 4000000 in
set_option maxRecDepth 100000 in
theorem hasTags1_any (g : Nat) (u : Value) (ev : Ev) (x : ByteArray) (w : World) (hb : EvBox w g u ev) :
    Calls Tryz.prog 93 #[.string x, .pointer (some ⟨g, 0, none⟩)] w fun e w' => e = .returned (.bool (!hasB ev.tags x)) ∧ Below w.heap.size w w' := by
  obtain ⟨A, n, ca, B, m, cb, rfl, he, hi⟩ := hb
  have c := Go.Lib.hid (evHas_any _ ev x w hi)
  have k0 := he.c0
  have k1 := he.c1
  have k2 := he.c2
  have k3 := he.c3
  clear he hi
  generalize hasB ev.tags x = R at *
  go_enter Tryz.func93, Tryz.ntmps93
  go_wp2_with (refine (c.out).mono ?_; rintro e w2 ⟨rfl, b2⟩)
  go_ret
  exact ⟨rfl, b2⟩

set_option maxHeartbeats 4000000 in
set_option maxRecDepth 100000 in
theorem hasTags_any (u : Value) (ev : Ev) (T : Option Addr) (nT cT : Nat) (ts : List ByteArray) (w : World) (hu : IsEv w u ev) (rT : RdS w T nT cT ts) :
    Calls Tryz.prog 69 #[u, .slice T nT cT] w fun e w' => e = .returned (.bool (ts.all fun x => hasB ev.tags x)) ∧ Below w.heap.size w w' := by
  obtain ⟨A, n, ca, B, m, cb, rfl, ra, rb⟩ := hu
  have al : Below w.heap.size w (w.alloc (.cells #[.string ev.s, .string ev.t, .slice A n ca, .slice B m cb] 42)) := (Below.refl _ _).alloc (Nat.le_refl _) _
  have e0 := EvAt.new w (.string ev.s) (.string ev.t) (.slice A n ca) (.slice B m cb)
  have bx : EvBox _ w.heap.size _ ev := ⟨A, n, ca, B, m, cb, rfl, e0, ⟨A, n, ca, B, m, cb, rfl, RdC.below ra al, RdC.below rb al⟩⟩
  have c0 := hasFuncSc_any T nT cT ts 93 #[.pointer (some ⟨w.heap.size, 0, none⟩)] (fun x => !hasB ev.tags x) _ (RdC.below rT al) (enters_of Tryz.func93 (by kernel_rfl) rfl) (fun W b x _ => hasTags1_any w.heap.size _ ev x W (bx.below b))
  have h := Bool.not_not (ts.all fun x => hasB ev.tags x)
  rw [any_nt'] at c0
  rw [← h]
  clear h bx e0 rT ra rb
  generalize (!ts.all fun x => hasB ev.tags x) = R at *
  have c := Go.Lib.hid c0
  clear c0
  go_enter Tryz.func69, Tryz.ntmps69
  go_upto_region 1 with (fail)
  generalize w.alloc (.cells #[.string ev.s, .string ev.t, .slice A n ca, .slice B m cb] 42) = w1 at *
  go_wp2_with (refine (c.out).mono ?_; rintro e w2 ⟨rfl, b2⟩)
  go_ret
  exact ⟨rfl, below_chain al b2⟩

set_option maxHeartbeats 4000000 in
set_option maxRecDepth 100000 in
theorem isOneOf_any (u : Value) (ev : Ev) (T : Option Addr) (nT cT : Nat) (ts : List ByteArray) (w : World) (hu : IsEv w u ev) (rT : RdS w T nT cT ts) :
    Calls Tryz.prog 70 #[u, .slice T nT cT] w fun e w' => e = .returned (.bool (decide (ts = []) || hasB ts ev.t)) ∧ Below w.heap.size w w' := by
  obtain ⟨A, n, ca, B, m, cb, rfl, ra, rb⟩ := hu
  have hn := RdC.le rT
  unfold maxLen at hn
  have LT := Go.Lib.hid rT.len
  have al : Below w.heap.size w (w.alloc (.cells #[.string ev.s, .string ev.t, .slice A n ca, .slice B m cb] 42)) := (Below.refl _ _).alloc (Nat.le_refl _) _
  have e0 := EvAt.new w (.string ev.s) (.string ev.t) (.slice A n ca) (.slice B m cb)
  have k1 := e0.c1
  have c := Go.Lib.hid (contains_any T nT cT ts ev.t _ (RdC.below rT al))
  clear rT ra rb e0
  generalize hR : (decide (ts = []) || hasB ts ev.t) = R
  have HR := Go.Lib.hid hR
  clear hR
  go_enter Tryz.func70, Tryz.ntmps70
  go_upto_region 1 with (fail)
  generalize w.alloc (.cells #[.string ev.s, .string ev.t, .slice A n ca, .slice B m cb] 42) = w1 at *
  by_cases h0 : nT = 0
  · subst h0
    have hR : R = true := by
      have h1 : ts = [] := List.eq_nil_of_length_eq_zero LT.out
      rw [← HR.out, decide_eq_true h1]
      rfl
    subst hR
    go_wp2_with fail
    go_ret
    exact ⟨rfl, al⟩
  · have h1 : ((nT : Int) == 0) = false := by rw [beq_eq_false_iff_ne]; omega
    have hR : hasB ts ev.t = R := by
      have h1 : ¬ ts = [] := fun h => h0 (by rw [← LT.out, h]; rfl)
      rw [← HR.out, decide_eq_false h1]
      rfl
    have d := c.out
    rw [hR] at d
    have D := Go.Lib.hid d
    clear d c hR
    go_wp2_with (refine (D.out).mono ?_; rintro e w2 ⟨rfl, b2⟩)
    go_ret
    exact ⟨rfl, below_chain al b2⟩

set_option maxHeartbeats 4000000 in
set_option maxRecDepth 100000 in
theorem match1_any (g : Nat) (u : Value) (ev : Ev) (v : Value) (c : Cl) (w : World) (hv : IsCl w v c) (hb : EvBox w g u ev) :
    Calls Tryz.prog 68 #[v, .pointer (some ⟨g, 0, none⟩)] w fun e w' => e = .returned (.bool (clauseB c ev)) ∧ Below w.heap.size w w' := by
  obtain ⟨T, nT, cT, Y, nY, cY, rfl, rT, rY⟩ := hv
  have al : Below w.heap.size w (w.alloc (.cells #[.slice T nT cT, .slice Y nY cY] 87)) := (Below.refl _ _).alloc (Nat.le_refl _) _
  have k := ClAt.new w (.slice T nT cT) (.slice Y nY cY)
  have rT1 := RdC.below rT al
  have rY1 := RdC.below rY al
  obtain ⟨A, n, ca, B, m, cb, rfl, he0, hi0⟩ := hb
  have he := he0.below al he0.lt
  have hi := hi0.below al
  clear rT rY he0 hi0
  generalize hR : clauseB c ev = R
  have HR := Go.Lib.hid hR
  clear hR
  go_enter Tryz.func68, Tryz.ntmps68
  go_upto_region 1 with (fail)
  generalize w.alloc (.cells #[.slice T nT cT, .slice Y nY cY] 87) = w1 at *
  have k0 := k.c0
  have k1 := k.c1
  have j0 := he.c0
  have j1 := he.c1
  have j2 := he.c2
  have j3 := he.c3
  have c1 := hasTags_any _ ev T nT cT c.tags w1 hi rT1
  generalize h1 : (c.tags.all fun x => hasB ev.tags x) = R1 at *
  have H1 := Go.Lib.hid h1
  have C1 := Go.Lib.hid c1
  clear h1 c1
  cases R1 with
  | false =>
    have hR : R = false := by
      rw [← HR.out]
      unfold clauseB
      rw [H1.out]
      rfl
    subst hR
    clear rT1 rY1 hi k
    go_wp2_with (refine (C1.out).mono ?_; rintro e w2 ⟨rfl, b2⟩)
    go_ret
    exact ⟨rfl, below_chain al b2⟩
  | true =>
    have hR : (decide (c.types = []) || hasB c.types ev.t) = R := by
      rw [← HR.out]
      unfold clauseB
      rw [H1.out, Bool.true_and]
    have HR2 := Go.Lib.hid hR
    clear hR
    go_wp2_with (refine (C1.out).mono ?_; rintro e w2 ⟨rfl, b2⟩; have l1 := bcell b2 k1; have i0 := bcell b2 j0; have i1 := bcell b2 j1; have i2 := bcell b2 j2; have i3 := bcell b2 j3; have B2 := below_chain al b2; have c2 := isOneOf_any _ ev Y nY cY c.types w2 (hi.below b2) (RdC.below rY1 b2); rw [HR2.out] at c2; have C2 := Go.Lib.hid c2; clear c2 rT1 rY1 hi k k0 k1 j0 j1 j2 j3 b2 he)
    go_wp2_with (refine (C2.out).mono ?_; rintro e w3 ⟨rfl, b3⟩)
    go_ret
    exact ⟨rfl, below_chain B2 b3⟩

set_option maxHeartbeats 4000000 in
set_option maxRecDepth 100000 in
theorem matchQ_any (v u : Value) (q : List Cl) (ev : Ev) (w : World) (hv : IsQ w v q) (hu : IsEv w u ev) :
    Calls Tryz.prog 46 #[v, u] w fun e w' => e = .returned (.bool (matchQ q ev)) ∧ Below w.heap.size w w' := by
  obtain ⟨C, n, cap, rfl, rC⟩ := hv
  have hu0 := hu
  obtain ⟨A, nA, cA, B, nB, cB, rfl, _, _⟩ := hu
  have s1 := QeAt.new w (.slice C n cap) (.string ev.s) (.string ev.t) (.slice A nA cA) (.slice B nB cB)
  have bx : EvBox _ (w.heap.size + 1) _ ev := ⟨A, nA, cA, B, nB, cB, rfl, s1.ee, hu0.below s1.bel⟩
  have c0 := hasFuncC_any C n cap q 68 #[.pointer (some ⟨w.heap.size + 1, 0, none⟩)] (fun c => clauseB c ev) _ (rC.below s1.bel) (enters_of Tryz.func68 (by kernel_rfl) rfl) (fun W b v c _ hi => match1_any (w.heap.size + 1) _ ev v c W hi (bx.below b))
  have k0 := s1.eq.c0
  have B1 := s1.bel
  unfold matchQ
  generalize (q.any fun c => clauseB c ev) = R at *
  have c := Go.Lib.hid c0
  clear c0 bx hu0 rC s1
  go_enter Tryz.func46, Tryz.ntmps46
  go_upto_region 1 with (fail)
  generalize (w.alloc (.cells #[.slice C n cap] 25)).alloc (.cells #[.string ev.s, .string ev.t, .slice A nA cA, .slice B nB cB] 42) = w1 at *
  go_wp2_with (refine (c.out).mono ?_; rintro e w2 ⟨rfl, b2⟩)
  go_ret
  exact ⟨rfl, below_chain B1 b2⟩

end Go.Proofs.YtiplfhmimpkplaaGreat.QuWalk

/-
  Contracts of the landed index: Last, count, All, Since.
-/
namespace Go.Proofs.YtiplfhmimpkplaaGreat.IxWalk
open Go.RowKit Go.Maps Go.Proofs.YtiplfhmimpkplaaGreat.MemRow Go.Proofs.YtiplfhmimpkplaaGreat.Ev Go.Proofs.YtiplfhmimpkplaaGreat.NameMath Go.Proofs.YtiplfhmimpkplaaGreat.NameWalk Go.Proofs.YtiplfhmimpkplaaGreat.EvWalk Go.Proofs.YtiplfhmimpkplaaGreat.NumMem Go.Proofs.YtiplfhmimpkplaaGreat.Qu Go.Proofs.YtiplfhmimpkplaaGreat.QuWalk Go.Proofs.YtiplfhmimpkplaaGreat.SmWalk Go.Proofs.YtiplfhmimpkplaaGreat.BtWalk Go.Proofs.YtiplfhmimpkplaaGreat.DkWalk Go.Proofs.YtiplfhmimpkplaaGreat.InWalk

theorem elem_recs : Tryz.prog.elem 32 = 51 := by kernel_rfl
set_option maxRecDepth 100000 in
/-- v[:m] -/
theorem slice_hiR (A : Option Addr) {n c m : Nat} (hc : n ≤ c) (hm : m ≤ n) (W : World) : (Instr.slice 32 (.slice A n c) none (some (.int .i64 (m : Int))) none).run Tryz.prog W = .ok (.slice A m c) W := by
  have hu : Tryz.prog.underlying 32 = some (.slice (Tryz.prog.elem 32)) := by rw [elem_recs]; exact Tryz.underlying32
  have e0 : A.map (·.add 0) = A := by cases A <;> simp [Addr.add]
  rw [run_slice_h (P := Tryz.prog) W 32 _ n c hu .i64 (m : Int) (by omega) (by omega), elem_recs, run_size (k := 6) (by kernel_rfl)]
  simp only [Result.andThen, sliced, Int.toNat_natCast, Nat.zero_mul, e0, Nat.sub_zero]
  congr 2
  split <;> rfl
set_option maxRecDepth 100000 in
/-- v[m:] -/
theorem slice_loR (A : Option Addr) {n c m : Nat} (hm : m ≤ n) (W : World) : (Instr.slice 32 (.slice A n c) (some (.int .i64 (m : Int))) none none).run Tryz.prog W = .ok (.slice (if c = m then A else A.map (·.add (m * 6))) (n - m) (c - m)) W := by
  have hu : Tryz.prog.underlying 32 = some (.slice (Tryz.prog.elem 32)) := by rw [elem_recs]; exact Tryz.underlying32
  rw [run_slice_l (P := Tryz.prog) W 32 _ n c hu .i64 (m : Int) (by omega) (by omega), elem_recs, run_size (k := 6) (by kernel_rfl)]
  simp only [Result.andThen, sliced, Int.toNat_natCast]
theorem RdRc.first {w : World} {A : Option Addr} {n c m : Nat} {rs : List Rc} (h : RdRc w A n c rs) (hm : m ≤ n) : RdRc w A m c (rs.take m) := by
  refine ⟨by rw [List.length_take, h.1]; omega, Nat.le_trans hm h.2.1, h.2.2.1, fun hn => ?_⟩
  obtain ⟨b, o, hA, hlt, hc⟩ := h.2.2.2 (by omega)
  refine ⟨b, o, hA, hlt, fun i hi => ?_⟩
  have e : (rs.take m).getD i noRc = rs.getD i noRc := by
    rw [List.getD_eq_getElem?_getD, List.getD_eq_getElem?_getD, List.getElem?_take_of_lt hi]
  rw [e]
  exact hc i (by omega)
theorem RdRc.cut {w : World} {A : Option Addr} {n c m : Nat} {rs : List Rc} (h : RdRc w A n c rs) (hm : m ≤ n) : RdRc w (if c = m then A else A.map (·.add (m * 6))) (n - m) (c - m) (rs.drop m) := by
  have hle := h.2.1
  refine ⟨by rw [List.length_drop, h.1], by omega, by have := h.2.2.1; omega, fun hn => ?_⟩
  obtain ⟨b, o, rfl, hlt, hc⟩ := h.2.2.2 (by omega)
  rw [if_neg (by omega)]
  refine ⟨b, o + m * 6, by simp [Addr.add], hlt, fun i hi => ?_⟩
  have e : (rs.drop m).getD i noRc = rs.getD (m + i) noRc := by
    rw [List.getD_eq_getElem?_getD, List.getD_eq_getElem?_getD, List.getElem?_drop]
  rw [e, show o + m * 6 + i * 6 = o + (m + i) * 6 by omega]
  exact hc (m + i) (by omega)

section
variable {w : World} {F G W : Nat → Prop} {old : Option Hx} {gx : Nat} {m lp a t y : Value} {es : List Ev}
theorem OldR.len (o : OldR w F G W old (recF es)) {A : Option Addr} {n c : Nat} (e : mkX old = .slice A n c) : n = es.length := by
  rcases o with ⟨h, rfl, r⟩ | ⟨rfl, hr⟩
  · injection e with _ e2 _
    rw [← e2, ← r.len, rec_len]
  · injection e with _ e2 _
    rw [← e2, ← rec_len es, hr]
    rfl
set_option maxHeartbeats 2000000 in
set_option maxRecDepth 100000 in
theorem last14_any (hx : XBx w gx (mkX old) m lp a t y) (ho : OldR w F G W old (recF es)) :
    Calls Tryz.prog 8 #[.pointer (some ⟨gx, 0, none⟩)] w fun e w' => e = .returned (.int .i64 (es.length : Nat)) ∧ w' = w := by
  obtain ⟨A2, n2, c2, e2, r2, _⟩ := ho.rd
  have hn := ho.len e2
  rw [e2] at hx
  have k0 := hx.c0
  clear ho r2 hx
  subst hn
  go_enter Tryz.func8, Tryz.ntmps8
  go_wp2_with fail
  go_ret
  exact ⟨rfl, rfl⟩
set_option maxHeartbeats 2000000 in
set_option maxRecDepth 100000 in
theorem count14_any {w : World} {gx n2 c2 : Nat} {A2 : Option Addr} {m lp a t y : Value} (hx : XBx w gx (.slice A2 n2 c2) m lp a t y) (u : Int) :
    Calls Tryz.prog 39 #[.pointer (some ⟨gx, 0, none⟩), .int .i64 u] w fun e w' => e = .returned (.int .i64 (cntU u n2 : Nat)) ∧ w' = w := by
  have k0 := hx.c0
  clear hx
  have HC := Go.Lib.hid (cntU_eq u n2)
  go_enter Tryz.func39, Tryz.ntmps39
  go_wp2_with fail
  go_ret
  rw [HC.out]
  exact ⟨rfl, rfl⟩
set_option maxHeartbeats 4000000 in
set_option maxRecDepth 100000 in
theorem all14_any (hx : XBx w gx (mkX old) m lp a t y) (ho : OldR w F G W old (recF es)) (he : es.length ≤ 1000) (hf : RcsFit (recF es)) (u : Int) :
    Calls Tryz.prog 23 #[.pointer (some ⟨gx, 0, none⟩), .int .i64 u] w fun e w' => CopOut w w' (allF es u) e := by
  obtain ⟨A2, n2, c2, e2, r2, _⟩ := ho.rd
  have hn := ho.len e2
  subst hn
  have bq : ∀ q, Below w.heap.size w (w.drewN q) := fun q => ⟨rfl, rfl, rfl, Nat.le_refl _, fun _ _ => rfl⟩
  have hle := cntU_le u es.length
  have qs := slice_hiR A2 r2.2.1 hle
  have r3 := r2.first hle
  rw [← all_by] at r3
  have hf3 : RcsFit (allF es u) := fun r hr => hf r (tell_mem.1 hr).1
  have CC := Go.Lib.hid (fun q => copies_any A2 (cntU u es.length) c2 (allF es u) (w.drewN q) (r3.drewN q) (by omega) hf3)
  have BQ := Go.Lib.hid bq
  rw [e2] at hx
  have CN := Go.Lib.hid (fun q => count14_any (hx.below (bq q)) u)
  have k0 := hx.c0
  have kq : ∀ q, (w.drewN q).cell? ⟨gx, 0, none⟩ = some (.slice A2 es.length c2) := fun q => hx.c0
  have HX := Go.Lib.hid hx
  clear ho r2 hx bq r3 hf3 hf hle e2
  generalize cntU u es.length = k at *
  generalize allF es u = rs at *
  generalize es.length = n at *
  go_enter Tryz.func23, Tryz.ntmps23
  go_upto_region 1 with (fail)
  go_region_held (fun w' => w'.cell? ⟨gx, 0, none⟩ = some (.slice A2 n c2))
    (first | exact k0 | exact kq _ | exact y6)
    (first
      | (go_at_call 39; refine (CN.out _).mono ?_; rintro e w5 ⟨rfl, rfl⟩)
      | (go_at_call 18; refine (CC.out _).mono ?_; rintro e w6 HE; obtain ⟨g6, n6, rfl, h6⟩ := id HE; have y6 := (HX.out.below ((BQ.out _).trans h6.2.2.2)).c0; have HEH := Go.Lib.hid h6; clear h6 HE))
  all_goals
    go_wp2_with fail
    go_ret
    obtain ⟨q1, q2, q3, q4⟩ := HEH.out
    exact ⟨g6, n6, rfl, q1, q2, q3, (BQ.out _).trans q4⟩
end

/-! ### Since -/
/-- The value v is the record r. -/
def IsRc (w : World) (v : Value) (r : Rc) : Prop := ∃ T nT cT Y nY cY, v = .agg #[.int .i64 r.pos, .int .i64 r.ver, .string r.e.s, .string r.e.t, .slice T nT cT, .slice Y nY cY] ∧ RdS w T nT cT r.e.tags ∧ RdF w Y nY cY r.e.fs
/-- A predicate on records that holds what it captured, handed to the library. -/
def PredRc (g : Nat) (caps : Array Value) (p : Rc → Bool) (rs : List Rc) (w : World) : Prop :=
  ∀ W, Below w.heap.size w W → ∀ v, ∀ r ∈ rs, IsRc W v r → Calls Tryz.prog g (#[v] ++ caps) W fun e W' => e = .returned (.bool (p r)) ∧ Below W.heap.size W W'
set_option maxHeartbeats 4000000 in
set_option maxRecDepth 100000 in
theorem idxFuncR_any (A : Option Addr) (n ca : Nat) (rs : List Rc) (g : Nat) (caps : Array Value) (p : Rc → Bool) (w : World) (ha : RdRc w A n ca rs) (eg : Runs g) (hp : PredRc g caps p rs w) :
    Calls Tryz.prog 66 #[.slice A n ca, .func (.func g) #[] caps] w fun e w' => EvWalk.Found (rs.any p) e ∧ Below w.heap.size w w' := by
  unfold Runs at eg
  have hn := ha.le
  unfold maxLen at hn
  have la := ha.len
  generalize hR : rs.any p = R
  have HR := Go.Lib.hid hR
  have LA := Go.Lib.hid la
  have HP := Go.Lib.hid hp
  clear hR la hp
  go_enter Tryz.func66, Tryz.ntmps66
  go_wp2_with fail
  go_loopw [5, 8] (fun _ i wr => ∃ j : Nat, j ≤ n ∧ i = .int .i64 j ∧ (rs.take j).any p = false ∧ Below w.heap.size w wr) (fun _ i _ => n - (intOf i).toNat)
  case atStart => exact ⟨0, Nat.zero_le _, rfl, rfl, Below.refl _ _⟩
  case round =>
    obtain ⟨j, hj, rfl, hq, hb⟩ := hrel
    have HQ := Go.Lib.hid hq
    clear hq
    have a1 := ha.below hb
    by_cases hlt : j < n
    · obtain ⟨ba, oa, rfl, _, ka⟩ := a1.at_ (by omega)
      obtain ⟨T, nT, cT, Y, nY, cY, x0, x1, x2, x3, x4, x5, rT, rY⟩ := ka j hlt
      have i1 : (j : Int) < n := by omega
      have hjl : j < rs.length := by rw [LA.out]; exact hlt
      have HM := Go.Lib.hid (fun h => any_miss (p := p) (d := noRc) hjl HQ.out h)
      have HH := Go.Lib.hid (fun h => any_hit (p := p) (d := noRc) hjl h)
      have c := Go.Lib.hid (HP.out wr hb (.agg #[.int .i64 (rs.getD j noRc).pos, .int .i64 (rs.getD j noRc).ver, .string (rs.getD j noRc).e.s, .string (rs.getD j noRc).e.t, .slice T nT cT, .slice Y nY cY]) _ (rc_get hjl) ⟨T, nT, cT, Y, nY, cY, rfl, rT, rY⟩)
      clear ka hjl a1 rT rY
      generalize rs.getD j noRc = y at *
      cases hpy : p y with
      | true =>
        have hR : R = true := by rw [← HR.out]; exact HH.out hpy
        subst hR
        rw [hpy] at c
        clear HM HH hpy
        go_wp2_with (refine (c.out).mono ?_; rintro e w1 ⟨rfl, b1⟩)
        go_ret
        exact ⟨⟨j, rfl, dec_ge0 j⟩, below_chain hb b1⟩
      | false =>
        rw [hpy] at c
        have HN := Go.Lib.hid (HM.out hpy)
        clear HM HH hpy
        go_wp2_with (refine (c.out).mono ?_; rintro e w1 ⟨rfl, b1⟩)
        go_roundw
        case rel => exact ⟨j + 1, by omega, by go_num, HN.out, below_chain hb b1⟩
        case measure => simp [intOf]; omega
    · obtain rfl : n = j := by omega
      have hR : R = false := by
        rw [← HR.out]
        have h1 := HQ.out
        rwa [List.take_of_length_le (by rw [LA.out]; exact Nat.le_refl _)] at h1
      subst hR
      go_wp2_with fail
      go_ret
      exact ⟨⟨-1, rfl, by decide⟩, hb⟩
set_option maxHeartbeats 2000000 in
set_option maxRecDepth 100000 in
theorem hasFuncR_any (A : Option Addr) (n ca : Nat) (rs : List Rc) (g : Nat) (caps : Array Value) (p : Rc → Bool) (w : World) (ha : RdRc w A n ca rs) (eg : Runs g) (hp : PredRc g caps p rs w) :
    Calls Tryz.prog 44 #[.slice A n ca, .func (.func g) #[] caps] w fun e w' => e = .returned (.bool (rs.any p)) ∧ Below w.heap.size w w' := by
  have c := Go.Lib.hid (idxFuncR_any A n ca rs g caps p w ha eg hp)
  clear ha eg hp
  generalize rs.any p = R at c ⊢
  go_enter Tryz.func44, Tryz.ntmps44
  go_wp2_with (refine (c.out).mono ?_; rintro e w' ⟨⟨i, rfl, rfl⟩, b1⟩)
  go_ret
  exact ⟨rfl, b1⟩
set_option maxHeartbeats 4000000 in
set_option maxRecDepth 100000 in
theorem since1_any {w : World} {g : Nat} {C : Option Addr} {n cap : Nat} {q : List Cl} {v : Value} {r : Rc} (hq : RdQ w C n cap q) (hb : w.cell? ⟨g, 0, none⟩ = some (.slice C n cap)) (hv : IsRc w v r) :
    Calls Tryz.prog 45 #[v, .pointer (some ⟨g, 0, none⟩)] w fun e w' => e = .returned (.bool (matchQ q r.e)) ∧ Below w.heap.size w w' := by
  obtain ⟨T, nT, cT, Y, nY, cY, rfl, rT, rY⟩ := hv
  obtain ⟨p, vr, e⟩ := r
  simp only at rT rY
  have b1 : Below w.heap.size w (w.alloc (.cells #[.int .i64 p, .int .i64 vr, .string e.s, .string e.t, .slice T nT cT, .slice Y nY cY] 51)) := (Below.refl _ _).alloc (Nat.le_refl _) _
  have x1 := RxAt.new w (.int .i64 p) (.int .i64 vr) (.string e.s) (.string e.t) (.slice T nT cT) (.slice Y nY cY)
  have y0 := bcell b1 hb
  have k2 := x1.c2
  have k3 := x1.c3
  have k4 := x1.c4
  have k5 := x1.c5
  have MC := Go.Lib.hid (matchQ_any (.agg #[.slice C n cap]) (.agg #[.string e.s, .string e.t, .slice T nT cT, .slice Y nY cY]) q e _ ⟨C, n, cap, rfl, hq.below b1⟩ ⟨T, nT, cT, Y, nY, cY, rfl, RdC.below rT b1, RdC.below rY b1⟩)
  have B1 := Go.Lib.hid b1
  clear rT rY hq hb b1 x1
  go_enter Tryz.func45, Tryz.ntmps45
  go_wp2_with (refine (MC.out).mono ?_; rintro e w2 ⟨rfl, b2⟩)
  go_ret
  exact ⟨rfl, below_chain B1.out b2⟩
section
variable {w : World} {F G W : Nat → Prop} {old : Option Hx} {gx : Nat} {m lp a t y : Value} {es : List Ev}
set_option maxHeartbeats 4000000 in
set_option maxRecDepth 100000 in
theorem since14_any {v : Value} {q : List Cl} (hx : XBx w gx (mkX old) m lp a t y) (ho : OldR w F G W old (recF es)) (hv : IsQ w v q) (u : Int) :
    Calls Tryz.prog 28 #[.pointer (some ⟨gx, 0, none⟩), v, .int .i64 u] w fun e w' => e = .returned (.bool (sinceF es q u)) ∧ Below w.heap.size w w' := by
  obtain ⟨C, nq, cq, rfl, rq⟩ := hv
  obtain ⟨A2, n2, c2, e2, r2, _⟩ := ho.rd
  have hn := ho.len e2
  subst hn
  have b1 : Below w.heap.size w (w.alloc (.cells #[.slice C nq cq] 25)) := (Below.refl _ _).alloc (Nat.le_refl _) _
  have x1 := heap_alloc_new w (.cells #[.slice C nq cq] 25)
  rw [e2] at hx
  have hx1 := hx.below b1
  have rq1 := rq.below b1
  have r3 := r2.below b1
  have hle := cntU_le u es.length
  have qs := slice_loR A2 (c := c2) hle
  have r4 := r3.cut hle
  rw [since_by es q u]
  generalize hR : ((recF es).drop (cntU u es.length)).any (fun x => matchQ q x.e) = R
  have HR := Go.Lib.hid hR
  clear hR
  have hbx : (w.alloc (.cells #[.slice C nq cq] 25)).cell? ⟨w.heap.size, 0, none⟩ = some (.slice C nq cq) := by rw [cell_of_row _ _ 0 _ _ _ x1]; rfl
  have HB1 := Go.Lib.hid b1
  clear ho r2 hx e2 rq x1 r3 b1
  go_enter Tryz.func28, Tryz.ntmps28
  go_upto_region 1 with (fail)
  generalize w.alloc (.cells #[.slice C nq cq] 25) = w1 at *
  have bq : ∀ k, Below w1.heap.size w1 (w1.drewN k) := fun k => ⟨rfl, rfl, rfl, Nat.le_refl _, fun _ _ => rfl⟩
  have eg : Runs 45 := enters_of Tryz.func45 (by kernel_rfl) rfl
  have CN := Go.Lib.hid (fun k => count14_any (hx1.below (bq k)) u)
  have ch := (fun k => hasFuncR_any _ _ _ _ 45 #[.pointer (some ⟨w.heap.size, 0, none⟩)] (fun x => matchQ q x.e) (w1.drewN k) (r4.drewN k) eg (fun W b v r _ hv => since1_any (rq1.below ((bq k).trans b)) (bcell ((bq k).trans b) hbx) hv))
  have k0 := hx1.c0
  have kq : ∀ k, (w1.drewN k).cell? ⟨gx, 0, none⟩ = some (.slice A2 es.length c2) := fun k => hx1.c0
  have HX := Go.Lib.hid hx1
  have BQ := Go.Lib.hid bq
  simp only [HR.out] at ch
  have CH := Go.Lib.hid ch
  clear hx1 rq1 hle r4 hbx bq eg ch HR
  generalize (if c2 = cntU u es.length then A2 else A2.map (·.add (cntU u es.length * 6))) = A3 at *
  generalize cntU u es.length = k at *
  generalize es.length = n at *
  go_region_held (fun w' => w'.cell? ⟨gx, 0, none⟩ = some (.slice A2 n c2))
    (first | exact k0 | exact kq _ | exact y6)
    (first
      | (go_at_call 39; refine (CN.out _).mono ?_; rintro e w5 ⟨rfl, rfl⟩)
      | (go_at_call 44; refine (CH.out _).mono ?_; rintro e w6 ⟨rfl, b6⟩; have b7 := (BQ.out _).trans b6; have y6 := (HX.out.below b7).c0; have B7 := Go.Lib.hid b7; clear b7 b6))
  all_goals
    go_wp2_with fail
    go_ret
    exact ⟨rfl, below_chain HB1.out B7.out⟩
end

end Go.Proofs.YtiplfhmimpkplaaGreat.IxWalk

/-
  Layer 12's mathematics, more: a stream's whole list; which part of it a bound tells; the landed Version's count. No walk here.
-/
namespace Go.Proofs.YtiplfhmimpkplaaGreat.SmWalk
open Go.RowKit Go.Proofs.YtiplfhmimpkplaaGreat.MemRow Go.Proofs.YtiplfhmimpkplaaGreat.Ev Go.Proofs.YtiplfhmimpkplaaGreat.NameMath Go.Proofs.YtiplfhmimpkplaaGreat.NameWalk Go.Proofs.YtiplfhmimpkplaaGreat.EvWalk

def allP (T : Tb) (s : ByteArray) : List Int := (T.filter fun x => decide (x.1 = s)).map (·.2)
theorem allP_nil (s : ByteArray) : allP [] s = [] := rfl
theorem allP_hit (T : Tb) (s : ByteArray) (p : Int) : allP (T ++ [(s, p)]) s = allP T s ++ [p] := by
  unfold allP
  rw [List.filter_append, List.map_append]
  simp
theorem allP_miss (T : Tb) {s t : ByteArray} (h : t ≠ s) (p : Int) : allP (T ++ [(s, p)]) t = allP T t := by
  unfold allP
  rw [List.filter_append, List.map_append]
  have : ¬ s = t := fun e => h e.symm
  simp [this]
theorem namesT_mem {T : Tb} {s : ByteArray} : s ∈ namesT T ↔ ∃ x ∈ T, x.1 = s := by
  unfold namesT
  rw [normTags_mem, List.mem_map]
theorem namesT_up (T : Tb) : Up (namesT T) := normTags_up _
theorem namesT_more {T : Tb} {s : ByteArray} {p : Int} (t : ByteArray) : t ∈ namesT (T ++ [(s, p)]) ↔ t = s ∨ t ∈ namesT T := by
  rw [namesT_mem, namesT_mem]
  constructor
  · rintro ⟨x, hx, rfl⟩
    rcases List.mem_append.1 hx with hx | hx
    · exact .inr ⟨x, hx, rfl⟩
    · rw [List.mem_singleton] at hx
      exact .inl (by rw [hx])
  · rintro (rfl | ⟨x, hx, rfl⟩)
    · exact ⟨(t, p), by simp, rfl⟩
    · exact ⟨x, by simp [hx], rfl⟩
theorem allP_some {T : Tb} {s : ByteArray} (h : s ∈ namesT T) : 0 < (allP T s).length := by
  obtain ⟨x, hx, rfl⟩ := namesT_mem.1 h
  unfold allP
  rw [List.length_map]
  exact List.length_pos_of_mem (List.mem_filter.2 ⟨hx, by simp⟩)
theorem allP_none {T : Tb} {s : ByteArray} (h : ¬ s ∈ namesT T) : allP T s = [] := by
  unfold allP
  rw [List.map_eq_nil_iff, List.filter_eq_nil_iff]
  intro x hx e
  exact h (namesT_mem.2 ⟨x, hx, by simpa using e⟩)
theorem allP_len (T : Tb) (s : ByteArray) : (allP T s).length ≤ T.length := by
  unfold allP
  rw [List.length_map]
  exact List.length_filter_le _ _
theorem namesT_len (T : Tb) : (namesT T).length ≤ T.length := by
  have := normTags_len (T.map (·.1))
  unfold namesT
  rwa [List.length_map] at this
theorem namesT_sz {T : Tb} (h : TOk T) {s : ByteArray} (hs : s ∈ namesT T) : s.size ≤ maxLen := by
  obtain ⟨x, hx, rfl⟩ := namesT_mem.1 hs
  exact h.sz x hx
theorem allP_rise {T : Tb} (h : RiseT T) (s : ByteArray) : (allP T s).Pairwise (· < ·) := by
  unfold allP
  rw [List.pairwise_map]
  exact h.1.sublist List.filter_sublist
theorem posF_all (T : Tb) (s : ByteArray) (u : Int) : posF T s u = (allP T s).filter fun q => decide (q ≤ u) := by
  induction T with
  | nil => rfl
  | cons x T ih =>
    have e : allP (x :: T) s = (if x.1 = s then [x.2] else []) ++ allP T s := by
      unfold allP
      rw [List.filter_cons]
      by_cases h : x.1 = s
      · rw [if_pos (by simpa using h), if_pos h]; rfl
      · rw [if_neg (by simpa using h), if_neg h]; rfl
    rw [posF_cons, e, List.filter_append, ih]
    congr 1
    by_cases h : x.1 = s
    · by_cases h2 : x.2 ≤ u
      · simp [h, h2]
      · simp [h, h2]
    · simp [h]
/-- How many of a rising row are not greater, as a search tells it. -/
def verN (l : List Int) (u : Int) : Nat := l.countP (· < u) + if u ∈ l then 1 else 0
theorem verN_filter {u : Int} : ∀ {l : List Int}, l.Pairwise (· < ·) → (l.filter fun q => decide (q ≤ u)) = l.take (verN l u) ∧ (l.filter fun q => decide (q ≤ u)).length = verN l u
  | [], _ => by simp [verN]
  | a :: l, h => by
    obtain ⟨h1, h2⟩ := List.pairwise_cons.1 h
    obtain ⟨i1, i2⟩ := verN_filter (u := u) h2
    rcases Int.lt_trichotomy a u with hl | rfl | hg
    · have e : verN (a :: l) u = verN l u + 1 := by
        unfold verN
        rw [List.countP_cons_of_pos (by simpa using hl)]
        have : u ∈ a :: l ↔ u ∈ l := by
          rw [List.mem_cons]
          exact ⟨fun h => h.resolve_left (by omega), .inr⟩
        by_cases hm : u ∈ l
        · rw [if_pos hm, if_pos (this.2 hm)]
        · rw [if_neg hm, if_neg fun h => hm (this.1 h)]
      have hle : a ≤ u := by omega
      rw [e, List.take_succ_cons, List.filter_cons, if_pos (by simpa using hle), List.length_cons, ← i1, i2]
      exact ⟨rfl, rfl⟩
    · have hz : (l.filter fun q => decide (q ≤ a)) = [] := List.filter_eq_nil_iff.2 fun q hq => by
        have := h1 q hq
        simp only [decide_eq_true_eq]
        omega
      have hc : l.countP (· < a) = 0 := List.countP_eq_zero.2 fun q hq => by
        have := h1 q hq
        simp only [decide_eq_true_eq]
        omega
      have e : verN (a :: l) a = 1 := by
        unfold verN
        rw [List.countP_cons_of_neg (by simp), hc, if_pos (by simp)]
      rw [e, List.filter_cons, if_pos (by simp), hz]
      exact ⟨by simp, rfl⟩
    · have hz : (l.filter fun q => decide (q ≤ u)) = [] := List.filter_eq_nil_iff.2 fun q hq => by
        have := h1 q hq
        simp only [decide_eq_true_eq]
        omega
      have hc : l.countP (· < u) = 0 := List.countP_eq_zero.2 fun q hq => by
        have := h1 q hq
        simp only [decide_eq_true_eq]
        omega
      have e : verN (a :: l) u = 0 := by
        unfold verN
        rw [List.countP_cons_of_neg (by simp only [decide_eq_true_eq]; omega), hc, if_neg]
        rintro h
        rcases List.mem_cons.1 h with h | h
        · omega
        · have := h1 u h
          omega
      rw [e, List.filter_cons, if_neg (by simp only [decide_eq_true_eq]; omega), hz]
      exact ⟨rfl, rfl⟩
theorem posF_take {T : Tb} (h : RiseT T) (s : ByteArray) (u : Int) : posF T s u = (allP T s).take (verN (allP T s) u) := by rw [posF_all, (verN_filter (allP_rise h s)).1]
theorem posF_ver {T : Tb} (h : RiseT T) (s : ByteArray) (u : Int) : (posF T s u).length = verN (allP T s) u := by rw [posF_all, (verN_filter (allP_rise h s)).2]
theorem verN_le {l : List Int} (h : l.Pairwise (· < ·)) (u : Int) : verN l u ≤ l.length := by
  rw [← (verN_filter h).2]
  exact List.length_filter_le _ _

end Go.Proofs.YtiplfhmimpkplaaGreat.SmWalk

/-
  Contracts of the library's own texts that the landed streams calls: slices.BinarySearch and slices.Clone at []int.
-/
namespace Go.Proofs.YtiplfhmimpkplaaGreat.SmWalk
open Go.RowKit Go.Proofs.YtiplfhmimpkplaaGreat.MemRow Go.Proofs.YtiplfhmimpkplaaGreat.Ev Go.Proofs.YtiplfhmimpkplaaGreat.NameMath Go.Proofs.YtiplfhmimpkplaaGreat.NameWalk Go.Proofs.YtiplfhmimpkplaaGreat.EvWalk Go.Proofs.YtiplfhmimpkplaaGreat.NumMem

set_option maxRecDepth 100000 in
theorem cmpNaN_any (x : Int) (w : World) : Calls Tryz.prog 96 #[.int .i64 x] w fun e w' => e = .returned (.bool false) ∧ w' = w := by
  have h : (x != x) = false := by simp
  go_enter Tryz.func96, Tryz.ntmps96
  go_wp2_with fail
  go_ret
  exact ⟨by simp, rfl⟩
set_option maxRecDepth 100000 in
theorem slNaN_any (x : Int) (w : World) : Calls Tryz.prog 72 #[.int .i64 x] w fun e w' => e = .returned (.bool false) ∧ w' = w := by
  have h : (x != x) = false := by simp
  go_enter Tryz.func72, Tryz.ntmps72
  go_wp2_with fail
  go_ret
  exact ⟨by simp, rfl⟩
set_option maxRecDepth 100000 in
theorem cmpLess_any (x y : Int) (w : World) : Calls Tryz.prog 71 #[.int .i64 x, .int .i64 y] w fun e w' => e = .returned (.bool (decide (x < y))) ∧ w' = w := by
  go_enter Tryz.func71, Tryz.ntmps71
  go_wp2_with (go_at_call 96; refine (cmpNaN_any _ _).mono ?_; rintro e w' ⟨rfl, rfl⟩)
  go_ret
  exact ⟨rfl, rfl⟩

set_option maxHeartbeats 4000000 in
set_option maxRecDepth 100000 in
theorem search_any (A : Option Addr) (n c : Nat) (l : List Int) (x : Int) (w : World) (h : RdI w A n c l) (hn : n ≤ 1000000) (hp : l.Pairwise (· ≤ ·)) :
    Calls Tryz.prog 47 #[.slice A n c, .int .i64 x] w fun e w' => e = .returned (.tuple #[.int .i64 (l.countP (· < x) : Nat), .bool (decide (x ∈ l))]) ∧ ∃ q, w' = w.drewN q := by
  have hlen := h.len
  have S : Hid (∀ a b, a ≤ b → b < n → l.getD a 0 ≤ l.getD b 0) := Go.Lib.hid (Lib.sorted_at l n (by omega) (by rw [← hlen, List.take_length]; exact hp))
  have EN : ∀ i, i ≤ n → (∀ t, t < i → l.getD t 0 < x) → (∀ t, i ≤ t → t < n → x ≤ l.getD t 0) → l.countP (· < x) = i ∧ decide (x ∈ l) = decide (i < n ∧ l.getD i 0 = x) := fun i hi h1 h2 => by
    obtain ⟨e1, e2⟩ := Lib.search_end l n i x (by omega) hi h1 h2 S.out
    rw [← hlen, List.take_length] at e1 e2
    refine ⟨e1, ?_⟩
    rw [← hlen]
    rw [← e2, List.contains_eq_mem]
  have EN := Go.Lib.hid EN
  have hc : ∀ j, j < n → ∃ b o, A = some ⟨b, o, none⟩ ∧ w.cell? ⟨b, o + j, none⟩ = some (.int .i64 (l.getD j 0)) := fun j hj => by
    obtain ⟨b, o, e, _, k⟩ := RdI.at_ h (by omega)
    exact ⟨b, o, e, k j hj⟩
  have HC := Go.Lib.hid hc
  clear hp hc h
  go_enter Tryz.func47, Tryz.ntmps47
  go_wp2_with fail
  go_loopw [7, 8] (fun s7 s8 wr => ∃ lo hi q : Nat, s7 = .int .i64 lo ∧ s8 = .int .i64 hi ∧ lo ≤ hi ∧ hi ≤ n ∧ wr = w.drewN q ∧ Hid ((∀ t, t < lo → l.getD t 0 < x) ∧ (∀ t, hi ≤ t → t < n → x ≤ l.getD t 0))) (fun s7 s8 _ => (intOf s8).toNat - (intOf s7).toNat)
  case atStart => exact ⟨0, n, 0, rfl, rfl, Nat.zero_le _, Nat.le_refl _, rfl, Go.Lib.hid ⟨fun t ht => absurd ht (Nat.not_lt_zero _), fun t h1 h2 => by omega⟩⟩
  case round =>
    obtain ⟨lo, hi, q, rfl, rfl, hlh, hin, rfl, I⟩ := hrel
    by_cases hlt : lo < hi
    · obtain ⟨b, o, rfl, cm⟩ := HC.out ((lo + hi) / 2) (by omega)
      have i1 : (lo : Int) < hi := by omega
      obtain ⟨y, hy⟩ : ∃ y, l.getD ((lo + hi) / 2) 0 = y := ⟨_, rfl⟩
      rw [hy] at cm
      have Y := Go.Lib.hid hy
      clear hy
      by_cases hyx : y < x
      · go_wp2_with (first | (go_at_call 71; refine (cmpLess_any _ _ _).mono ?_; rintro e w' ⟨rfl, rfl⟩))
        go_roundw
        case rel =>
          refine ⟨(lo + hi) / 2 + 1, hi, _, by rw [show ((lo : Int) + (hi : Int)) / 2 + 1 = (((lo + hi) / 2 + 1 : Nat) : Int) by omega], rfl, by omega, hin, rfl, Go.Lib.hid ⟨fun t ht => ?_, I.out.2⟩⟩
          have := S.out t ((lo + hi) / 2) (by omega) (by omega)
          rw [Y.out] at this
          omega
        case measure => simp [intOf]; omega
      · go_wp2_with (first | (go_at_call 71; refine (cmpLess_any _ _ _).mono ?_; rintro e w' ⟨rfl, rfl⟩))
        go_roundw
        case rel =>
          refine ⟨lo, (lo + hi) / 2, _, rfl, by rw [show ((lo : Int) + (hi : Int)) / 2 = (((lo + hi) / 2 : Nat) : Int) by omega], by omega, by omega, rfl, Go.Lib.hid ⟨I.out.1, fun t ht htn => ?_⟩⟩
          have := S.out ((lo + hi) / 2) t ht htn
          rw [Y.out] at this
          omega
        case measure => simp [intOf]; omega
    · obtain rfl : hi = lo := by omega
      have i1 : ¬ (hi : Int) < hi := by omega
      obtain ⟨e1, e2⟩ := EN.out hi hin I.out.1 I.out.2
      have E1 := Go.Lib.hid e1
      have E2 := Go.Lib.hid e2
      clear e1 e2
      by_cases hn2 : hi < n
      · obtain ⟨b, o, rfl, cl⟩ := HC.out hi hn2
        have i2 : (hi : Int) < n := by omega
        obtain ⟨y, hy⟩ : ∃ y, l.getD hi 0 = y := ⟨_, rfl⟩
        rw [hy] at cl
        have Y := Go.Lib.hid hy
        clear hy
        have i3 : (x != x) = false := by simp
        by_cases hyx : y = x
        · subst hyx
          go_wp2_with (first | (go_at_call 72; refine (slNaN_any _ _).mono ?_; rintro e w' ⟨rfl, rfl⟩))
          go_ret2
          refine ⟨?_, _, rfl⟩
          rw [E1.out, E2.out, Y.out, decide_eq_true (show hi < n ∧ y = y from ⟨hn2, rfl⟩)]
          first | rfl | simp [*]
        · 
          have i4 : (y == x) = false := by simpa using hyx
          go_wp2_with (first | (go_at_call 72; refine (slNaN_any _ _).mono ?_; rintro e w' ⟨rfl, rfl⟩))
          go_ret2
          refine ⟨?_, _, rfl⟩
          rw [E1.out, E2.out, Y.out, decide_eq_false (show ¬ (hi < n ∧ y = x) from fun h => hyx h.2)]
          first | rfl | simp [*]
      · have i2 : ¬ (hi : Int) < n := by omega
        go_wp2_with (first | (go_at_call 72; refine (slNaN_any _ _).mono ?_; rintro e w' ⟨rfl, rfl⟩))
        go_ret2
        refine ⟨?_, _, rfl⟩
        rw [E1.out, E2.out, decide_eq_false (show ¬ (hi < n ∧ l.getD hi 0 = x) from fun h => hn2 h.1)]
        first | rfl | simp [*]

set_option maxHeartbeats 4000000 in
set_option maxRecDepth 100000 in
theorem cloneI_any (A : Option Addr) (n c : Nat) (l : List Int) (w : World) (h : RdI w A n c l) (hnil : A = none → n = 0) (hn : n ≤ 1000000) :
    Calls Tryz.prog 62 #[.slice A n c] w fun e w' => ∃ B m cb, e = .returned (.slice B m cb) ∧ RdI w' B m cb l ∧ OwnC 1 w' w.heap.size 3 B m cb (nums l) ∧ Below w.heap.size w w' := by
  have qn : ∀ W, (binOp .eql 56 (.slice A n c) (.slice none 0 0)).run Tryz.prog W = .ok (.bool A.isNone) W := fun W => Lib.run_eql_slice_nil W _ _ _ _ _ _ _ Tryz.underlying56
  have hlen := h.len
  cases A with
  | none =>
    have h0 := hnil rfl
    subst h0
    obtain rfl : l = [] := List.eq_nil_of_length_eq_zero hlen
    go_enter Tryz.func62, Tryz.ntmps62
    go_wp2_with fail
    go_ret
    exact ⟨none, 0, 0, rfl, RdC.nil _, OwnC.nil _ _, Below.refl _ _⟩
  | some a =>
    have al : Below w.heap.size w (w.alloc (.cells #[] 3)) := (Below.refl _ _).alloc (Nat.le_refl _) _
    have r2 : RdC 1 (w.alloc (.cells #[] 3)) (some a) n c (nums l) := RdC.below h al
    go_enter Tryz.func62, Tryz.ntmps62
    go_wp2_with (at_builtin; refine wpList_copy_cells rfl (.tmp 5) (.tmp 6) 56 rfl 3 (.int .i64 0) 8 Tryz.underlying56 int_info rfl (by decide) rfl rfl (OwnC.empty w 3 (Nat.le_refl _)) r2 (nums_one l) (by unfold maxLen; omega) (by omega) al.size al ?_; intro A5 c5 w5 o5 b5)
    go_ret
    exact ⟨A5, n, c5, rfl, OwnC.rd o5, o5, b5⟩

end Go.Proofs.YtiplfhmimpkplaaGreat.SmWalk

/-
  The landed streams in memory: a table's box, its map of names to lists; lists that two tables may share: what an append of one number does to a list, and to those that share it.
-/
namespace Go.Proofs.YtiplfhmimpkplaaGreat.SmWalk
open Go.RowKit Go.Maps Go.Proofs.YtiplfhmimpkplaaGreat.MemRow Go.Proofs.YtiplfhmimpkplaaGreat.Ev Go.Proofs.YtiplfhmimpkplaaGreat.NameMath Go.Proofs.YtiplfhmimpkplaaGreat.NameWalk Go.Proofs.YtiplfhmimpkplaaGreat.EvWalk Go.Proofs.YtiplfhmimpkplaaGreat.NumMem Go.Proofs.YtiplfhmimpkplaaGreat.NMap Go.Proofs.YtiplfhmimpkplaaGreat.DkWalk

/-! ### A list: a slice of numbers -/
structure Hr where
  b : Nat
  n : Nat
  c : Nat
abbrev valL (h : Hr) : Value := .slice (some ⟨h.b, 0, none⟩) h.n h.c
def slR (v : Value) : Option (DataW Hr × List MemPlace) :=
  match v with
  | .slice (some ⟨b, 0, none⟩) n c => some (.held ⟨b, n, c⟩, [])
  | .slice none 0 0 => some (.nil, [])
  | _ => none
theorem slR_some (h : Hr) : slR (valL h) = some (.held h, []) := rfl
theorem slR_none : slR (.slice none 0 0) = some (.nil, []) := rfl
theorem slR_held (v : Value) (h : Hr) (ps : List MemPlace) (e : slR v = some (.held h, ps)) : v = valL h := by
  unfold slR at e
  split at e
  · simp only [Option.some.injEq, Prod.mk.injEq, DataW.held.injEq] at e
    rw [← e.1]
  · simp at e
  · cases e
theorem slR_nil {v : Value} {ps : List MemPlace} (e : slR v = some (.nil, ps)) : v = .slice none 0 0 := by
  unfold slR at e
  split at e
  · simp at e
  · rfl
  · cases e
def mkL (c : Option Hr) : Value := match c with | none => .slice none 0 0 | some h => valL h
theorem mkL_inv (v : Value) (y : DataW Hr × List MemPlace) (h : slR v = some y) : ∃ c, v = mkL c := by
  unfold slR at h
  split at h
  · exact ⟨some ⟨_, _, _⟩, rfl⟩
  · exact ⟨none, rfl⟩
  · cases h

structure LiR (w : World) (F G : Nat → Prop) (h : Hr) (l : List Int) : Prop where
  ex : ∃ cur, w.heap[h.b]? = some (.cells cur 3 (0, 0)) ∧ h.c ≤ cur.size ∧ cur.toList.take h.n = nums l
  len : l.length = h.n
  pos : 0 < h.n
  le : h.n ≤ h.c
  cap : h.c ≤ maxLen
  own : h.n < h.c → F h.b
  gb : G h.b
section
variable {w w' : World} {F F' G G' : Nat → Prop} {h : Hr} {l : List Int}
theorem LiR.rd (r : LiR w F G h l) : RdI w (some ⟨h.b, 0, none⟩) h.n h.c l := by
  obtain ⟨cur, hb, _, ht⟩ := r.ex
  refine RdC.of_block hb (by rw [nums_length, r.len, Nat.mul_one]) r.le r.cap fun i v hi => ?_
  rw [← ht] at hi
  have hlt : i < h.n := by
    have := (List.getElem?_eq_some_iff.1 hi).1
    rw [List.length_take] at this
    omega
  rw [List.getElem?_take_of_lt hlt] at hi
  simpa using hi
theorem LiR.blt (r : LiR w F G h l) : h.b < w.heap.size := by
  obtain ⟨cur, hb, _⟩ := r.ex
  exact (Array.getElem?_eq_some_iff.1 hb).1
theorem LiR.kept (r : LiR w F G h l) (hk : w'.heap[h.b]? = w.heap[h.b]?) : LiR w' F G h l := by
  obtain ⟨cur, hb, hc⟩ := r.ex
  exact ⟨⟨cur, hk.trans hb, hc⟩, r.len, r.pos, r.le, r.cap, r.own, r.gb⟩
theorem LiR.wide (r : LiR w F G h l) (hF : ∀ k, F k → F' k) (hG : ∀ k, G k → G' k) : LiR w F' G' h l := ⟨r.ex, r.len, r.pos, r.le, r.cap, fun e => hF _ (r.own e), hG _ r.gb⟩
theorem LiR.not {g : Nat} {o : Obj} (r : LiR w F G h l) (hg : w.heap[g]? = some o) (ho : ∀ cs T fr, o = .cells cs T fr → T ≠ 3) : h.b ≠ g := by
  intro e
  obtain ⟨cur, hb, _⟩ := r.ex
  rw [e, hg] at hb
  injection hb with hb
  exact ho _ _ _ hb rfl
theorem block_put (w : World) (b i : Nat) (v : Value) {cur : Array Value} {t : TypeId} {fr : Nat × Nat} (hb : w.heap[b]? = some (.cells cur t fr)) : (w.setCell ⟨b, i, none⟩ v).heap[b]? = some (.cells (cur.setIfInBounds i v) t fr) := by
  simp only [World.setCell, Array.getElem?_modify, hb]
  rfl
theorem block_other (w : World) (b i : Nat) (v : Value) {k : Nat} (h : k ≠ b) : (w.setCell ⟨b, i, none⟩ v).heap[k]? = w.heap[k]? := by
  have : b ≠ k := fun e => h e.symm
  simp [World.setCell, Array.getElem?_modify, this]
theorem setGrown (w : World) (g i : Nat) (x : Value) : w.grownBy (w.setCell ⟨g, i, none⟩ x) (some g) := by
  refine ⟨rfl, rfl, rfl, by simp [World.setCell], fun k _ hne => ?_⟩
  exact block_other w g i x fun e => hne (by rw [e])
/-- A number laid behind a list's own ones. -/
theorem LiR.put (r : LiR w F G h l) {b i : Nat} (v : Value) (hi : b = h.b → h.n ≤ i) : LiR (w.setCell ⟨b, i, none⟩ v) F G h l := by
  by_cases e : h.b = b
  · obtain ⟨cur, hb, hc, ht⟩ := r.ex
    have hin := hi e.symm
    subst e
    refine ⟨⟨_, block_put w _ i v hb, by simpa using hc, ?_⟩, r.len, r.pos, r.le, r.cap, r.own, r.gb⟩
    rw [← ht, Array.toList_setIfInBounds, List.take_set_of_le hin]
  · exact r.kept (block_other w b i v e)

/-! ### append(list, p) -/
/-- What was there: a list, or none. -/
def OldL (w : World) (F G : Nat → Prop) (old : Option Hr) (l : List Int) : Prop := (∃ h, old = some h ∧ LiR w F G h l) ∨ (old = none ∧ l = [])
structure AppOut (w w' : World) (F G : Nat → Prop) (old : Option Hr) (l : List Int) (p : Int) (h' : Hr) : Prop where
  li : LiR w' (up F w w') (up G w w') h' (l ++ [p])
  size : w.heap.size ≤ w'.heap.size
  how : (∃ h, old = some h ∧ h.n < h.c ∧ F h.b ∧ h' = ⟨h.b, h.n + 1, h.c⟩ ∧ w' = w.setCell ⟨h.b, h.n, none⟩ (.int .i64 p)) ∨ (Below w.heap.size w w' ∧ w.heap.size ≤ h'.b)
set_option maxRecDepth 100000 in
theorem app_room (r : LiR w F G h l) (hs : h.n < h.c) (p : Int) {a : Addr} {c : Nat} (hl : w.cell? (a.add 0) = some (.int .i64 p)) (ty : TypeId) :
    (Builtin.append_ #[56, 56] ty #[valL h, .slice (some a) 1 c]).run Tryz.prog w = .ok (valL ⟨h.b, h.n + 1, h.c⟩) (w.setCell ⟨h.b, h.n, none⟩ (.int .i64 p)) ∧ AppOut w (w.setCell ⟨h.b, h.n, none⟩ (.int .i64 p)) F G (some h) l p ⟨h.b, h.n + 1, h.c⟩ := by
  have hi := int_info
  have hT := Tryz.underlying56
  obtain ⟨i, h1, h2, h3, h4⟩ : ∃ i, Tryz.prog.info? 3 = some i ∧ i.zero = some (.int .i64 0) ∧ i.size = 1 ∧ i.bytes = 8 := by
    cases hq : Tryz.prog.info? 3 with
    | none => simp [hq] at hi
    | some i => simp [hq] at hi; exact ⟨i, rfl, hi.1, hi.2.1, hi.2.2⟩
  obtain ⟨cur, hb, hc, ht⟩ := r.ex
  have hcell : w.cell? ⟨h.b, h.n, none⟩ = some (cur[h.n]'(by omega)) := by
    rw [cell_of_row w h.b h.n _ _ _ hb, Array.getElem?_eq_getElem (by omega)]
  have hfr : w.frozen? ⟨h.b, h.n, none⟩ = false := by simp [World.frozen?, hb]
  have run := run_append_room_cells (P := Tryz.prog) w 56 ty 3 i hT h1 h.b 0 h.n h.c a 1 c [.int .i64 p] (by simp [h3]) (fun j u hj => by
    have : j = 0 := by
      have := (List.getElem?_eq_some_iff.1 hj).1
      simpa using this
    subst this
    simp only [List.getElem?_cons_zero, Option.some.injEq] at hj
    rw [← hj]
    exact hl) (fun u hu => by
    rw [List.mem_singleton] at hu
    rw [hu]
    rfl) (by omega) (fun j hj => by
    obtain rfl : j = 0 := by simpa using hj
    simp only [h3, Nat.mul_one, Nat.zero_add, Nat.add_zero, hcell]
    rfl) (fun j hj => by
    obtain rfl : j = 0 := by simpa using hj
    simp only [h3, Nat.mul_one, Nat.zero_add, Nat.add_zero, hfr])
  have e : w.setCells h.b (0 + h.n * i.size) [.int .i64 p] = w.setCell ⟨h.b, h.n, none⟩ (.int .i64 p) := by
    simp only [h3, Nat.mul_one, Nat.zero_add]
    rfl
  rw [e] at run
  have hsz : (w.setCell ⟨h.b, h.n, none⟩ (.int .i64 p)).heap.size = w.heap.size := by simp [World.setCell]
  refine ⟨run, ⟨⟨⟨_, block_put w _ h.n _ hb, by simpa using hc, ?_⟩, by rw [List.length_append, r.len]; rfl, by simp, by simp only; omega, r.cap, fun _ => .inl (r.own hs), .inl r.gb⟩, by omega, .inl ⟨h, rfl, hs, r.own hs, rfl, rfl⟩⟩⟩
  have hn : h.n < cur.toList.length := by simp; omega
  simp only
  rw [Array.toList_setIfInBounds, nums_append, ← ht]
  rw [List.take_add_one, List.getElem?_set_self hn, List.take_set_of_le (Nat.le_refl _)]
  rfl
set_option maxRecDepth 100000 in
theorem app_grow {old : Option Hr} (hold : OldL w F G old l) (hfull : ∀ h, old = some h → h.n = h.c) (hlen : l.length ≤ 1000000) (p : Int) {a : Addr} {c : Nat} (hl : w.cell? (a.add 0) = some (.int .i64 p)) (ty : TypeId) :
    ∃ h' w', (Builtin.append_ #[56, 56] ty #[mkL old, .slice (some a) 1 c]).run Tryz.prog w = .ok (valL h') w' ∧ AppOut w w' F G old l p h' := by
  have hi := int_info
  have hT := Tryz.underlying56
  obtain ⟨i, h1, h2, h3, h4⟩ : ∃ i, Tryz.prog.info? 3 = some i ∧ i.zero = some (.int .i64 0) ∧ i.size = 1 ∧ i.bytes = 8 := by
    cases hq : Tryz.prog.info? 3 with
    | none => simp [hq] at hi
    | some i => simp [hq] at hi; exact ⟨i, rfl, hi.1, hi.2.1, hi.2.2⟩
  have hnew : ∀ j u, [Value.int .i64 p][j]? = some u → w.cell? (a.add j) = some u := fun j u hj => by
    have : j = 0 := by
      have := (List.getElem?_eq_some_iff.1 hj).1
      simpa using this
    subst this
    simp only [List.getElem?_cons_zero, Option.some.injEq] at hj
    rw [← hj]
    exact hl
  have fin : ∀ v' w', w'.ownsRow w.heap.size 3 1 v' (l.length + 1) (nums l ++ [.int .i64 p]) → w.grownBy w' none → ∃ h', v' = valL h' ∧ AppOut w w' F G old l p h' := by
    intro v' w' ho hg
    rcases ho.2 with ⟨rfl, hn⟩ | ⟨g, c2, cur, rfl, hbg, hgb, hnc, hcm, hcs, htk⟩
    · omega
    · refine ⟨⟨g, l.length + 1, c2⟩, rfl, ⟨⟨⟨cur, hgb, by simp only; omega, ?_⟩, by rw [List.length_append]; rfl, by simp, hnc, hcm, fun _ => ?_, ?_⟩, hg.size, .inr ⟨grown_below hg, hbg⟩⟩⟩
      · rw [nums_append, ← Nat.mul_one (l.length + 1)]
        exact htk
      · have := (Array.getElem?_eq_some_iff.1 hgb).1
        exact .inr ⟨hbg, this⟩
      · have := (Array.getElem?_eq_some_iff.1 hgb).1
        exact .inr ⟨hbg, this⟩
  rcases hold with ⟨h, rfl, r⟩ | ⟨rfl, rfl⟩
  · have hn := r.len
    have hc := hfull h rfl
    obtain ⟨v', w', hrun, ho, hg⟩ := run_append_arg_grows (P := Tryz.prog) w 56 ty 3 i (.int .i64 0) 1 8 hT h1 h2 h3 h4 rfl (by omega) ⟨h.b, 0, none⟩ h.n h.c (nums l) (by rw [nums_length, r.len, Nat.mul_one]) (fun j u hj => by
      obtain ⟨b, o, hA, hcl⟩ := r.rd.2.2.2 r.pos
      injection hA with hA
      rw [hA, add_plain]
      exact hcl j u hj) a 1 c [.int .i64 p] (by simp) hnew (by omega) (by unfold maxLen; omega) (by omega)
    rw [← hn] at ho
    obtain ⟨h', rfl, out⟩ := fin v' w' ho hg
    exact ⟨h', w', hrun, out⟩
  · obtain ⟨v', w', hrun, ho, hg, _⟩ := run_append_own_at (P := Tryz.prog) w w.heap.size 56 ty 3 i (.int .i64 0) 1 8 hT h1 h2 h3 h4 rfl (by omega) (.slice none 0 0) 0 [] ⟨by simp, .inl ⟨rfl, rfl⟩⟩ a 1 c [.int .i64 p] (by simp) hnew (fun u hu => by
      rw [List.mem_singleton] at hu
      rw [hu]
      rfl) (by unfold maxLen; omega) (by omega) (Nat.le_refl _)
    obtain ⟨h', rfl, out⟩ := fin v' w' (by simpa [nums] using ho) hg
    exact ⟨h', w', hrun, out⟩
set_option maxRecDepth 100000 in
theorem app_any {old : Option Hr} (hold : OldL w F G old l) (hlen : l.length ≤ 1000000) (p : Int) {a : Addr} {c : Nat} (hl : w.cell? (a.add 0) = some (.int .i64 p)) (ty : TypeId) :
    ∃ h' w', (Builtin.append_ #[56, 56] ty #[mkL old, .slice (some a) 1 c]).run Tryz.prog w = .ok (valL h') w' ∧ AppOut w w' F G old l p h' := by
  by_cases hf : ∀ h, old = some h → h.n = h.c
  · exact app_grow hold hf hlen p hl ty
  · rcases hold with ⟨h, rfl, r⟩ | ⟨rfl, rfl⟩
    · have hs : h.n < h.c := by
        have := r.le
        rcases Nat.lt_or_ge h.n h.c with h1 | h1
        · exact h1
        · exact absurd (fun h' e => by injection e with e; rw [← e]; omega) hf
      obtain ⟨run, out⟩ := app_room r hs p hl ty
      exact ⟨_, _, run, out⟩
    · exact absurd (fun h' e => by cases e) hf
set_option maxRecDepth 100000 in
theorem wpList_app1 {old : Option Hr} {ops : Array Oper} {rest : List Oper} {o : Oper} {ac : Act} {Q : Exit → Act → World → Prop} (hgd : o.guard = none) (s x : Operand)
    (ho : o.op = .call { callee := .builtin .append, args := #[s, x], argTypes := #[56, 56] })
    {sv : Value} (hs : ac.eval s = sv) (hsv : sv = mkL old) {a : Addr} {c : Nat} (hx : ac.eval x = .slice (some a) 1 c) (hold : OldL w F G old l) (hlen : l.length ≤ 1000000) (p : Int) (hl : w.cell? (a.add 0) = some (.int .i64 p))
    (h : ∀ h' w', AppOut w w' F G old l p h' → wpList Tryz.prog ops Q rest (ac.put o.dst (.slice (some ⟨h'.b, 0, none⟩) h'.n h'.c)) w') : wpList Tryz.prog ops Q (o :: rest) ac w := by
  obtain ⟨h', w', hrun, out⟩ := app_any hold hlen p hl o.type
  refine wpList_plain hgd fun _ hK => ?_
  unfold Oper.wp execOp
  simp only [ho, resolve, invoke, builtin, Sem.run_bind, Sem.run_pure, Result.andThen_ok, List.map_toArray, List.map_cons, List.map_nil, hs, hsv, hx]
  rw [hrun]
  exact hK _ _ (h h' w' out)
theorem AppOut.other {old : Option Hr} {p : Int} {h' : Hr} (a : AppOut w w' F G old l p h') {k : Nat} (hk : k < w.heap.size) (hn : ∀ h, old = some h → k ≠ h.b) : w'.heap[k]? = w.heap[k]? := by
  rcases a.how with ⟨h, ho, _, _, _, rfl⟩ | ⟨hb, _⟩
  · exact block_other w _ _ _ (hn h ho)
  · exact hb.block k hk
end

end Go.Proofs.YtiplfhmimpkplaaGreat.SmWalk

/-
  The landed streams in memory: a table, and what Add's stores make of it, and of a table that shares its lists.
-/
namespace Go.Proofs.YtiplfhmimpkplaaGreat.SmWalk
open Go.RowKit Go.Maps Go.Proofs.YtiplfhmimpkplaaGreat.MemRow Go.Proofs.YtiplfhmimpkplaaGreat.Ev Go.Proofs.YtiplfhmimpkplaaGreat.NameMath Go.Proofs.YtiplfhmimpkplaaGreat.NameWalk Go.Proofs.YtiplfhmimpkplaaGreat.EvWalk Go.Proofs.YtiplfhmimpkplaaGreat.NumMem Go.Proofs.YtiplfhmimpkplaaGreat.NMap Go.Proofs.YtiplfhmimpkplaaGreat.DkWalk

/-- The table T behind g: its own blocks F, all blocks that it reads G. -/
structure TbR (w : World) (F G : Nat → Prop) (g : Nat) (T : Tb) (mb : Nat) (M : DataW Hr) (hd : ByteArray → Hr) : Prop where
  box : w.heap[g]? = some (.cells #[.map (some mb), .int .i64 (lastP T)] 55 (0, 0))
  own : w.ownsMap Tryz.prog 9 slR mb (Maps.size M) M
  nm : NOf M (namesT T) hd
  li : ∀ s ∈ namesT T, LiR w F G (hd s) (allP T s)
  apart : ∀ s ∈ namesT T, ∀ t ∈ namesT T, t ≠ s → (hd s).n < (hd s).c → (hd t).b ≠ (hd s).b
  fg : F g
  fm : F mb
  fG : ∀ k, F k → G k
  lt : ∀ k, G k → k < w.heap.size
/-- Where the first one may still write, the second one reads no more than the first. -/
def Apt (T : Tb) (hd : ByteArray → Hr) (T' : Tb) (hd' : ByteArray → Hr) : Prop := ∀ s ∈ namesT T, ∀ t ∈ namesT T', (hd s).n < (hd s).c → (hd' t).b = (hd s).b → (hd' t).n ≤ (hd s).n
def setHr (hd : ByteArray → Hr) (s : ByteArray) (x : Hr) : ByteArray → Hr := fun t => if t = s then x else hd t
theorem setHr_at (hd : ByteArray → Hr) (s : ByteArray) (x : Hr) : setHr hd s x s = x := if_pos rfl
theorem setHr_ne (hd : ByteArray → Hr) {s t : ByteArray} (x : Hr) (h : t ≠ s) : setHr hd s x t = hd t := if_neg h
section
variable {w w' : World} {F F' G G' : Nat → Prop} {g mb : Nat} {T : Tb} {M : DataW Hr} {hd : ByteArray → Hr}
theorem TbR.c0 (h : TbR w F G g T mb M hd) : w.cell? ⟨g, 0, none⟩ = some (.map (some mb)) := by rw [cell_of_row w g 0 _ _ _ h.box]; rfl
theorem TbR.c1 (h : TbR w F G g T mb M hd) : w.cell? ⟨g, 1, none⟩ = some (.int .i64 (lastP T)) := by rw [cell_of_row w g 1 _ _ _ h.box]; rfl
theorem TbR.frozen (h : TbR w F G g T mb M hd) (i : Nat) : w.frozen? ⟨g, i, none⟩ = false := by simp [World.frozen?, h.box]
theorem TbR.glt (h : TbR w F G g T mb M hd) : g < w.heap.size := h.lt _ (h.fG _ h.fg)
theorem TbR.mlt (h : TbR w F G g T mb M hd) : mb < w.heap.size := h.lt _ (h.fG _ h.fm)
set_option maxRecDepth 100000 in
theorem TbR.block (h : TbR w F G g T mb M hd) : ∃ es clock, w.heap[mb]? = some (.map es clock) := by
  obtain ⟨es, clock, hb, _⟩ := h.own
  exact ⟨es, clock, hb⟩
set_option maxRecDepth 100000 in
theorem TbR.ne (h : TbR w F G g T mb M hd) : mb ≠ g := by
  obtain ⟨es, clock, hb⟩ := h.block
  intro e
  rw [e, h.box] at hb
  injection hb with hb
  cases hb
set_option maxRecDepth 100000 in
theorem TbR.far (h : TbR w F G g T mb M hd) {F' G' : Nat → Prop} {x : Hr} {l : List Int} (r : LiR w F' G' x l) : x.b ≠ g ∧ x.b ≠ mb := by
  obtain ⟨es, clock, hb⟩ := h.block
  exact ⟨r.not h.box fun cs T fr e => by injection e with _ e _; subst e; decide, r.not hb fun cs T fr e => by cases e⟩
set_option maxRecDepth 100000 in
theorem TbR.keep (h : TbR w F G g T mb M hd) (hs : w.heap.size ≤ w'.heap.size) (hk : ∀ k, G k → w'.heap[k]? = w.heap[k]?) : TbR w' F G g T mb M hd := by
  obtain ⟨es, clock, hb, ft, hn, hD⟩ := h.own
  exact ⟨(hk g (h.fG _ h.fg)).trans h.box, ⟨es, clock, (hk mb (h.fG _ h.fm)).trans hb, ft, hn, hD⟩, h.nm, fun s hs => (h.li s hs).kept (hk _ (h.li s hs).gb), h.apart, h.fg, h.fm, h.fG, fun k hg => Nat.lt_of_lt_of_le (h.lt k hg) hs⟩
theorem TbR.below (h : TbR w F G g T mb M hd) (hb : Below w.heap.size w w') : TbR w' F G g T mb M hd := h.keep hb.size fun k hk => hb.block k (h.lt k hk)
set_option maxRecDepth 100000 in
theorem TbR.wide (h : TbR w F G g T mb M hd) (hs : ∀ k, G k → G' k) (hl : ∀ k, G' k → k < w.heap.size) : TbR w F G' g T mb M hd :=
  ⟨h.box, h.own, h.nm, fun s hk => (h.li s hk).wide (fun _ h => h) hs, h.apart, h.fg, h.fm, fun k hk => hs k (h.fG k hk), hl⟩
theorem TbR.size (h : TbR w F G g T mb M hd) : Maps.size M = (namesT T).length := h.nm.size (h.own.canon keyedN) (up_nodupN (namesT_up T))
theorem TbR.isMap (h : TbR w F G g T mb M hd) : IsMap M := isMapN h.own
/-- What a name is given by the map. -/
def oldOf (T : Tb) (hd : ByteArray → Hr) (s : ByteArray) (old : Option Hr) : Prop := (s ∈ namesT T ∧ old = some (hd s)) ∨ (¬ s ∈ namesT T ∧ old = none)
set_option maxRecDepth 100000 in
theorem oldOf_any (T : Tb) (hd : ByteArray → Hr) (s : ByteArray) : ∃ old, oldOf T hd s old := by
  by_cases h : s ∈ namesT T
  · exact ⟨_, .inl ⟨h, rfl⟩⟩
  · exact ⟨_, .inr ⟨h, rfl⟩⟩
set_option maxRecDepth 100000 in
theorem TbR.old (h : TbR w F G g T mb M hd) {s : ByteArray} {old : Option Hr} (ho : oldOf T hd s old) : OldL w F G old (allP T s) := by
  rcases ho with ⟨hs, rfl⟩ | ⟨hs, rfl⟩
  · exact .inl ⟨_, rfl, h.li s hs⟩
  · exact .inr ⟨rfl, allP_none hs⟩
theorem zeroSl (W : World) : (zeroValue 56).run Tryz.prog W = .ok (.slice none 0 0) W := Tryz.zeroValue56 W
set_option maxRecDepth 100000 in
theorem TbR.look (h : TbR w F G g T mb M hd) {s : ByteArray} {old : Option Hr} (ho : oldOf T hd s old) (hs : s.size ≤ maxLen) : (Instr.lookup 53 (.map (some mb)) (.string s) false).run Tryz.prog w = .ok (mkL old) w := by
  obtain ⟨v, ps, hrun, hv⟩ := h.own.lookup keyedN Tryz.underlying53 (zeroSl w) slR_none (keyN_of hs)
  rw [hrun]
  congr 1
  rcases ho with ⟨hk, rfl⟩ | ⟨hk, rfl⟩
  · rw [h.nm.at_ s hk] at hv
    exact slR_held _ _ _ hv
  · rw [atKey_of_not_has (h.nm.no hk)] at hv
    exact slR_nil hv
set_option maxRecDepth 100000 in
theorem mkL_rd (h : TbR w F G g T mb M hd) {s : ByteArray} {old : Option Hr} (ho : oldOf T hd s old) : ∃ A n c, mkL old = .slice A n c ∧ RdI w A n c (allP T s) ∧ (A = none → n = 0) := by
  rcases ho with ⟨hk, rfl⟩ | ⟨hk, rfl⟩
  · exact ⟨_, _, _, rfl, (h.li s hk).rd, fun e => by cases e⟩
  · rw [allP_none hk]
    exact ⟨none, 0, 0, rfl, RdC.nil _, fun _ => rfl⟩

/-! ### Add's stores -/
def Kin (w w' : World) (F : Nat → Prop) (T : Tb) (hd : ByteArray → Hr) (T1 : Tb) (hd1 : ByteArray → Hr) : Prop :=
  ∀ (F' G' : Nat → Prop) (g' : Nat) (T' : Tb) (mb' : Nat) (M' : DataW Hr) (hd' : ByteArray → Hr), TbR w F' G' g' T' mb' M' hd' → (∀ k, F k → ¬ F' k) → Apt T hd T' hd' → Apt T' hd' T hd → TbR w' F' G' g' T' mb' M' hd' ∧ Apt T1 hd1 T' hd' ∧ Apt T' hd' T1 hd1
theorem Kin.same (hb : Below w.heap.size w w') (F : Nat → Prop) (T : Tb) (hd : ByteArray → Hr) : Kin w w' F T hd T hd := fun _ _ _ _ _ _ _ h _ a1 a2 => ⟨h.below hb, a1, a2⟩
theorem Kin.from (hb : Below w.heap.size w w') {w2 : World} {T1 : Tb} {hd1 : ByteArray → Hr} (h : Kin w' w2 F T hd T1 hd1) : Kin w w2 F T hd T1 hd1 := fun _ _ _ _ _ _ _ h' hd a1 a2 => h _ _ _ _ _ _ _ (h'.below hb) hd a1 a2

variable {w2 w3 : World} {s : ByteArray} {p : Int} {old : Option Hr} {h' : Hr}
set_option maxRecDepth 100000 in
theorem TbR.app_box (h : TbR w F G g T mb M hd) (ho : oldOf T hd s old) (ap : AppOut w w2 F G old (allP T s) p h') : w2.heap[g]? = w.heap[g]? ∧ w2.heap[mb]? = w.heap[mb]? := by
  have hne : ∀ x, old = some x → g ≠ x.b ∧ mb ≠ x.b := fun x hx => by
    rcases ho with ⟨hs, rfl⟩ | ⟨_, rfl⟩
    · injection hx with hx
      subst hx
      obtain ⟨h1, h2⟩ := h.far (h.li s hs)
      exact ⟨h1.symm, h2.symm⟩
    · cases hx
  exact ⟨ap.other h.glt fun x hx => (hne x hx).1, ap.other h.mlt fun x hx => (hne x hx).2⟩
set_option maxRecDepth 100000 in
theorem TbR.app_own (h : TbR w F G g T mb M hd) (ho : oldOf T hd s old) (ap : AppOut w w2 F G old (allP T s) p h') : w2.ownsMap Tryz.prog 9 slR mb (Maps.size M) M := by
  obtain ⟨es, clock, hb, ft, hn, hD⟩ := h.own
  exact ⟨es, clock, (h.app_box ho ap).2.trans hb, ft, hn, hD⟩
set_option maxRecDepth 100000 in
theorem AppOut.ch (ap : AppOut w w2 F G old (allP T s) p h') : Ch F w w2 := by
  rcases ap.how with ⟨x, _, _, hF, _, rfl⟩ | ⟨hb, _⟩
  · exact Ch.of_grown (setGrown w x.b x.n (.int .i64 p)) fun r e => by injection e with e; subst e; exact .inl hF
  · exact Ch.of_below hb
set_option maxRecDepth 100000 in
theorem TbR.added (h : TbR w F G g T mb M hd) (ho : oldOf T hd s old) (ap : AppOut w w2 F G old (allP T s) p h') (hg3 : w2.grownBy w3 (some mb)) {n : Nat} (ho3 : w3.ownsMap Tryz.prog 9 slR mb n (M.put (keyN s) (.held h'))) :
    TbR (w3.setCell ⟨g, 1, none⟩ (.int .i64 p)) (up F w (w3.setCell ⟨g, 1, none⟩ (.int .i64 p))) (up G w (w3.setCell ⟨g, 1, none⟩ (.int .i64 p))) g (T ++ [(s, p)]) mb (M.put (keyN s) (.held h')) (setHr hd s h') ∧ Ch F w (w3.setCell ⟨g, 1, none⟩ (.int .i64 p)) ∧ Kin w (w3.setCell ⟨g, 1, none⟩ (.int .i64 p)) F T hd (T ++ [(s, p)]) (setHr hd s h') := by
  obtain ⟨e1, e2⟩ := h.app_box ho ap
  have hs4 := setGrown w3 g 1 (.int .i64 p)
  have hne := h.ne
  have glt := h.glt
  have mlt := h.mlt
  have z1 := ap.size
  have z2 := hg3.size
  have z3 := hs4.size
  have b2 := e1.trans h.box
  have b3 := (hg3.block g (by omega) (fun e => hne (by injection e with e; exact e.symm))).trans b2
  have b4 := two_set1 (v := .int .i64 p) b3
  have ch : Ch F w (w3.setCell ⟨g, 1, none⟩ (.int .i64 p)) := (ap.ch.then_grown hg3 fun r e => by injection e with e; subst e; exact .inl (.inl h.fm)).then_grown hs4 fun r e => by injection e with e; subst e; exact .inl (.inl h.fg)
  have m2 : ∃ es clock, w2.heap[mb]? = some (.map es clock) := by
    obtain ⟨es, clock, hb⟩ := h.block
    exact ⟨es, clock, e2.trans hb⟩
  -- a list of the world behind the append stays
  have L2 : ∀ {F' G' : Nat → Prop} {x : Hr} {l : List Int}, LiR w2 F' G' x l → LiR (w3.setCell ⟨g, 1, none⟩ (.int .i64 p)) F' G' x l := fun {F' G' x l} r => by
    have n1 : x.b ≠ g := r.not b2 fun cs T fr e => by injection e with _ e _; subst e; decide
    obtain ⟨es, clock, hb⟩ := m2
    have n2 : x.b ≠ mb := r.not hb fun cs T fr e => by cases e
    have := r.blt
    exact r.kept ((hs4.block _ (by omega) (fun e => n1 (by injection e))).trans (hg3.block _ this (fun e => n2 (by injection e))))
  -- a list of the world ahead of it, where it reads no more than was there
  have L0 : ∀ {F' G' : Nat → Prop} {x : Hr} {l : List Int}, LiR w F' G' x l → (s ∈ namesT T → (hd s).n < (hd s).c → (hd s).b = x.b → x.n ≤ (hd s).n) → LiR (w3.setCell ⟨g, 1, none⟩ (.int .i64 p)) F' G' x l := fun {F' G' x l} r hx => by
    refine L2 ?_
    rcases ap.how with ⟨y, hy, hsp, hF, _, rfl⟩ | ⟨hb, _⟩
    · rcases ho with ⟨hs, rfl⟩ | ⟨_, rfl⟩
      · injection hy with hy
        subst hy
        exact r.put _ fun e => hx hs hsp e
      · cases hy
    · exact r.kept (hb.block _ r.blt)
  have hh : ∀ t ∈ namesT T, (hd t).b < w.heap.size := fun t ht => (h.li t ht).blt
  have hnew : ((s ∈ namesT T ∧ (hd s).n < (hd s).c ∧ F (hd s).b ∧ h' = ⟨(hd s).b, (hd s).n + 1, (hd s).c⟩) ∨ w.heap.size ≤ h'.b) := by
    rcases ap.how with ⟨y, hy, hsp, hF, e, _⟩ | ⟨_, hb⟩
    · rcases ho with ⟨hs, rfl⟩ | ⟨_, rfl⟩
      · injection hy with hy
        subst hy
        exact .inl ⟨hs, hsp, hF, e⟩
      · cases hy
    · exact .inr hb
  refine ⟨⟨?_, tightN (ho3.kept hs4 (fun e => hne (by injection e))), ?_, fun t ht => ?_, fun a ha t ht hta hsp => ?_, .inl h.fg, .inl h.fm, fun k hk => ?_, fun k hk => up_lt h.lt ch.size hk⟩, ch, ?_⟩
  · rw [last_snoc]
    exact b4
  · have := h.nm.put (s := s) (h' := setHr hd s h') h.isMap (ns' := namesT (T ++ [(s, p)])) (fun t => namesT_more t) (fun t ht => setHr_ne _ _ ht)
    rwa [setHr_at] at this
  · by_cases e : t = s
    · subst e
      rw [setHr_at, allP_hit]
      exact (L2 ap.li).wide (fun k hk => up_mono (by omega) hk) (fun k hk => up_mono (by omega) hk)
    · have ht' := ((namesT_more t).1 ht).resolve_left e
      rw [setHr_ne _ _ e, allP_miss T e]
      exact (L0 (h.li t ht') fun hs hsp hb => absurd hb.symm (h.apart s hs t ht' e hsp)).wide (fun k hk => .inl hk) (fun k hk => .inl hk)
  · by_cases e : a = s
    · subst e
      have ht' := ((namesT_more t).1 ht).resolve_left hta
      rw [setHr_at] at hsp ⊢
      rw [setHr_ne _ _ hta]
      rcases hnew with ⟨hs, hsp', _, rfl⟩ | hb
      · exact h.apart a hs t ht' hta hsp'
      · have := hh t ht'
        omega
    · have ha' := ((namesT_more a).1 ha).resolve_left e
      rw [setHr_ne _ _ e] at hsp ⊢
      by_cases e2 : t = s
      · subst e2
        rw [setHr_at]
        rcases hnew with ⟨hs, _, _, rfl⟩ | hb
        · exact h.apart a ha' t hs hta hsp
        · have := hh a ha'
          omega
      · rw [setHr_ne _ _ e2]
        exact h.apart a ha' t (((namesT_more t).1 ht).resolve_left e2) hta hsp
  · rcases hk with hk | hk
    · exact .inl (h.fG k hk)
    · exact .inr hk
  · intro F' G' g' T' mb' M' hd' y hFF a1 a2
    have kn : ∀ k, F' k → (w3.setCell ⟨g, 1, none⟩ (.int .i64 p)).heap[k]? = w.heap[k]? := fun k hk => ch.block k (y.lt k (y.fG k hk)) fun hf => hFF k hf hk
    obtain ⟨es, clock, hb, ft, hn, hD⟩ := y.own
    refine ⟨⟨(kn g' y.fg).trans y.box, ⟨es, clock, (kn mb' y.fm).trans hb, ft, hn, hD⟩, y.nm, fun t ht => L0 (y.li t ht) fun hs hsp e => a1 s hs t ht hsp e.symm, y.apart, y.fg, y.fm, y.fG, fun k hk => Nat.lt_of_lt_of_le (y.lt k hk) ch.size⟩, fun a ha t ht hsp e => ?_, fun t ht a ha hsp e => ?_⟩
    · by_cases ea : a = s
      · subst ea
        rw [setHr_at] at hsp e ⊢
        rcases hnew with ⟨hs, hsp', _, rfl⟩ | hb
        · have := a1 a hs t ht hsp' e
          simp only
          omega
        · have := (y.li t ht).blt
          omega
      · rw [setHr_ne _ _ ea] at hsp e ⊢
        exact a1 a (((namesT_more a).1 ha).resolve_left ea) t ht hsp e
    · by_cases ea : a = s
      · subst ea
        rw [setHr_at] at e ⊢
        rcases hnew with ⟨hs, _, hF, rfl⟩ | hb
        · exact absurd ((y.li t ht).own hsp) (by rw [← e]; exact hFF _ hF)
        · have := (y.li t ht).blt
          omega
      · rw [setHr_ne _ _ ea] at e ⊢
        exact a2 t ht a (((namesT_more a).1 ha).resolve_left ea) hsp e
end

/-! ### Tables as things -/
def StL (g : Nat) (T : Tb) : Thing := fun w G => ∃ F mb M hd, TbR w F G g T mb M hd
/-- Two tables that may share lists. -/
def TwL (g : Nat) (T : Tb) (g' : Nat) (T' : Tb) : Thing := fun w G => ∃ F mb M hd F' mb' M' hd', TbR w F G g T mb M hd ∧ TbR w F' G g' T' mb' M' hd' ∧ (∀ k, F k → ¬ F' k) ∧ Apt T hd T' hd' ∧ Apt T' hd' T hd
theorem stL_keeps (g : Nat) (T : Tb) : Keeps (StL g T) := ⟨fun ⟨F, mb, M, hd, h⟩ hs hk => ⟨F, mb, M, hd, h.keep hs hk⟩, fun ⟨_, _, _, _, h⟩ => h.lt⟩
theorem twL_keeps (g : Nat) (T : Tb) (g' : Nat) (T' : Tb) : Keeps (TwL g T g' T') := ⟨fun ⟨F, mb, M, hd, F', mb', M', hd', h, h', hx⟩ hs hk => ⟨F, mb, M, hd, F', mb', M', hd', h.keep hs hk, h'.keep hs hk, hx⟩, fun ⟨_, _, _, _, _, _, _, _, h, _⟩ => h.lt⟩
theorem twL_swap (g : Nat) (T : Tb) (g' : Nat) (T' : Tb) : Imp (TwL g T g' T') (TwL g' T' g T) := fun _ _ ⟨F, mb, M, hd, F', mb', M', hd', h, h', h1, h2, h3⟩ => ⟨F', mb', M', hd', F, mb, M, hd, h', h, fun k hk hf => h1 k hf hk, h3, h2⟩
theorem twL_fst (g : Nat) (T : Tb) (g' : Nat) (T' : Tb) : Imp (TwL g T g' T') (StL g T) := fun _ _ ⟨F, mb, M, hd, _, _, _, _, h, _⟩ => ⟨F, mb, M, hd, h⟩

end Go.Proofs.YtiplfhmimpkplaaGreat.SmWalk

/-
  The landed index in memory: its table of streams; what Add's stores make of it, and of a table that shares its lists.
-/
namespace Go.Proofs.YtiplfhmimpkplaaGreat.InWalk
open Go.RowKit Go.Maps Go.Proofs.YtiplfhmimpkplaaGreat.MemRow Go.Proofs.YtiplfhmimpkplaaGreat.Ev Go.Proofs.YtiplfhmimpkplaaGreat.NameMath Go.Proofs.YtiplfhmimpkplaaGreat.NameWalk Go.Proofs.YtiplfhmimpkplaaGreat.EvWalk Go.Proofs.YtiplfhmimpkplaaGreat.NumMem Go.Proofs.YtiplfhmimpkplaaGreat.NMap Go.Proofs.YtiplfhmimpkplaaGreat.DkWalk Go.Proofs.YtiplfhmimpkplaaGreat.SmWalk

/-- The table T: its own blocks F, all blocks that it reads G; where its two cells lie is said beside. -/
structure TbC (w : World) (F G : Nat → Prop) (T : Tb) (mb : Option Nat) (M : DataW Hr) (hd : ByteArray → Hr) : Prop where
  own : OwnM slR w mb M
  nm : NOf M (namesT T) hd
  li : ∀ s ∈ namesT T, LiR w F G (hd s) (allP T s)
  apart : ∀ s ∈ namesT T, ∀ t ∈ namesT T, t ≠ s → (hd s).n < (hd s).c → (hd t).b ≠ (hd s).b
  fm : ∀ b, mb = some b → F b
  fG : ∀ k, F k → G k
  lt : ∀ k, G k → k < w.heap.size
section
variable {w w' : World} {F F' G G' : Nat → Prop} {mb : Option Nat} {T : Tb} {M : DataW Hr} {hd : ByteArray → Hr}
set_option maxRecDepth 100000 in
theorem TbC.keep (h : TbC w F G T mb M hd) (hs : w.heap.size ≤ w'.heap.size) (hk : ∀ k, G k → w'.heap[k]? = w.heap[k]?) : TbC w' F G T mb M hd :=
  ⟨h.own.kept fun b e => hk b (h.fG _ (h.fm b e)), h.nm, fun s hs => (h.li s hs).kept (hk _ (h.li s hs).gb), h.apart, h.fm, h.fG, fun k hg => Nat.lt_of_lt_of_le (h.lt k hg) hs⟩
theorem TbC.below (h : TbC w F G T mb M hd) (hb : Below w.heap.size w w') : TbC w' F G T mb M hd := h.keep hb.size fun k hk => hb.block k (h.lt k hk)
set_option maxRecDepth 100000 in
theorem TbC.wide (h : TbC w F G T mb M hd) (hF : ∀ k, F k → F' k) (hs : ∀ k, G k → G' k) (hFG : ∀ k, F' k → G' k) (hl : ∀ k, G' k → k < w.heap.size) : TbC w F' G' T mb M hd :=
  ⟨h.own, h.nm, fun s hk => (h.li s hk).wide hF hs, h.apart, fun b e => hF _ (h.fm b e), hFG, hl⟩
theorem TbC.size (h : TbC w F G T mb M hd) : Maps.size M = (namesT T).length := h.own.size h.nm (up_nodupN (namesT_up T))
set_option maxRecDepth 100000 in
theorem TbC.nil (h : TbC w F G T none M hd) : T = [] := by
  have e := h.own.nil h.nm
  cases T with
  | nil => rfl
  | cons x T =>
    have : x.1 ∈ namesT (x :: T) := namesT_mem.2 ⟨x, List.mem_cons_self, rfl⟩
    rw [e] at this
    cases this
set_option maxRecDepth 100000 in
theorem TbC.old (h : TbC w F G T mb M hd) {s : ByteArray} {old : Option Hr} (ho : oldOf T hd s old) : OldL w F G old (allP T s) := by
  rcases ho with ⟨hs, rfl⟩ | ⟨hs, rfl⟩
  · exact .inl ⟨_, rfl, h.li s hs⟩
  · exact .inr ⟨rfl, allP_none hs⟩
set_option maxRecDepth 100000 in
theorem TbC.look (h : TbC w F G T mb M hd) {s : ByteArray} {old : Option Hr} (ho : oldOf T hd s old) (hs : s.size ≤ maxLen) : (Instr.lookup 53 (.map mb) (.string s) false).run Tryz.prog w = .ok (mkL old) w := by
  obtain ⟨v, ps, hrun, hv⟩ := h.own.lookup Tryz.underlying53 (zeroSl w) slR_none hs
  rw [hrun]
  congr 1
  rcases ho with ⟨hk, rfl⟩ | ⟨hk, rfl⟩
  · rw [h.nm.at_ s hk] at hv
    exact slR_held _ _ _ hv
  · rw [atKey_of_not_has (h.nm.no hk)] at hv
    exact slR_nil hv
set_option maxRecDepth 100000 in
theorem TbC.rd (h : TbC w F G T mb M hd) {s : ByteArray} {old : Option Hr} (ho : oldOf T hd s old) : ∃ A n c, mkL old = .slice A n c ∧ RdI w A n c (allP T s) ∧ (A = none → n = 0) := by
  rcases ho with ⟨hk, rfl⟩ | ⟨hk, rfl⟩
  · exact ⟨_, _, _, rfl, (h.li s hk).rd, fun e => by cases e⟩
  · rw [allP_none hk]
    exact ⟨none, 0, 0, rfl, RdC.nil _, fun _ => rfl⟩
set_option maxRecDepth 100000 in
theorem TbC.empty (w : World) (hd : ByteArray → Hr) : TbC w (fun _ => False) (fun _ => False) [] none (.map []) hd :=
  ⟨rfl, NOf.empty _, fun s hs => (by cases hs), fun s hs => (by cases hs), fun b e => (by cases e), fun k hk => hk, fun k hk => hk.elim⟩

/-! ### Add's stores -/
def KinS (w w' : World) (F : Nat → Prop) (T : Tb) (hd : ByteArray → Hr) (T1 : Tb) (hd1 : ByteArray → Hr) : Prop :=
  ∀ (F' G' : Nat → Prop) (T' : Tb) (mb' : Option Nat) (M' : DataW Hr) (hd' : ByteArray → Hr), TbC w F' G' T' mb' M' hd' → (∀ k, F k → ¬ F' k) → Apt T hd T' hd' → Apt T' hd' T hd → TbC w' F' G' T' mb' M' hd' ∧ Apt T1 hd1 T' hd' ∧ Apt T' hd' T1 hd1
theorem KinS.same (hb : Below w.heap.size w w') (F : Nat → Prop) (T : Tb) (hd : ByteArray → Hr) : KinS w w' F T hd T hd := fun _ _ _ _ _ _ h _ a1 a2 => ⟨h.below hb, a1, a2⟩
theorem KinS.wide {T1 : Tb} {hd1 : ByteArray → Hr} (h : KinS w w' F T hd T1 hd1) (hF : ∀ k, F k → F' k) : KinS w w' F' T hd T1 hd1 := fun _ _ _ _ _ _ y hx a1 a2 => h _ _ _ _ _ _ y (fun k hk => hx k (hF k hk)) a1 a2
set_option maxRecDepth 100000 in
theorem KinS.trans {w2 : World} {T1 T2 : Tb} {hd1 hd2 : ByteArray → Hr} (h1 : KinS w w' F T hd T1 hd1) (h2 : KinS w' w2 (up F w w') T1 hd1 T2 hd2) : KinS w w2 F T hd T2 hd2 := fun F' G' T' mb' M' hd' y hx a1 a2 => by
  obtain ⟨y1, b1, b2⟩ := h1 _ _ _ _ _ _ y hx a1 a2
  refine h2 _ _ _ _ _ _ y1 (fun k hk hf => ?_) b1 b2
  rcases hk with hk | hk
  · exact hx k hk hf
  · have := y.lt k (y.fG k hf)
    omega
set_option maxRecDepth 100000 in
/-- A store into the block of an index. -/
theorem TbC.box {g : Nat} {r m lp a t y : Value} (hx : XBx w g r m lp a t y) (h : TbC w F G T mb M hd) (i : Nat) (v : Value) : TbC (w.setCell ⟨g, i, none⟩ v) F G T mb M hd := by
  refine ⟨h.own.kept fun b e => put_other w g i v fun e2 => ?_, h.nm, fun s hs => (h.li s hs).kept (put_other w g i v ?_), h.apart, h.fm, h.fG, fun k hg => by simpa [World.setCell] using h.lt k hg⟩
  · obtain ⟨es, clock, hb⟩ := h.own.block e
    rw [e2, hx] at hb
    injection hb with hb
    cases hb
  · exact (h.li s hs).not hx fun cs T fr e => by injection e with _ e _; subst e; decide
theorem KinS.box {g : Nat} {r m lp a t y : Value} (hx : XBx w g r m lp a t y) (i : Nat) (v : Value) (F : Nat → Prop) (T : Tb) (hd : ByteArray → Hr) : KinS w (w.setCell ⟨g, i, none⟩ v) F T hd T hd := fun _ _ _ _ _ _ h _ a1 a2 => ⟨h.box hx i v, a1, a2⟩

variable {w2 w3 : World} {s : ByteArray} {p : Int} {old : Option Hr} {h' : Hr} {b : Nat}
set_option maxRecDepth 100000 in
theorem TbC.app_own (h : TbC w F G T (some b) M hd) (ho : oldOf T hd s old) (ap : AppOut w w2 F G old (allP T s) p h') : w2.ownsMap Tryz.prog 9 slR b (Maps.size M) M := by
  obtain ⟨es0, clock0, hb0⟩ := h.own.block rfl
  have hne : ∀ x, old = some x → b ≠ x.b := fun x hx => by
    rcases ho with ⟨hs, rfl⟩ | ⟨_, rfl⟩
    · injection hx with hx
      subst hx
      exact fun e => (h.li s hs).not hb0 (fun cs T fr e => by cases e) e.symm
    · cases hx
  obtain ⟨es, clock, hb, ft, hn, hD⟩ := h.own
  exact ⟨es, clock, (ap.other (h.lt _ (h.fG _ (h.fm b rfl))) hne).trans hb, ft, hn, hD⟩
set_option maxRecDepth 100000 in
theorem TbC.app_box (h : TbC w F G T mb M hd) {g : Nat} {r m lp a t y : Value} (hx : XBx w g r m lp a t y) (ho : oldOf T hd s old) (ap : AppOut w w2 F G old (allP T s) p h') : XBx w2 g r m lp a t y := by
  refine hx.at_ (ap.other hx.lt fun x e => ?_)
  rcases ho with ⟨hs, rfl⟩ | ⟨_, rfl⟩
  · injection e with e
    subst e
    exact fun e => (h.li s hs).not hx (fun cs T fr e => by injection e with _ e _; subst e; decide) e.symm
  · cases e
set_option maxRecDepth 100000 in
theorem TbC.added (h : TbC w F G T (some b) M hd) (ho : oldOf T hd s old) (ap : AppOut w w2 F G old (allP T s) p h') (hg3 : w2.grownBy w3 (some b)) {n : Nat} (ho3 : w3.ownsMap Tryz.prog 9 slR b n (M.put (keyN s) (.held h'))) :
    TbC w3 (up F w w3) (up G w w3) (T ++ [(s, p)]) (some b) (M.put (keyN s) (.held h')) (setHr hd s h') ∧ Ch F w w3 ∧ KinS w w3 F T hd (T ++ [(s, p)]) (setHr hd s h') := by
  obtain ⟨es0, clock0, hb0⟩ := h.own.block rfl
  have own2 := h.app_own ho ap
  have z1 := ap.size
  have z2 := hg3.size
  have ch : Ch F w w3 := (SmWalk.AppOut.ch ap).then_grown hg3 fun r e => by injection e with e; subst e; exact .inl (.inl (h.fm _ rfl))
  -- a list of the world behind the append stays
  have L2 : ∀ {F' G' : Nat → Prop} {x : Hr} {l : List Int}, LiR w2 F' G' x l → LiR w3 F' G' x l := fun {F' G' x l} r => by
    obtain ⟨es, clock, hb, _⟩ := own2
    have n2 : x.b ≠ b := r.not hb fun cs T fr e => by cases e
    exact r.kept (hg3.block _ r.blt (fun e => n2 (by injection e)))
  -- a list of the world ahead of it, where it reads no more than was there
  have L0 : ∀ {F' G' : Nat → Prop} {x : Hr} {l : List Int}, LiR w F' G' x l → (s ∈ namesT T → (hd s).n < (hd s).c → (hd s).b = x.b → x.n ≤ (hd s).n) → LiR w3 F' G' x l := fun {F' G' x l} r hx => by
    refine L2 ?_
    rcases ap.how with ⟨y, hy, hsp, hF, _, rfl⟩ | ⟨hb, _⟩
    · rcases ho with ⟨hs, rfl⟩ | ⟨_, rfl⟩
      · injection hy with hy
        subst hy
        exact r.put _ fun e => hx hs hsp e
      · cases hy
    · exact r.kept (hb.block _ r.blt)
  have hh : ∀ t ∈ namesT T, (hd t).b < w.heap.size := fun t ht => (h.li t ht).blt
  have hnew : ((s ∈ namesT T ∧ (hd s).n < (hd s).c ∧ F (hd s).b ∧ h' = ⟨(hd s).b, (hd s).n + 1, (hd s).c⟩) ∨ w.heap.size ≤ h'.b) := by
    rcases ap.how with ⟨y, hy, hsp, hF, e, _⟩ | ⟨_, hb⟩
    · rcases ho with ⟨hs, rfl⟩ | ⟨_, rfl⟩
      · injection hy with hy
        subst hy
        exact .inl ⟨hs, hsp, hF, e⟩
      · cases hy
    · exact .inr hb
  refine ⟨⟨tightN ho3, ?_, fun t ht => ?_, fun a ha t ht hta hsp => ?_, fun b' e => .inl (h.fm b' e), fun k hk => ?_, fun k hk => up_lt h.lt ch.size hk⟩, ch, ?_⟩
  · have := h.nm.put (s := s) (h' := setHr hd s h') h.own.isMap (ns' := namesT (T ++ [(s, p)])) (fun t => namesT_more t) (fun t ht => setHr_ne _ _ ht)
    rwa [setHr_at] at this
  · by_cases e : t = s
    · subst e
      rw [setHr_at, allP_hit]
      exact (L2 ap.li).wide (fun k hk => up_mono (by omega) hk) (fun k hk => up_mono (by omega) hk)
    · have ht' := ((namesT_more t).1 ht).resolve_left e
      rw [setHr_ne _ _ e, allP_miss T e]
      exact (L0 (h.li t ht') fun hs hsp hb => absurd hb.symm (h.apart s hs t ht' e hsp)).wide (fun k hk => .inl hk) (fun k hk => .inl hk)
  · by_cases e : a = s
    · subst e
      have ht' := ((namesT_more t).1 ht).resolve_left hta
      rw [setHr_at] at hsp ⊢
      rw [setHr_ne _ _ hta]
      rcases hnew with ⟨hs, hsp', _, rfl⟩ | hb
      · exact h.apart a hs t ht' hta hsp'
      · have := hh t ht'
        omega
    · have ha' := ((namesT_more a).1 ha).resolve_left e
      rw [setHr_ne _ _ e] at hsp ⊢
      by_cases e2 : t = s
      · subst e2
        rw [setHr_at]
        rcases hnew with ⟨hs, _, _, rfl⟩ | hb
        · exact h.apart a ha' t hs hta hsp
        · have := hh a ha'
          omega
      · rw [setHr_ne _ _ e2]
        exact h.apart a ha' t (((namesT_more t).1 ht).resolve_left e2) hta hsp
  · rcases hk with hk | hk
    · exact .inl (h.fG k hk)
    · exact .inr hk
  · intro F' G' T' mb' M' hd' y hFF a1 a2
    have kn : ∀ k, F' k → w3.heap[k]? = w.heap[k]? := fun k hk => ch.block k (y.lt k (y.fG k hk)) fun hf => hFF k hf hk
    refine ⟨⟨y.own.kept fun b' e => kn b' (y.fm b' e), y.nm, fun t ht => L0 (y.li t ht) fun hs hsp e => a1 s hs t ht hsp e.symm, y.apart, y.fm, y.fG, fun k hk => Nat.lt_of_lt_of_le (y.lt k hk) ch.size⟩, fun a ha t ht hsp e => ?_, fun t ht a ha hsp e => ?_⟩
    · by_cases ea : a = s
      · subst ea
        rw [setHr_at] at hsp e ⊢
        rcases hnew with ⟨hs, hsp', _, rfl⟩ | hb
        · have := a1 a hs t ht hsp' e
          simp only
          omega
        · have := (y.li t ht).blt
          omega
      · rw [setHr_ne _ _ ea] at hsp e ⊢
        exact a1 a (((namesT_more a).1 ha).resolve_left ea) t ht hsp e
    · by_cases ea : a = s
      · subst ea
        rw [setHr_at] at e ⊢
        rcases hnew with ⟨hs, _, hF, rfl⟩ | hb
        · exact absurd ((y.li t ht).own hsp) (by rw [← e]; exact hFF _ hF)
        · have := (y.li t ht).blt
          omega
      · rw [setHr_ne _ _ ea] at e ⊢
        exact a2 t ht a (((namesT_more a).1 ha).resolve_left ea) hsp e
end

end Go.Proofs.YtiplfhmimpkplaaGreat.InWalk

/-
  Contracts of the landed streams: New, Add, Version, Positions.
-/
namespace Go.Proofs.YtiplfhmimpkplaaGreat.SmWalk
open Go.RowKit Go.Maps Go.Proofs.YtiplfhmimpkplaaGreat.MemRow Go.Proofs.YtiplfhmimpkplaaGreat.Ev Go.Proofs.YtiplfhmimpkplaaGreat.NameMath Go.Proofs.YtiplfhmimpkplaaGreat.NameWalk Go.Proofs.YtiplfhmimpkplaaGreat.EvWalk Go.Proofs.YtiplfhmimpkplaaGreat.NumMem Go.Proofs.YtiplfhmimpkplaaGreat.NMap Go.Proofs.YtiplfhmimpkplaaGreat.DkWalk

section
variable {w : World} {F G : Nat → Prop} {g mb : Nat} {T : Tb} {M : DataW Hr} {hd : ByteArray → Hr}
theorem lit_ints (w : World) {g : Nat} (hg : g = w.heap.size) (p : Int) : (w.alloc (.cells #[.int .i64 p] 3)).cell? ((⟨g, 0, none⟩ : Addr).add 0) = some (.int .i64 p) := by
  subst hg
  rw [add_plain, cell_of_row _ w.heap.size 0 _ _ _ (heap_alloc_new w (.cells #[.int .i64 p] 3))]
  rfl
set_option maxHeartbeats 4000000 in
set_option maxRecDepth 100000 in
theorem add12_any (h : TbR w F G g T mb M hd) (ok : TOk T) (hl : T.length < 200) {s : ByteArray} (hs : s.size ≤ maxLen) {p : Int} (hp : -9223372036854775808 ≤ p ∧ p ≤ 9223372036854775807) :
    Calls Tryz.prog 34 #[.pointer (some ⟨g, 0, none⟩), .string s, .int .i64 p] w fun e w' => e = .returned (.tuple #[.int .i64 (addF T s p).1, .int .i64 (addF T s p).2.1]) ∧
      ∃ F1 M1 hd1, TbR w' F1 (up G w w') g (addF T s p).2.2 mb M1 hd1 ∧ (∀ k, F1 k → up F w w' k) ∧ Ch F w w' ∧ Kin w w' F T hd (addF T s p).2.2 hd1 := by
  have k0 := h.c0
  have k1 := h.c1
  have z0 := h.frozen 0
  have z1 := h.frozen 1
  have hlast := last_pos ok.rise
  by_cases hc : p ≤ lastP T
  · rw [add_no s (.inr hc)]
    have H := Go.Lib.hid h
    clear h hlast
    go_enter Tryz.func34, Tryz.ntmps34
    go_wp2_with fail
    go_ret2
    exact ⟨rfl, F, M, hd, H.out.wide (fun _ hk => .inl hk) (fun k hk => up_lt H.out.lt (Nat.le_refl _) hk), fun _ hk => .inl hk, Ch.refl _ _, Kin.same (Below.refl _ _) _ _ _⟩
  · have hy := add_yes ok.rise s (p := p) (by omega) (by omega)
    have hall : (posF T s (lastP T)) = allP T s := by
      rw [posF_all, List.filter_eq_self.2]
      intro q hq
      unfold allP at hq
      obtain ⟨x, hx, rfl⟩ := List.mem_map.1 hq
      have := last_le ok.rise x (List.mem_filter.1 hx).1
      simpa using this
    rw [hall] at hy
    have hlen := allP_len T s
    obtain ⟨old, ho⟩ := oldOf_any T hd s
    have ql := h.look ho hs
    have al : Below w.heap.size w (w.alloc (.cells #[.int .i64 p] 3)) := (Below.refl _ _).alloc (Nat.le_refl _) _
    have h1 := h.below al
    have hold := h1.old ho
    have hlit := lit_ints w rfl p
    have qm : ∀ W, (binOp .eql 53 (.map (some mb)) (.map none)).run Tryz.prog W = .ok (.bool (some mb).isNone) W := fun W => run_eql_map_nil W _ _ _ _ Tryz.underlying53
    have hkey := keyN_of hs
    have hmx : Maps.size M < maxLen := by
      have := h.size
      have := namesT_len T
      unfold maxLen
      omega
    have HY := Go.Lib.hid hy
    have H := Go.Lib.hid h
    have H1 := Go.Lib.hid h1
    have HO := Go.Lib.hid ho
    have AL := Go.Lib.hid al
    clear hy h h1 ho hall al hlast
    go_enter Tryz.func34, Tryz.ntmps34
    go_upto_region 5 with (fail)
    go_upto_region 6 with (at_builtin; refine wpList_app1 (F := F) (G := G) rfl (.tmp 29) (.tmp 31) rfl rfl rfl rfl hold (by omega) p hlit ?_; intro h' w2 ap)
    have HB := H1.out.app_box HO.out ap
    have bx2 := HB.1.trans H1.out.box
    have own2 := H1.out.app_own HO.out ap
    have y0 : w2.cell? ⟨g, 0, none⟩ = some (.map (some mb)) := by rw [cell_of_row w2 g 0 _ _ _ bx2]; rfl
    have BX := Go.Lib.hid bx2
    have AP := Go.Lib.hid ap
    have HN := Go.Lib.hid ap.li.len
    clear HB bx2 ap hold hlit ql qm k0 k1 z0 z1
    go_upto_region 7 with (at_mapUpdate; refine wpList_mapUpdate_own _ rfl _ _ _ 53 rfl 9 56 keyedN Tryz.underlying53 slR mb (Maps.size M) M rfl own2 hmx _ _ _ rfl rfl hkey _ [] (slR_some h') ?_; intro w3 ho3 hg3)
    have bx3 := (hg3.block g (by have := AP.out.size; have := H1.out.glt; omega) (fun e => H1.out.ne (by injection e with e; exact e.symm))).trans BX.out
    have x1 : w3.cell? ⟨g, 1, none⟩ = some (.int .i64 (lastP T)) := by rw [cell_of_row w3 g 1 _ _ _ bx3]; rfl
    have zf : w3.frozen? ⟨g, 1, none⟩ = false := by simp [World.frozen?, bx3]
    obtain ⟨q1, q2, q3⟩ := H1.out.added HO.out AP.out hg3 ho3
    have Q1 := Go.Lib.hid q1
    have Q2 := Go.Lib.hid q2
    have Q3 := Go.Lib.hid q3
    clear q1 q2 q3 bx3 own2 y0 ho3 hg3
    obtain ⟨hb, hn, hcp⟩ := h'
    obtain rfl : hn = (allP T s).length + 1 := by
      have := HN.out
      rw [List.length_append] at this
      exact this.symm
    go_wp2_with fail
    go_ret2
    rw [HY.out]
    have hsz := AL.out.size
    have e1 := Q2.out.size
    refine ⟨by simp, _, _, _, Q1.out.wide (fun k hk => ?_) (fun k hk => ?_), fun k hk => ?_, (Ch.of_below AL.out).trans (Q2.out.wide fun k hk => .inl hk), Q3.out.from AL.out⟩
    · rcases hk with hk | ⟨hk, hk2⟩
      · exact .inl hk
      · exact .inr ⟨by omega, hk2⟩
    · exact up_lt H.out.lt (by omega) hk
    · rcases hk with hk | ⟨hk, hk2⟩
      · exact .inl hk
      · exact .inr ⟨by omega, hk2⟩

set_option maxHeartbeats 4000000 in
set_option maxRecDepth 100000 in
theorem ver12_any (h : TbR w F G g T mb M hd) (ok : TOk T) {s : ByteArray} (hs : s.size ≤ maxLen) (u : Int) :
    Calls Tryz.prog 30 #[.pointer (some ⟨g, 0, none⟩), .string s, .int .i64 u] w fun e w' => e = .returned (.int .i64 (verN (allP T s) u : Nat)) ∧ ∃ q, w' = w.drewN q := by
  have k0 := h.c0
  obtain ⟨old, ho⟩ := oldOf_any T hd s
  have ql := h.look ho hs
  obtain ⟨A, n, c, e, rd, _⟩ := mkL_rd h ho
  rw [e] at ql
  have hlen := allP_len T s
  have hl := ok.len
  have hn := rd.len
  have hp : (allP T s).Pairwise (· ≤ ·) := (allP_rise ok.rise s).imp fun h => by omega
  have hcp := List.countP_le_length (p := fun x : Int => decide (x < u)) (l := allP T s)
  generalize hL : allP T s = l at *
  have HV : Hid (verN l u = l.countP (· < u) + if u ∈ l then 1 else 0) := Go.Lib.hid rfl
  clear h ho e hL ok
  generalize verN l u = V at *
  go_enter Tryz.func30, Tryz.ntmps30
  go_wp2_with fail
  refine (search_any A n c l u w rd (by omega) hp).mono ?_
  rintro e w1 ⟨rfl, q, rfl⟩
  clear rd hp ql
  by_cases hu : u ∈ l
  · have hv := HV.out
    rw [if_pos hu] at hv
    rw [decide_eq_true hu]
    generalize l.countP (· < u) = cn at *
    subst hv
    clear HV hu
    have i1 : IntKind.i64.wrap ((cn : Int) + 1) = (cn : Int) + 1 := IntWalk.i64_in _ (by omega)
    go_wp2_with fail
    go_ret
    exact ⟨by simp, _, rfl⟩
  · have hv := HV.out
    rw [if_neg hu, Nat.add_zero] at hv
    rw [decide_eq_false hu]
    generalize l.countP (· < u) = cn at *
    subst hv
    clear HV hu
    go_wp2_with fail
    go_ret
    exact ⟨rfl, _, rfl⟩
end

end Go.Proofs.YtiplfhmimpkplaaGreat.SmWalk

/-
  Contracts of the landed streams, its table a part of an index: Add, Version.
-/
namespace Go.Proofs.YtiplfhmimpkplaaGreat.InWalk
open Go.RowKit Go.Maps Go.Proofs.YtiplfhmimpkplaaGreat.MemRow Go.Proofs.YtiplfhmimpkplaaGreat.Ev Go.Proofs.YtiplfhmimpkplaaGreat.NameMath Go.Proofs.YtiplfhmimpkplaaGreat.NameWalk Go.Proofs.YtiplfhmimpkplaaGreat.EvWalk Go.Proofs.YtiplfhmimpkplaaGreat.NumMem Go.Proofs.YtiplfhmimpkplaaGreat.NMap Go.Proofs.YtiplfhmimpkplaaGreat.DkWalk Go.Proofs.YtiplfhmimpkplaaGreat.SmWalk

section
variable {w : World} {F G : Nat → Prop} {g : Nat} {r a t y : Value} {mb : Option Nat} {T : Tb} {M : DataW Hr} {hd : ByteArray → Hr}
set_option maxRecDepth 100000 in
/-- A map where there was none. -/
theorem TbC.made {lp : Value} (hx : XBx w g r (.map none) lp a t y) (h : TbC w F G T none M hd) :
    XBx ((w.alloc (.map #[] 0)).setCell ⟨g, 1, none⟩ (.map (some w.heap.size))) g r (.map (some w.heap.size)) lp a t y ∧
    TbC ((w.alloc (.map #[] 0)).setCell ⟨g, 1, none⟩ (.map (some w.heap.size))) (up F w ((w.alloc (.map #[] 0)).setCell ⟨g, 1, none⟩ (.map (some w.heap.size)))) (up G w ((w.alloc (.map #[] 0)).setCell ⟨g, 1, none⟩ (.map (some w.heap.size)))) T (some w.heap.size) (.map []) hd ∧
    Ch (fun k => F k ∨ k = g) w ((w.alloc (.map #[] 0)).setCell ⟨g, 1, none⟩ (.map (some w.heap.size))) ∧
    KinS w ((w.alloc (.map #[] 0)).setCell ⟨g, 1, none⟩ (.map (some w.heap.size))) F T hd T hd := by
  obtain rfl := h.nil
  have al : Below w.heap.size w (w.alloc (.map #[] 0)) := (Below.refl _ _).alloc (Nat.le_refl _) _
  have hx1 := hx.below al
  have h1 := h.below al
  have s1 : (w.alloc (.map #[] 0)).heap.size = w.heap.size + 1 := by simp
  have s2 : ((w.alloc (.map #[] 0)).setCell ⟨g, 1, none⟩ (.map (some w.heap.size))).heap.size = w.heap.size + 1 := by simp [World.setCell]
  have own := (World.ownsMap_made w Tryz.prog 9 slR).kept (put_grown _ g 1 (.map (some w.heap.size))) (fun e => by
    injection e with e
    have := hx.lt
    omega)
  refine ⟨hx1.set1 _, ⟨own, NOf.empty _, fun s hs => (by cases hs), fun s hs => (by cases hs), fun b e => ?_, fun k hk => ?_, fun k hk => ?_⟩, ?_, ?_⟩
  · injection e with e
    subst e
    exact .inr ⟨Nat.le_refl _, by omega⟩
  · rcases hk with hk | hk
    · exact .inl (h.fG k hk)
    · exact .inr hk
  · exact up_lt h.lt (by omega) hk
  · exact (Ch.of_below al).trans (put_ch _ _ _ (.inl (.inr rfl)))
  · exact (KinS.same al F [] hd).trans ((KinS.box hx1 1 _ _ [] hd))
set_option maxHeartbeats 4000000 in
set_option maxRecDepth 100000 in
theorem add14s_any (hx : XBx w g r (.map mb) (.int .i64 (lastP T)) a t y) (h : TbC w F G T mb M hd) (ok : TOk T) (hl : T.length < 400) {s : ByteArray} (hs : s.size ≤ maxLen) {p : Int} (hp : -9223372036854775808 ≤ p ∧ p ≤ 9223372036854775807) :
    Calls Tryz.prog 34 #[.pointer (some ⟨g, 1, none⟩), .string s, .int .i64 p] w fun e w' => e = .returned (.tuple #[.int .i64 (addF T s p).1, .int .i64 (addF T s p).2.1]) ∧
      ∃ mb1 M1 hd1, XBx w' g r (.map mb1) (.int .i64 (lastP (addF T s p).2.2)) a t y ∧ TbC w' (up F w w') (up G w w') (addF T s p).2.2 mb1 M1 hd1 ∧ Ch (fun k => F k ∨ k = g) w w' ∧ KinS w w' F T hd (addF T s p).2.2 hd1 := by
  have k0 := hx.c1
  have k1 := hx.c2
  have z0 := hx.frozen 1
  have z1 := hx.frozen 2
  have hlast := last_pos ok.rise
  by_cases hc : p ≤ lastP T
  · rw [add_no s (.inr hc)]
    have H := Go.Lib.hid h
    have HX := Go.Lib.hid hx
    clear h hx hlast
    go_enter Tryz.func34, Tryz.ntmps34
    go_wp2_with fail
    go_ret2
    exact ⟨rfl, mb, M, hd, HX.out, H.out.wide (fun _ hk => .inl hk) (fun _ hk => .inl hk) (fun k hk => by rcases hk with hk | hk; exact .inl (H.out.fG k hk); exact .inr hk) (fun k hk => up_lt H.out.lt (Nat.le_refl _) hk), Ch.refl _ _, KinS.same (Below.refl _ _) _ _ _⟩
  · have hy := add_yes ok.rise s (p := p) (by omega) (by omega)
    have hall : (posF T s (lastP T)) = allP T s := by
      rw [posF_all, List.filter_eq_self.2]
      intro q hq
      unfold allP at hq
      obtain ⟨x, hx, rfl⟩ := List.mem_map.1 hq
      have := last_le ok.rise x (List.mem_filter.1 hx).1
      simpa using this
    rw [hall] at hy
    have hlen := allP_len T s
    have qm : ∀ W, (binOp .eql 53 (.map mb) (.map none)).run Tryz.prog W = .ok (.bool mb.isNone) W := fun W => run_eql_map_nil W _ _ _ _ Tryz.underlying53
    have hmm := fun W => run_makeMap (P := Tryz.prog) 53 W
    have hkey := keyN_of hs
    have HY := Go.Lib.hid hy
    have H := Go.Lib.hid h
    have HX := Go.Lib.hid hx
    clear hy h hx hall hlast
    go_enter Tryz.func34, Tryz.ntmps34
    go_upto_region 3 with (fail)
    go_upto_if 19 with (fail)
    go_cut [6] (fun _ wx => ∃ b M1, Hid (XBx wx g r (.map (some b)) (.int .i64 (lastP T)) a t y ∧ TbC wx (up F w wx) (up G w wx) T (some b) M1 hd ∧ Ch (fun k => F k ∨ k = g) w wx ∧ KinS w wx F T hd T hd))
    case first =>
      cases mb with
      | none =>
        obtain ⟨q1, q2, q3, q4⟩ := TbC.made HX.out H.out
        have Q := Go.Lib.hid (And.intro q1 (And.intro q2 (And.intro q3 q4)))
        have b1 : Below w.heap.size w (w.alloc (.map #[] 0)) := (Below.refl _ w).alloc (Nat.le_refl _) _
        have k2 := (HX.out.below b1).c1
        have z2 := (HX.out.below b1).frozen 1
        clear q1 q2 q3 q4 b1
        go_wp2_with fail
        go_meet
        exact ⟨_, _, Q⟩
      | some b =>
        have Q := Go.Lib.hid (And.intro HX.out (And.intro (H.out.wide (F' := up F w w) (G' := up G w w) (fun _ hk => .inl hk) (fun _ hk => .inl hk) (fun k hk => by rcases hk with hk | hk; exact .inl (H.out.fG k hk); exact .inr hk) (fun k hk => up_lt H.out.lt (Nat.le_refl _) hk)) (And.intro (Ch.refl (fun k => F k ∨ k = g) w) (show KinS w w F T hd T hd from KinS.same (Below.refl _ _) F T hd))))
        go_wp2_with fail
        go_meet
        exact ⟨_, _, Q⟩
    case rest =>
      obtain ⟨b, M1, HC⟩ := hcut
      obtain ⟨hx1, h1, hc1, hk1⟩ := HC.out
      clear k0 k1 z0 z1 qm hmm
      have k0 := hx1.c1
      have k1 := hx1.c2
      obtain ⟨old, ho⟩ := oldOf_any T hd s
      have ql := h1.look ho hs
      have al : Below wc.heap.size wc (wc.alloc (.cells #[.int .i64 p] 3)) := (Below.refl _ _).alloc (Nat.le_refl _) _
      have h2 := h1.below al
      have hx2 := hx1.below al
      have hold := h2.old ho
      have hlit := lit_ints wc rfl p
      have hmx : Maps.size M1 < maxLen := by
        have := h1.size
        have := namesT_len T
        unfold maxLen
        omega
      have H2 := Go.Lib.hid h2
      have HX2 := Go.Lib.hid hx2
      have HO := Go.Lib.hid ho
      have AL := Go.Lib.hid al
      clear h1 h2 ho al hx1 hx2 hc1 hk1
      go_upto_region 5 with (fail)
      go_upto_region 6 with (at_builtin; refine wpList_app1 rfl (.tmp 29) (.tmp 31) rfl rfl rfl rfl hold (by omega) p hlit ?_; intro h' w2 ap)
      have bx2 := H2.out.app_box HX2.out HO.out ap
      have own2 := H2.out.app_own HO.out ap
      have y0 : w2.cell? ⟨g, 1, none⟩ = some (.map (some b)) := bx2.c1
      have BX := Go.Lib.hid bx2
      have AP := Go.Lib.hid ap
      have HN := Go.Lib.hid ap.li.len
      clear bx2 ap hold hlit ql k0 k1
      go_upto_region 7 with (at_mapUpdate; refine wpList_mapUpdate_own _ rfl _ _ _ 53 rfl 9 56 keyedN Tryz.underlying53 slR b (Maps.size M1) M1 rfl own2 hmx _ _ _ rfl rfl hkey _ [] (slR_some h') ?_; intro w3 ho3 hg3)
      have bx3 := BX.out.at_ (hg3.block g BX.out.lt (fun e => by
        obtain ⟨es, clock, hb, _⟩ := own2
        injection e with e
        rw [← e, BX.out] at hb
        injection hb with hb
        cases hb))
      have x1 := bx3.c2
      have zf := bx3.frozen 2
      obtain ⟨q1, q2, q3⟩ := H2.out.added HO.out AP.out hg3 ho3
      have Q1 := Go.Lib.hid (q1.box bx3 2 (.int .i64 p))
      have Q2 := Go.Lib.hid (bx3.set2 (.int .i64 p))
      have Q3 := Go.Lib.hid (q3.trans (KinS.box bx3 2 (.int .i64 p) _ _ _))
      have Q4 := Go.Lib.hid (((q2.wide (G := fun k => up F w wc k ∨ k = g) fun k hk => .inl hk)).trans (put_ch w3 2 (.int .i64 p) (.inl (.inr rfl))))
      clear q1 q2 q3 bx3 own2 y0 ho3 hg3
      obtain ⟨hb, hn, hcp⟩ := h'
      obtain rfl : hn = (allP T s).length + 1 := by
        have := HN.out
        rw [List.length_append] at this
        exact this.symm
      go_wp2_with fail
      go_ret2
      rw [HY.out]
      obtain ⟨hx1, h1, hc1, hk1⟩ := HC.out
      have s1 := hc1.size
      have s2 := AL.out.size
      have s3 := Q4.out.size
      have hs3 : (w3.setCell ⟨g, 2, none⟩ (.int .i64 p)).heap.size = w3.heap.size := by simp [World.setCell]
      have X : XBx (w3.setCell ⟨g, 2, none⟩ (.int .i64 p)) g r (.map (some b)) (.int .i64 (lastP (T ++ [(s, p)]))) a t y := by
        rw [last_snoc]
        exact Q2.out
      have K3 : KinS (wc.alloc (.cells #[.int .i64 p] 3)) (w3.setCell ⟨g, 2, none⟩ (.int .i64 p)) (up (up F w wc) wc (wc.alloc (.cells #[.int .i64 p] 3))) T hd (T ++ [(s, p)]) (setHr hd s ⟨hb, (allP T s).length + 1, hcp⟩) := Q3.out.wide (fun k hk => Or.inl hk)
      have C4 : Ch (up (fun k => F k ∨ k = g) w wc) wc (w3.setCell ⟨g, 2, none⟩ (.int .i64 p)) := (Ch.of_below AL.out).trans (Q4.out.wide fun k hk => Or.inl (by
        rcases hk with (hk | hk) | hk
        · exact .inl (.inl hk)
        · exact .inr hk
        · exact .inl (.inr hk)))
      refine ⟨by simp, _, X, _, _, Q1.out.wide (fun k hk => ?_) (fun k hk => ?_) (fun k hk => ?_) (fun k hk => ?_), hc1.trans C4, hk1.trans ((KinS.same AL.out (up F w wc) T hd).trans K3)⟩
      · rcases hk with (hk | hk) | hk
        · exact .inl hk
        · exact .inr ⟨hk.1, by omega⟩
        · exact .inr ⟨by omega, by omega⟩
      · rcases hk with (hk | hk) | hk
        · exact .inl hk
        · exact .inr ⟨hk.1, by omega⟩
        · exact .inr ⟨by omega, by omega⟩
      · rcases hk with hk | hk
        · exact .inl (H.out.fG k hk)
        · exact .inr hk
      · exact up_lt H.out.lt (by omega) hk

set_option maxHeartbeats 4000000 in
set_option maxRecDepth 100000 in
theorem ver14s_any {lp : Value} (hx : XBx w g r (.map mb) lp a t y) (h : TbC w F G T mb M hd) (ok : TOk T) {s : ByteArray} (hs : s.size ≤ maxLen) (u : Int) :
    Calls Tryz.prog 30 #[.pointer (some ⟨g, 1, none⟩), .string s, .int .i64 u] w fun e w' => e = .returned (.int .i64 (verN (allP T s) u : Nat)) ∧ ∃ q, w' = w.drewN q := by
  have k0 := hx.c1
  obtain ⟨old, ho⟩ := oldOf_any T hd s
  have ql := h.look ho hs
  obtain ⟨A, n, c, e, rd, _⟩ := h.rd ho
  rw [e] at ql
  have hlen := allP_len T s
  have hl := ok.len
  have hn := rd.len
  have hp : (allP T s).Pairwise (· ≤ ·) := (allP_rise ok.rise s).imp fun h => by omega
  have hcp := List.countP_le_length (p := fun x : Int => decide (x < u)) (l := allP T s)
  generalize hL : allP T s = l at *
  have HV : Hid (verN l u = l.countP (· < u) + if u ∈ l then 1 else 0) := Go.Lib.hid rfl
  clear h ho e hL ok hx
  generalize verN l u = V at *
  go_enter Tryz.func30, Tryz.ntmps30
  go_wp2_with fail
  refine (search_any A n c l u w rd (by omega) hp).mono ?_
  rintro e w1 ⟨rfl, q, rfl⟩
  clear rd hp ql
  by_cases hu : u ∈ l
  · have hv := HV.out
    rw [if_pos hu] at hv
    rw [decide_eq_true hu]
    generalize l.countP (· < u) = cn at *
    subst hv
    clear HV hu
    have i1 : IntKind.i64.wrap ((cn : Int) + 1) = (cn : Int) + 1 := IntWalk.i64_in _ (by omega)
    go_wp2_with fail
    go_ret
    exact ⟨by simp, _, rfl⟩
  · have hv := HV.out
    rw [if_neg hu, Nat.add_zero] at hv
    rw [decide_eq_false hu]
    generalize l.countP (· < u) = cn at *
    subst hv
    clear HV hu
    go_wp2_with fail
    go_ret
    exact ⟨rfl, _, rfl⟩
end

end Go.Proofs.YtiplfhmimpkplaaGreat.InWalk

/-
  Contracts of the landed streams: Positions.
-/
namespace Go.Proofs.YtiplfhmimpkplaaGreat.SmWalk
open Go.RowKit Go.Maps Go.Proofs.YtiplfhmimpkplaaGreat.MemRow Go.Proofs.YtiplfhmimpkplaaGreat.Ev Go.Proofs.YtiplfhmimpkplaaGreat.NameMath Go.Proofs.YtiplfhmimpkplaaGreat.NameWalk Go.Proofs.YtiplfhmimpkplaaGreat.EvWalk Go.Proofs.YtiplfhmimpkplaaGreat.NumMem Go.Proofs.YtiplfhmimpkplaaGreat.NMap Go.Proofs.YtiplfhmimpkplaaGreat.DkWalk

set_option maxRecDepth 100000 in
theorem elem_ints : Tryz.prog.elem 56 = 3 := by kernel_rfl
section
variable {w : World} {F G : Nat → Prop} {g mb : Nat} {T : Tb} {M : DataW Hr} {hd : ByteArray → Hr}
set_option maxHeartbeats 4000000 in
set_option maxRecDepth 100000 in
theorem pos12_any (h : TbR w F G g T mb M hd) (ok : TOk T) {s : ByteArray} (hs : s.size ≤ maxLen) (u : Int) :
    Calls Tryz.prog 41 #[.pointer (some ⟨g, 0, none⟩), .string s, .int .i64 u] w fun e w' => ∃ B m c, e = .returned (.slice B m c) ∧ RdI w' B m c (posF T s u) ∧ OwnC 1 w' w.heap.size 3 B m c (nums (posF T s u)) ∧ Below w.heap.size w w' := by
  have k0 : w.drew.cell? ⟨g, 0, none⟩ = some (.map (some mb)) := h.c0
  obtain ⟨old, ho⟩ := oldOf_any T hd s
  have bq : ∀ q, Below w.heap.size w (w.drewN q) := fun q => ⟨rfl, rfl, rfl, Nat.le_refl _, fun _ _ => rfl⟩
  have bd : Below w.heap.size w w.drew := ⟨rfl, rfl, rfl, Nat.le_refl _, fun _ _ => rfl⟩
  have qd := (h.below bd).look ho hs
  have ql := fun q => (h.below (bq q)).look ho hs
  have LK : ∀ w', Below w.heap.size w w' → (Instr.lookup 53 (.map (some mb)) (.string s) false).run Tryz.prog w' = .ok (mkL old) w' := fun w' b => (h.below b).look ho hs
  have k00 := h.c0
  obtain ⟨A, n, c, e, rd, hA⟩ := mkL_rd h ho
  rw [e] at qd
  simp only [e] at ql LK
  have LK := Go.Lib.hid LK
  have hlen := allP_len T s
  have hl := ok.len
  have hn := rd.len
  have hv := verN_le (allP_rise ok.rise s) u
  obtain ⟨qs, rs⟩ := slice_hi (k := 1) 56 3 Tryz.underlying56 elem_ints (by kernel_rfl) rd (m := verN (allP T s) u) (by omega)
  have CV := Go.Lib.hid (ver12_any (h.below bd) ok hs u)
  have rs' : RdI w A (verN (allP T s) u) c (posF T s u) := by
    rw [posF_take ok.rise]
    unfold RdI
    have e2 : nums ((allP T s).take (verN (allP T s) u)) = (nums (allP T s)).take (verN (allP T s) u * 1) := by simp [nums, List.map_take]
    rw [e2]
    exact rs
  have hA' : A = none → verN (allP T s) u = 0 := fun e => by have := hA e; omega
  have hm : verN (allP T s) u ≤ 1000000 := by omega
  generalize verN (allP T s) u = m at *
  generalize posF T s u = pl at *
  have BQ := Go.Lib.hid bq
  clear h ho e ok rs hA hv rd bq bd
  go_enter Tryz.func41, Tryz.ntmps41
  go_wp2_with fail
  go_region_held (fun w' => w'.cell? ⟨g, 0, none⟩ = some (.map (some mb)) ∧ (Instr.lookup 53 (.map (some mb)) (.string s) false).run Tryz.prog w' = .ok (.slice A n c) w')
    (first | exact ⟨k0, qd⟩ | exact ⟨k0, ql _⟩ | exact ⟨y6, l6⟩)
    (first
      | (go_at_call 30; refine (CV.out).mono ?_; rintro e w5 ⟨rfl, q, rfl⟩)
      | (go_at_call 62; refine (cloneI_any A m c pl _ (RdC.drewN rs' _) hA' hm).mono ?_; rintro e w6 ⟨B, m2, c2, rfl, r6, o6, b6⟩; have B6 : Below w.heap.size w w6 := below_chain (BQ.out _) b6; have y6 := bcell B6 k00; have l6 := LK.out w6 B6))
  all_goals
    go_wp2_with fail
    go_ret
    exact ⟨_, _, _, rfl, r6, o6, B6⟩
end

end Go.Proofs.YtiplfhmimpkplaaGreat.SmWalk

/-
  Contracts of the landed streams: Clone.
-/
namespace Go.Proofs.YtiplfhmimpkplaaGreat.SmWalk
open Go.RowKit Go.Maps Go.Proofs.YtiplfhmimpkplaaGreat.MemRow Go.Proofs.YtiplfhmimpkplaaGreat.Ev Go.Proofs.YtiplfhmimpkplaaGreat.NameMath Go.Proofs.YtiplfhmimpkplaaGreat.NameWalk Go.Proofs.YtiplfhmimpkplaaGreat.EvWalk Go.Proofs.YtiplfhmimpkplaaGreat.NumMem Go.Proofs.YtiplfhmimpkplaaGreat.NMap Go.Proofs.YtiplfhmimpkplaaGreat.DkWalk

set_option maxRecDepth 100000 in
/-- v[:n:n] -/
theorem slice_fullI (x : Hr) (hc : x.n ≤ x.c) (W : World) : (Instr.slice 56 (valL x) none (some (.int .i64 (x.n : Int))) (some (.int .i64 (x.n : Int)))).run Tryz.prog W = .ok (.slice (some ⟨x.b, 0, none⟩) x.n x.n) W := by
  have hu : Tryz.prog.underlying 56 = some (.slice (Tryz.prog.elem 56)) := by rw [elem_ints]; exact Tryz.underlying56
  rw [run_slice_hm (P := Tryz.prog) W 56 _ x.n x.c hu .i64 .i64 (x.n : Int) (x.n : Int) (by omega) (by omega) (by omega), elem_ints, run_size (k := 1) (by kernel_rfl)]
  simp only [Result.andThen, sliced, Int.toNat_natCast, Nat.zero_mul, Option.map_some, Addr.add, Nat.sub_zero]
  congr 2
  split <;> rfl
/-- A list without room. -/
def fullH (hd : ByteArray → Hr) (s : ByteArray) : Hr := ⟨(hd s).b, (hd s).n, (hd s).n⟩
/-- A table that is being made. -/
structure CloR (w : World) (g mb : Nat) (lp : Int) (ns : List ByteArray) (M : DataW Hr) (hd : ByteArray → Hr) : Prop where
  box : w.heap[g]? = some (.cells #[.map (some mb), .int .i64 lp] 55 (0, 0))
  own : w.ownsMap Tryz.prog 9 slR mb (Maps.size M) M
  nm : NOf M ns (fullH hd)
set_option maxRecDepth 100000 in
theorem CloR.grown {w w' : World} {g mb : Nat} {lp : Int} {ns : List ByteArray} {M : DataW Hr} {hd : ByteArray → Hr} {row : Option Nat} (h : CloR w g mb lp ns M hd) (hg : w.grownBy w' row) (h1 : some g ≠ row) (h2 : some mb ≠ row) : CloR w' g mb lp ns M hd :=
  ⟨(hg.block g (Array.getElem?_eq_some_iff.1 h.box).1 h1).trans h.box, h.own.kept hg h2, h.nm⟩
section
variable {w : World} {F G : Nat → Prop} {g mb : Nat} {T : Tb} {M : DataW Hr} {hd : ByteArray → Hr}
set_option maxHeartbeats 8000000 in
set_option maxRecDepth 100000 in
theorem clone12_any (h : TbR w F G g T mb M hd) (ok : TOk T) :
    Calls Tryz.prog 14 #[.pointer (some ⟨g, 0, none⟩)] w fun e w' => ∃ g', e = .returned (.pointer (some ⟨g', 0, none⟩)) ∧ Below w.heap.size w w' ∧
      ∃ mb2 M2, TbR w' (fun k => w.heap.size ≤ k ∧ k < w'.heap.size) (up G w w') g' T mb2 M2 (fullH hd) := by
  have bd : Below w.heap.size w w.drew := ⟨rfl, rfl, rfl, Nat.le_refl _, fun _ _ => rfl⟩
  have k0 : w.drew.cell? ⟨g, 0, none⟩ = some (.map (some mb)) := h.c0
  have k1 : w.drew.cell? ⟨g, 1, none⟩ = some (.int .i64 (lastP T)) := h.c1
  have hsz := h.size
  have hns := namesT_len T
  have hlt := ok.len
  have ql : ∀ ty, (Builtin.len_ #[53] ty #[.map (some mb)]).run Tryz.prog w.drew = .ok (.int .i64 (Maps.size M : Nat)) w.drew := fun ty => (h.below bd).own.len Tryz.underlying53 ty
  have hmm := run_makeHintN (P := Tryz.prog) (t := 53) Tryz.underlying53
  have b1 := bd.alloc (Nat.le_refl _) (.map #[] 0)
  have x0 := bcell b1 h.c0
  have x1 := bcell b1 h.c1
  have B2 : Below w.heap.size w ((w.alloc (.map #[] 0)).alloc (.cells #[.map (some w.heap.size), .int .i64 (lastP T)] 55)) := ((Below.refl _ w).alloc (Nat.le_refl _) _).alloc (by simp) _
  have x2 := bcell B2 h.c0
  have x3 := bcell B2 h.c1
  have H := Go.Lib.hid h
  have OK := Go.Lib.hid ok
  have HSZ := Go.Lib.hid hsz
  clear h hsz b1 ok
  go_enter Tryz.func14, Tryz.ntmps14
  go_upto_region 1 with (fail)
  go_region_held (fun w' => w'.cell? ⟨g, 0, none⟩ = some (.map (some mb)) ∧ w'.cell? ⟨g, 1, none⟩ = some (.int .i64 (lastP T))) (first | exact ⟨k0, k1⟩ | exact ⟨x0, x1⟩ | exact ⟨x2, x3⟩) (fail)
  have bx := heap_alloc_new (w.alloc (.map #[] 0)) (.cells #[.map (some w.heap.size), .int .i64 (lastP T)] 55)
  have s1 : (w.alloc (.map #[] 0)).heap.size = w.heap.size + 1 := by simp
  have s2 : ((w.alloc (.map #[] 0)).alloc (.cells #[.map (some w.heap.size), .int .i64 (lastP T)] 55)).heap.size = w.heap.size + 2 := by simp
  have o2 := (World.ownsMap_made w Tryz.prog 9 slR).alloc (.cells #[.map (some w.heap.size), .int .i64 (lastP T)] 55)
  rw [s1] at bx
  have bz : Below w.heap.size ((w.alloc (.map #[] 0)).alloc (.cells #[.map (some w.heap.size), .int .i64 (lastP T)] 55)) ((w.alloc (.map #[] 0)).alloc (.cells #[.map (some w.heap.size), .int .i64 (lastP T)] 55)).drew := ⟨rfl, rfl, rfl, Nat.le_refl _, fun _ _ => rfl⟩
  have B3 := B2.trans bz
  have C3 : CloR ((w.alloc (.map #[] 0)).alloc (.cells #[.map (some w.heap.size), .int .i64 (lastP T)] 55)).drew (w.heap.size + 1) w.heap.size (lastP T) [] (.map []) hd := ⟨bx, o2, NOf.empty _⟩
  have s3 : ((w.alloc (.map #[] 0)).alloc (.cells #[.map (some w.heap.size), .int .i64 (lastP T)] 55)).drew.heap.size = w.heap.size + 2 := s2
  clear bx s1 s2 o2 bz B2 x0 x1 x2 x3 k0 k1 ql hmm bd
  go_upto_region 2 with (fail)
  generalize ((w.alloc (.map #[] 0)).alloc (.cells #[.map (some w.heap.size), .int .i64 (lastP T)] 55)).drew = w3 at *
  have h3 := H.out.below B3
  have p0 := h3.c0
  have hown := h3.own
  have NM := h3.nm
  have BB := Go.Lib.hid B3
  have CC := Go.Lib.hid C3
  have SS := Go.Lib.hid s3
  clear h3 B3 C3 s3
  go_wp2_with (at_range; refine wpList_range_own _ rfl _ 53 rfl 9 56 keyedN Tryz.underlying53 slR mb (Maps.size M) M rfl hown ?_; intro w4 hrg4 hg4 hs4)
  go_frame
  go_loopw [4, 5] (fun _ _ wr => ∃ (left : Lit → Bool) (cnt : Nat) (Mc : DataW Hr), wr.ranges Tryz.prog 9 slR mb w3.heap.size (Maps.size M) M left cnt ∧ Hid (CloR wr (w.heap.size + 1) w.heap.size (lastP T) (cameN left (namesT T)) Mc hd) ∧ Below w.heap.size w wr) (fun _ _ wr => wr.rangeLeft mb w3.heap.size)
  case atStart =>
    have hb4 := grown_below hg4
    have hl : ∀ s ∈ namesT T, has M (keyN s) = true := fun s hs => NM.yes hs
    refine ⟨_, _, .map [], hrg4, Go.Lib.hid ?_, below_chain BB.out hb4⟩
    rw [cameN_start hl]
    exact CC.out.grown hg4 (by simp) (by simp)
  case round =>
    obtain ⟨left, cnt, Mc, hrg, HA, hb⟩ := hrel
    clear hrg4 hg4 hs4
    go_wp2_with (at_next; refine wpList_next_ns _ slR mkL mkL_inv valL slR_held rfl _ rfl NM mb w3.heap.size (Maps.size M) _ _ rfl hrg ?_ ?_)
    · intro hc0 hl0
      have ha := HA.out
      rw [cameN_end _ hl0] at ha
      have h4 := H.out.below hb
      have HR : Hid (TbR wr (fun k => w.heap.size ≤ k ∧ k < wr.heap.size) (up G w wr) (w.heap.size + 1) T w.heap.size Mc (fullH hd)) := Go.Lib.hid (by
        have z1 := (Array.getElem?_eq_some_iff.1 ha.box).1
        refine ⟨ha.box, ha.own, ha.nm, fun s hs => ?_, fun s hs t ht _ hx => absurd hx (Nat.lt_irrefl _), ⟨by omega, z1⟩, ⟨Nat.le_refl _, by omega⟩, fun k hk => .inr hk, fun k hk => up_lt H.out.lt hb.size hk⟩
        have r := h4.li s hs
        obtain ⟨cur, e1, e2, e3⟩ := r.ex
        have := r.le
        have := r.cap
        exact ⟨⟨cur, e1, by simp only [fullH]; omega, e3⟩, r.len, r.pos, Nat.le_refl _, by simp only [fullH]; omega, fun hx => absurd hx (Nat.lt_irrefl _), .inl r.gb⟩)
      clear ha HA hrg h4
      go_wp2_with fail
      go_ret
      exact ⟨_, rfl, hb, _, _, HR.out⟩
    · intro s hs w5 cnt5 hlk hss hrg5 hlt5 hg5 hs5 hen
      have s3 := SS.out
      have h5 := HA.out.grown hg5 (by rw [s3]; simp) (by rw [s3]; simp)
      have b5 : Below w.heap.size w w5 := hb.grown hg5 hb.size (fun r e => by injection e with e; omega)
      have r := (H.out.below b5).li s hs
      have hle := r.le
      have hcn : (cameN left (namesT T)).length ≤ (namesT T).length := List.length_filter_le _ _
      have hmx : Maps.size Mc < maxLen := by
        rw [h5.nm.size (h5.own.canon keyedN) ((up_nodupN (namesT_up T)).sublist (List.filter_sublist (p := fun s => !left (keyN s))))]
        unfold maxLen
        omega
      have hkey := keyN_of hss
      obtain ⟨w8, hrun8, hown8, hg8⟩ := (show w5.drew.ownsMap Tryz.prog 9 slR w.heap.size (Maps.size Mc) Mc from h5.own).update keyedN Tryz.underlying53 hmx hkey (slR_some (fullH hd s))
      have hsl := slice_fullI (hd s) hle
      have y0 : w5.drew.cell? ⟨w.heap.size + 1, 0, none⟩ = some (.map (some w.heap.size)) := by
        show w5.cell? _ = _
        rw [cell_of_row w5 (w.heap.size + 1) 0 _ _ _ h5.box]
        rfl
      have y8 := hg8.cell (a := ⟨w.heap.size + 1, 0, none⟩) y0 (by simp)
      have hF : fullH hd s = ⟨(hd s).b, (hd s).n, (hd s).n⟩ := rfl
      have n1 : (some (w.heap.size + 1) : Option Nat) ≠ some w.heap.size := by simp
      have c8 : CloR w8 (w.heap.size + 1) w.heap.size (lastP T) (cameN (cutN left s) (namesT T)) (Mc.put (keyN s) (.held (fullH hd s))) hd :=
        ⟨(hg8.block (w.heap.size + 1) (Array.getElem?_eq_some_iff.1 h5.box).1 n1).trans h5.box, tightN hown8, h5.nm.put (isMapN h5.own) (s := s) (cameN_step hs) (fun _ _ => rfl)⟩
      have hmb := H.out.mlt
      have z5 := hb.size
      have b8 : Below w.heap.size w w8 := (b5.trans (show Below w.heap.size w5 w5.drew from ⟨rfl, rfl, rfl, Nat.le_refl _, fun _ _ => rfl⟩)).grown hg8 b5.size (fun j e => by injection e with e; omega)
      have hrg8 := (show w5.drew.ranges Tryz.prog 9 slR mb w3.heap.size (Maps.size M) M (cutN left s) cnt5 from hrg5).kept hg8 (fun e => by injection e with e; omega) (fun e => by injection e with e; omega)
      have HLEFT := hrg.left_eq
      rw [hF] at hrun8
      have C8 := Go.Lib.hid c8
      clear h5 r hcn hmx hb hown8 hg8 hrg hrg5 hg5 hs5 HA c8 hmb z5 n1 hF hle hlk s3
      generalize hd s = x at *
      obtain ⟨xb, xn, xc⟩ := x
      go_upto_region 5 with (fail)
      go_region_held_law (fun w' => w'.cell? ⟨w.heap.size + 1, 0, none⟩ = some (.map (some w.heap.size))) (first | exact y0 | exact y8) (fail)
      go_wp2_with fail
      go_roundw
      case rel => exact ⟨_, cnt5, _, hrg8, C8, b8⟩
      case measure => rw [hrg8.left_eq, HLEFT]; exact hlt5
end

end Go.Proofs.YtiplfhmimpkplaaGreat.SmWalk

/-
  Contracts of the landed streams, its table a part of an index: Positions, Clone.
-/
namespace Go.Proofs.YtiplfhmimpkplaaGreat.InWalk
open Go.RowKit Go.Maps Go.Proofs.YtiplfhmimpkplaaGreat.MemRow Go.Proofs.YtiplfhmimpkplaaGreat.Ev Go.Proofs.YtiplfhmimpkplaaGreat.NameMath Go.Proofs.YtiplfhmimpkplaaGreat.NameWalk Go.Proofs.YtiplfhmimpkplaaGreat.EvWalk Go.Proofs.YtiplfhmimpkplaaGreat.NumMem Go.Proofs.YtiplfhmimpkplaaGreat.NMap Go.Proofs.YtiplfhmimpkplaaGreat.DkWalk Go.Proofs.YtiplfhmimpkplaaGreat.SmWalk

section
variable {w : World} {F G : Nat → Prop} {g : Nat} {r a t y : Value} {mb : Option Nat} {T : Tb} {M : DataW Hr} {hd : ByteArray → Hr}
set_option maxHeartbeats 4000000 in
set_option maxRecDepth 100000 in
theorem pos14s_any {lp : Value} (hx : XBx w g r (.map mb) lp a t y) (h : TbC w F G T mb M hd) (ok : TOk T) {s : ByteArray} (hs : s.size ≤ maxLen) (u : Int) :
    Calls Tryz.prog 41 #[.pointer (some ⟨g, 1, none⟩), .string s, .int .i64 u] w fun e w' => ∃ B m c, e = .returned (.slice B m c) ∧ RdI w' B m c (posF T s u) ∧ OwnC 1 w' w.heap.size 3 B m c (nums (posF T s u)) ∧ Below w.heap.size w w' := by
  have k0 : w.drew.cell? ⟨g, 1, none⟩ = some (.map mb) := hx.c1
  obtain ⟨old, ho⟩ := oldOf_any T hd s
  have bq : ∀ q, Below w.heap.size w (w.drewN q) := fun q => ⟨rfl, rfl, rfl, Nat.le_refl _, fun _ _ => rfl⟩
  have bd : Below w.heap.size w w.drew := ⟨rfl, rfl, rfl, Nat.le_refl _, fun _ _ => rfl⟩
  have qd := (h.below bd).look ho hs
  have ql := fun q => (h.below (bq q)).look ho hs
  have LK : ∀ w', Below w.heap.size w w' → (Instr.lookup 53 (.map mb) (.string s) false).run Tryz.prog w' = .ok (mkL old) w' := fun w' b => (h.below b).look ho hs
  have k00 := hx.c1
  obtain ⟨A, n, c, e, rd, hA⟩ := h.rd ho
  rw [e] at qd
  simp only [e] at ql LK
  have LK := Go.Lib.hid LK
  have hlen := allP_len T s
  have hl := ok.len
  have hn := rd.len
  have hv := verN_le (allP_rise ok.rise s) u
  obtain ⟨qs, rs⟩ := slice_hi (k := 1) 56 3 Tryz.underlying56 elem_ints (by kernel_rfl) rd (m := verN (allP T s) u) (by omega)
  have CV := Go.Lib.hid (ver14s_any (hx.below bd) (h.below bd) ok hs u)
  have rs' : RdI w A (verN (allP T s) u) c (posF T s u) := by
    rw [posF_take ok.rise]
    unfold RdI
    have e2 : nums ((allP T s).take (verN (allP T s) u)) = (nums (allP T s)).take (verN (allP T s) u * 1) := by simp [nums, List.map_take]
    rw [e2]
    exact rs
  have hA' : A = none → verN (allP T s) u = 0 := fun e => by have := hA e; omega
  have hm : verN (allP T s) u ≤ 1000000 := by omega
  generalize verN (allP T s) u = m at *
  generalize posF T s u = pl at *
  have BQ := Go.Lib.hid bq
  clear h hx ho e ok rs hA hv rd bq bd
  go_enter Tryz.func41, Tryz.ntmps41
  go_wp2_with fail
  go_region_held (fun w' => w'.cell? ⟨g, 1, none⟩ = some (.map mb) ∧ (Instr.lookup 53 (.map mb) (.string s) false).run Tryz.prog w' = .ok (.slice A n c) w')
    (first | exact ⟨k0, qd⟩ | exact ⟨k0, ql _⟩ | exact ⟨y6, l6⟩)
    (first
      | (go_at_call 30; refine (CV.out).mono ?_; rintro e w5 ⟨rfl, q, rfl⟩)
      | (go_at_call 62; refine (cloneI_any A m c pl _ (RdC.drewN rs' _) hA' hm).mono ?_; rintro e w6 ⟨B, m2, c2, rfl, r6, o6, b6⟩; have B6 : Below w.heap.size w w6 := below_chain (BQ.out _) b6; have y6 := bcell B6 k00; have l6 := LK.out w6 B6))
  all_goals
    go_wp2_with fail
    go_ret
    exact ⟨_, _, _, rfl, r6, o6, B6⟩
set_option maxHeartbeats 8000000 in
set_option maxRecDepth 100000 in
theorem clone14sS_any {mb : Nat} (hx : XBx w g r (.map (some mb)) (.int .i64 (lastP T)) a t y) (h : TbC w F G T (some mb) M hd) (ok : TOk T) :
    Calls Tryz.prog 14 #[.pointer (some ⟨g, 1, none⟩)] w fun e w' => ∃ g', e = .returned (.pointer (some ⟨g', 0, none⟩)) ∧ Below w.heap.size w w' ∧
      ∃ mb2 M2, w'.heap[g']? = some (.cells #[.map (some mb2), .int .i64 (lastP T)] 55 (0, 0)) ∧ TbC w' (fun k => w.heap.size ≤ k ∧ k < w'.heap.size) (up G w w') T (some mb2) M2 (fullH hd) := by
  have bd : Below w.heap.size w w.drew := ⟨rfl, rfl, rfl, Nat.le_refl _, fun _ _ => rfl⟩
  have k0 : w.drew.cell? ⟨g, 1, none⟩ = some (.map (some mb)) := hx.c1
  have k1 : w.drew.cell? ⟨g, 2, none⟩ = some (.int .i64 (lastP T)) := hx.c2
  have hsz := h.size
  have hns := namesT_len T
  have hlt := ok.len
  have ql : ∀ ty, (Builtin.len_ #[53] ty #[.map (some mb)]).run Tryz.prog w.drew = .ok (.int .i64 (Maps.size M : Nat)) w.drew := fun ty => World.ownsMap.len ((h.below bd).own : w.drew.ownsMap Tryz.prog 9 slR mb (Maps.size M) M) Tryz.underlying53 ty
  have hmm := run_makeHintN (P := Tryz.prog) (t := 53) Tryz.underlying53
  have b1 := bd.alloc (Nat.le_refl _) (.map #[] 0)
  have x0 := bcell b1 hx.c1
  have x1 := bcell b1 hx.c2
  have B2 : Below w.heap.size w ((w.alloc (.map #[] 0)).alloc (.cells #[.map (some w.heap.size), .int .i64 (lastP T)] 55)) := ((Below.refl _ w).alloc (Nat.le_refl _) _).alloc (by simp) _
  have x2 := bcell B2 hx.c1
  have x3 := bcell B2 hx.c2
  have H := Go.Lib.hid h
  have HX := Go.Lib.hid hx
  have OK := Go.Lib.hid ok
  have HSZ := Go.Lib.hid hsz
  clear h hx hsz b1 ok
  go_enter Tryz.func14, Tryz.ntmps14
  go_upto_region 1 with (fail)
  go_region_held (fun w' => w'.cell? ⟨g, 1, none⟩ = some (.map (some mb)) ∧ w'.cell? ⟨g, 2, none⟩ = some (.int .i64 (lastP T))) (first | exact ⟨k0, k1⟩ | exact ⟨x0, x1⟩ | exact ⟨x2, x3⟩) (fail)
  have bx := heap_alloc_new (w.alloc (.map #[] 0)) (.cells #[.map (some w.heap.size), .int .i64 (lastP T)] 55)
  have s1 : (w.alloc (.map #[] 0)).heap.size = w.heap.size + 1 := by simp
  have s2 : ((w.alloc (.map #[] 0)).alloc (.cells #[.map (some w.heap.size), .int .i64 (lastP T)] 55)).heap.size = w.heap.size + 2 := by simp
  have o2 := (World.ownsMap_made w Tryz.prog 9 slR).alloc (.cells #[.map (some w.heap.size), .int .i64 (lastP T)] 55)
  rw [s1] at bx
  have bz : Below w.heap.size ((w.alloc (.map #[] 0)).alloc (.cells #[.map (some w.heap.size), .int .i64 (lastP T)] 55)) ((w.alloc (.map #[] 0)).alloc (.cells #[.map (some w.heap.size), .int .i64 (lastP T)] 55)).drew := ⟨rfl, rfl, rfl, Nat.le_refl _, fun _ _ => rfl⟩
  have B3 := B2.trans bz
  have C3 : CloR ((w.alloc (.map #[] 0)).alloc (.cells #[.map (some w.heap.size), .int .i64 (lastP T)] 55)).drew (w.heap.size + 1) w.heap.size (lastP T) [] (.map []) hd := ⟨bx, o2, NOf.empty _⟩
  have s3 : ((w.alloc (.map #[] 0)).alloc (.cells #[.map (some w.heap.size), .int .i64 (lastP T)] 55)).drew.heap.size = w.heap.size + 2 := s2
  clear bx s1 s2 o2 bz B2 x0 x1 x2 x3 k0 k1 ql hmm bd
  go_upto_region 2 with (fail)
  generalize ((w.alloc (.map #[] 0)).alloc (.cells #[.map (some w.heap.size), .int .i64 (lastP T)] 55)).drew = w3 at *
  have h3 := H.out.below B3
  have p0 := (HX.out.below B3).c1
  have hown : w3.ownsMap Tryz.prog 9 slR mb (Maps.size M) M := h3.own
  have HMB := Go.Lib.hid (h3.lt _ (h3.fG _ (h3.fm mb rfl)))
  have NM := h3.nm
  have BB := Go.Lib.hid B3
  have CC := Go.Lib.hid C3
  have SS := Go.Lib.hid s3
  clear h3 B3 C3 s3
  go_wp2_with (at_range; refine wpList_range_own _ rfl _ 53 rfl 9 56 keyedN Tryz.underlying53 slR mb (Maps.size M) M rfl hown ?_; intro w4 hrg4 hg4 hs4)
  go_frame
  go_loopw [4, 5] (fun _ _ wr => ∃ (left : Lit → Bool) (cnt : Nat) (Mc : DataW Hr), wr.ranges Tryz.prog 9 slR mb w3.heap.size (Maps.size M) M left cnt ∧ Hid (CloR wr (w.heap.size + 1) w.heap.size (lastP T) (cameN left (namesT T)) Mc hd) ∧ Below w.heap.size w wr) (fun _ _ wr => wr.rangeLeft mb w3.heap.size)
  case atStart =>
    have hb4 := grown_below hg4
    have hl : ∀ s ∈ namesT T, has M (keyN s) = true := fun s hs => NM.yes hs
    refine ⟨_, _, .map [], hrg4, Go.Lib.hid ?_, below_chain BB.out hb4⟩
    rw [cameN_start hl]
    exact CC.out.grown hg4 (by simp) (by simp)
  case round =>
    obtain ⟨left, cnt, Mc, hrg, HA, hb⟩ := hrel
    clear hrg4 hg4 hs4
    go_wp2_with (at_next; refine wpList_next_ns _ slR mkL mkL_inv valL slR_held rfl _ rfl NM mb w3.heap.size (Maps.size M) _ _ rfl hrg ?_ ?_)
    · intro hc0 hl0
      have ha := HA.out
      rw [cameN_end _ hl0] at ha
      have h4 := H.out.below hb
      have HR : Hid (wr.heap[w.heap.size + 1]? = some (.cells #[.map (some w.heap.size), .int .i64 (lastP T)] 55 (0, 0)) ∧ TbC wr (fun k => w.heap.size ≤ k ∧ k < wr.heap.size) (up G w wr) T (some w.heap.size) Mc (fullH hd)) := Go.Lib.hid (by
        have z1 := (Array.getElem?_eq_some_iff.1 ha.box).1
        refine ⟨ha.box, ha.own, ha.nm, fun s hs => ?_, fun s hs t ht _ hx => absurd hx (Nat.lt_irrefl _), fun b e => by injection e with e; subst e; exact ⟨Nat.le_refl _, by omega⟩, fun k hk => .inr hk, fun k hk => up_lt H.out.lt hb.size hk⟩
        have r := h4.li s hs
        obtain ⟨cur, e1, e2, e3⟩ := r.ex
        have := r.le
        have := r.cap
        exact ⟨⟨cur, e1, by simp only [fullH]; omega, e3⟩, r.len, r.pos, Nat.le_refl _, by simp only [fullH]; omega, fun hx => absurd hx (Nat.lt_irrefl _), .inl r.gb⟩)
      clear ha HA hrg h4
      go_wp2_with fail
      go_ret
      exact ⟨_, rfl, hb, _, _, HR.out.1, HR.out.2⟩
    · intro s hs w5 cnt5 hlk hss hrg5 hlt5 hg5 hs5 hen
      have s3 := SS.out
      have h5 := HA.out.grown hg5 (by rw [s3]; simp) (by rw [s3]; simp)
      have b5 : Below w.heap.size w w5 := hb.grown hg5 hb.size (fun r e => by injection e with e; omega)
      have r := (H.out.below b5).li s hs
      have hle := r.le
      have hcn : (cameN left (namesT T)).length ≤ (namesT T).length := List.length_filter_le _ _
      have hmx : Maps.size Mc < maxLen := by
        rw [h5.nm.size (h5.own.canon keyedN) ((up_nodupN (namesT_up T)).sublist (List.filter_sublist (p := fun s => !left (keyN s))))]
        unfold maxLen
        omega
      have hkey := keyN_of hss
      obtain ⟨w8, hrun8, hown8, hg8⟩ := (show w5.drew.ownsMap Tryz.prog 9 slR w.heap.size (Maps.size Mc) Mc from h5.own).update keyedN Tryz.underlying53 hmx hkey (slR_some (fullH hd s))
      have hsl := slice_fullI (hd s) hle
      have y0 : w5.drew.cell? ⟨w.heap.size + 1, 0, none⟩ = some (.map (some w.heap.size)) := by
        show w5.cell? _ = _
        rw [cell_of_row w5 (w.heap.size + 1) 0 _ _ _ h5.box]
        rfl
      have y8 := hg8.cell (a := ⟨w.heap.size + 1, 0, none⟩) y0 (by simp)
      have hF : fullH hd s = ⟨(hd s).b, (hd s).n, (hd s).n⟩ := rfl
      have n1 : (some (w.heap.size + 1) : Option Nat) ≠ some w.heap.size := by simp
      have c8 : CloR w8 (w.heap.size + 1) w.heap.size (lastP T) (cameN (cutN left s) (namesT T)) (Mc.put (keyN s) (.held (fullH hd s))) hd :=
        ⟨(hg8.block (w.heap.size + 1) (Array.getElem?_eq_some_iff.1 h5.box).1 n1).trans h5.box, tightN hown8, h5.nm.put (isMapN h5.own) (s := s) (cameN_step hs) (fun _ _ => rfl)⟩
      have hmb : mb < w.heap.size := H.out.lt _ (H.out.fG _ (H.out.fm mb rfl))
      have z5 := hb.size
      have b8 : Below w.heap.size w w8 := (b5.trans (show Below w.heap.size w5 w5.drew from ⟨rfl, rfl, rfl, Nat.le_refl _, fun _ _ => rfl⟩)).grown hg8 b5.size (fun j e => by injection e with e; omega)
      have hrg8 := (show w5.drew.ranges Tryz.prog 9 slR mb w3.heap.size (Maps.size M) M (cutN left s) cnt5 from hrg5).kept hg8 (fun e => by injection e with e; omega) (fun e => by injection e with e; omega)
      have HLEFT := hrg.left_eq
      rw [hF] at hrun8
      have C8 := Go.Lib.hid c8
      clear h5 r hcn hmx hb hown8 hg8 hrg hrg5 hg5 hs5 HA c8 hmb z5 n1 hF hle hlk s3
      generalize hd s = x at *
      obtain ⟨xb, xn, xc⟩ := x
      go_upto_region 5 with (fail)
      go_region_held_law (fun w' => w'.cell? ⟨w.heap.size + 1, 0, none⟩ = some (.map (some w.heap.size))) (first | exact y0 | exact y8) (fail)
      go_wp2_with fail
      go_roundw
      case rel => exact ⟨_, cnt5, _, hrg8, C8, b8⟩
      case measure => rw [hrg8.left_eq, HLEFT]; exact hlt5
set_option maxHeartbeats 4000000 in
set_option maxRecDepth 100000 in
theorem clone14sN_any (hx : XBx w g r (.map none) (.int .i64 (lastP T)) a t y) (h : TbC w F G T none M hd) :
    Calls Tryz.prog 14 #[.pointer (some ⟨g, 1, none⟩)] w fun e w' => ∃ g', e = .returned (.pointer (some ⟨g', 0, none⟩)) ∧ Below w.heap.size w w' ∧
      ∃ mb2 M2, w'.heap[g']? = some (.cells #[.map (some mb2), .int .i64 (lastP T)] 55 (0, 0)) ∧ TbC w' (fun k => w.heap.size ≤ k ∧ k < w'.heap.size) (up G w w') T (some mb2) M2 (fullH hd) := by
  have bd : Below w.heap.size w w.drew := ⟨rfl, rfl, rfl, Nat.le_refl _, fun _ _ => rfl⟩
  have k0 : w.drew.cell? ⟨g, 1, none⟩ = some (.map none) := hx.c1
  have k1 : w.drew.cell? ⟨g, 2, none⟩ = some (.int .i64 (lastP T)) := hx.c2
  have ql : ∀ ty W, (Builtin.len_ #[53] ty #[.map none]).run Tryz.prog W = .ok (.int .i64 0) W := fun ty W => Maps.len_nil Tryz.underlying53 ty
  have hmm := run_makeHintN (P := Tryz.prog) (t := 53) Tryz.underlying53
  have b1 := bd.alloc (Nat.le_refl _) (.map #[] 0)
  have x0 := bcell b1 hx.c1
  have x1 := bcell b1 hx.c2
  have B2 : Below w.heap.size w ((w.alloc (.map #[] 0)).alloc (.cells #[.map (some w.heap.size), .int .i64 (lastP T)] 55)) := ((Below.refl _ w).alloc (Nat.le_refl _) _).alloc (by simp) _
  have x2 := bcell B2 hx.c1
  have x3 := bcell B2 hx.c2
  have H := Go.Lib.hid h
  have HX := Go.Lib.hid hx
  have hT := h.nil
  have HT := Go.Lib.hid hT
  clear h hx b1 hT
  generalize lastP T = lp at *
  go_enter Tryz.func14, Tryz.ntmps14
  go_upto_region 1 with (fail)
  go_region_held (fun w' => w'.cell? ⟨g, 1, none⟩ = some (.map none) ∧ w'.cell? ⟨g, 2, none⟩ = some (.int .i64 lp)) (first | exact ⟨k0, k1⟩ | exact ⟨x0, x1⟩ | exact ⟨x2, x3⟩) (fail)
  have bx := heap_alloc_new (w.alloc (.map #[] 0)) (.cells #[.map (some w.heap.size), .int .i64 lp] 55)
  have s1 : (w.alloc (.map #[] 0)).heap.size = w.heap.size + 1 := by simp
  have s2 : ((w.alloc (.map #[] 0)).alloc (.cells #[.map (some w.heap.size), .int .i64 lp] 55)).heap.size = w.heap.size + 2 := by simp
  have o2 := (World.ownsMap_made w Tryz.prog 9 slR).alloc (.cells #[.map (some w.heap.size), .int .i64 lp] 55)
  rw [s1] at bx
  have bz : Below w.heap.size ((w.alloc (.map #[] 0)).alloc (.cells #[.map (some w.heap.size), .int .i64 lp] 55)) ((w.alloc (.map #[] 0)).alloc (.cells #[.map (some w.heap.size), .int .i64 lp] 55)).drew := ⟨rfl, rfl, rfl, Nat.le_refl _, fun _ _ => rfl⟩
  have B3 := B2.trans bz
  have C3 : CloR ((w.alloc (.map #[] 0)).alloc (.cells #[.map (some w.heap.size), .int .i64 lp] 55)).drew (w.heap.size + 1) w.heap.size lp [] (.map []) hd := ⟨bx, o2, NOf.empty _⟩
  have s3 : ((w.alloc (.map #[] 0)).alloc (.cells #[.map (some w.heap.size), .int .i64 lp] 55)).drew.heap.size = w.heap.size + 2 := s2
  clear bx s1 s2 o2 bz B2 x0 x1 x2 x3 k0 k1 ql hmm bd
  go_upto_region 2 with (fail)
  generalize ((w.alloc (.map #[] 0)).alloc (.cells #[.map (some w.heap.size), .int .i64 lp] 55)).drew = w3 at *
  have p0 := (HX.out.below B3).c1
  have hrg := run_range_nilMap (P := Tryz.prog) w3 53 9 56 Tryz.underlying53
  have hnx : ∀ ty, (Instr.next (.pointer (some ⟨w3.heap.size, 0, none⟩)) false ty).run Tryz.prog (w3.alloc (.mapIter none 0 #[] 0)) = _ := fun ty => run_next_nilMap _ ty 0 0 #[]
  have al : Below w3.heap.size w3 (w3.alloc (.mapIter none 0 #[] 0)) := (Below.refl _ _).alloc (Nat.le_refl _) _
  have B4 := Go.Lib.hid (below_chain B3 al)
  have C4 := Go.Lib.hid (C3.grown (World.grownBy_alloc w3 (.mapIter none 0 #[] 0) none) (by simp) (by simp))
  have SS := Go.Lib.hid (show (w3.alloc (.mapIter none 0 #[] 0)).heap.size = w.heap.size + 3 by simp [s3])
  clear B3 C3 s3 al
  go_wp2_with fail
  go_loopw [4, 5] (fun _ _ wr => wr = w3.alloc (.mapIter none 0 #[] 0)) (fun _ _ _ => 0)
  case atStart => rfl
  case round =>
    obtain rfl := hrel
    go_wp2_with fail
    go_ret
    obtain rfl := HT.out
    have hz := H.out.lt
    refine ⟨_, rfl, B4.out, _, _, C4.out.box, ⟨C4.out.own, NOf.empty _, fun s hs => (by cases hs), fun s hs => (by cases hs), fun b e => ?_, fun k hk => .inr hk, fun k hk => up_lt hz B4.out.size hk⟩⟩
    injection e with e
    subst e
    have := SS.out
    exact ⟨Nat.le_refl _, by omega⟩
theorem clone14s_any (hx : XBx w g r (.map mb) (.int .i64 (lastP T)) a t y) (h : TbC w F G T mb M hd) (ok : TOk T) :
    Calls Tryz.prog 14 #[.pointer (some ⟨g, 1, none⟩)] w fun e w' => ∃ g', e = .returned (.pointer (some ⟨g', 0, none⟩)) ∧ Below w.heap.size w w' ∧
      ∃ mb2 M2, w'.heap[g']? = some (.cells #[.map (some mb2), .int .i64 (lastP T)] 55 (0, 0)) ∧ TbC w' (fun k => w.heap.size ≤ k ∧ k < w'.heap.size) (up G w w') T (some mb2) M2 (fullH hd) := by
  cases mb with
  | none => exact clone14sN_any hx h
  | some b => exact clone14sS_any hx h ok
end

end Go.Proofs.YtiplfhmimpkplaaGreat.InWalk

/-
  Contracts of the library's own texts that the landed posting calls: slices.BinarySearch and slices.Clone at rising rows.
-/
namespace Go.Proofs.YtiplfhmimpkplaaGreat.PnWalk
open Go.RowKit Go.Proofs.YtiplfhmimpkplaaGreat.MemRow Go.Proofs.YtiplfhmimpkplaaGreat.Ev Go.Proofs.YtiplfhmimpkplaaGreat.NameMath Go.Proofs.YtiplfhmimpkplaaGreat.NameWalk Go.Proofs.YtiplfhmimpkplaaGreat.EvWalk Go.Proofs.YtiplfhmimpkplaaGreat.NumMem Go.Proofs.YtiplfhmimpkplaaGreat.SmWalk

set_option maxRecDepth 100000 in
theorem cmpNaN_any (x : Int) (w : World) : Calls Tryz.prog 96 #[.int .i64 x] w fun e w' => e = .returned (.bool false) ∧ w' = w := by
  have h : (x != x) = false := by simp
  go_enter Tryz.func96, Tryz.ntmps96
  go_wp2_with fail
  go_ret
  exact ⟨by simp, rfl⟩
set_option maxRecDepth 100000 in
theorem slNaN_any (x : Int) (w : World) : Calls Tryz.prog 72 #[.int .i64 x] w fun e w' => e = .returned (.bool false) ∧ w' = w := by
  have h : (x != x) = false := by simp
  go_enter Tryz.func72, Tryz.ntmps72
  go_wp2_with fail
  go_ret
  exact ⟨by simp, rfl⟩
set_option maxRecDepth 100000 in
theorem cmpLess_any (x y : Int) (w : World) : Calls Tryz.prog 71 #[.int .i64 x, .int .i64 y] w fun e w' => e = .returned (.bool (decide (x < y))) ∧ w' = w := by
  go_enter Tryz.func71, Tryz.ntmps71
  go_wp2_with (go_at_call 96; refine (cmpNaN_any _ _).mono ?_; rintro e w' ⟨rfl, rfl⟩)
  go_ret
  exact ⟨rfl, rfl⟩

set_option maxHeartbeats 4000000 in
set_option maxRecDepth 100000 in
theorem search_any (A : Option Addr) (n c : Nat) (l : List Int) (x : Int) (w : World) (h : RdI w A n c l) (hn : n ≤ 1000000) (hp : l.Pairwise (· ≤ ·)) :
    Calls Tryz.prog 105 #[.slice A n c, .int .i64 x] w fun e w' => e = .returned (.tuple #[.int .i64 (l.countP (· < x) : Nat), .bool (decide (x ∈ l))]) ∧ ∃ q, w' = w.drewN q := by
  have hlen := h.len
  have S : Hid (∀ a b, a ≤ b → b < n → l.getD a 0 ≤ l.getD b 0) := Go.Lib.hid (Lib.sorted_at l n (by omega) (by rw [← hlen, List.take_length]; exact hp))
  have EN : ∀ i, i ≤ n → (∀ t, t < i → l.getD t 0 < x) → (∀ t, i ≤ t → t < n → x ≤ l.getD t 0) → l.countP (· < x) = i ∧ decide (x ∈ l) = decide (i < n ∧ l.getD i 0 = x) := fun i hi h1 h2 => by
    obtain ⟨e1, e2⟩ := Lib.search_end l n i x (by omega) hi h1 h2 S.out
    rw [← hlen, List.take_length] at e1 e2
    refine ⟨e1, ?_⟩
    rw [← hlen]
    rw [← e2, List.contains_eq_mem]
  have EN := Go.Lib.hid EN
  have hc : ∀ j, j < n → ∃ b o, A = some ⟨b, o, none⟩ ∧ w.cell? ⟨b, o + j, none⟩ = some (.int .i64 (l.getD j 0)) := fun j hj => by
    obtain ⟨b, o, e, _, k⟩ := RdI.at_ h (by omega)
    exact ⟨b, o, e, k j hj⟩
  have HC := Go.Lib.hid hc
  clear hp hc h
  go_enter Tryz.func105, Tryz.ntmps105
  go_wp2_with fail
  go_loopw [7, 8] (fun s7 s8 wr => ∃ lo hi q : Nat, s7 = .int .i64 lo ∧ s8 = .int .i64 hi ∧ lo ≤ hi ∧ hi ≤ n ∧ wr = w.drewN q ∧ Hid ((∀ t, t < lo → l.getD t 0 < x) ∧ (∀ t, hi ≤ t → t < n → x ≤ l.getD t 0))) (fun s7 s8 _ => (intOf s8).toNat - (intOf s7).toNat)
  case atStart => exact ⟨0, n, 0, rfl, rfl, Nat.zero_le _, Nat.le_refl _, rfl, Go.Lib.hid ⟨fun t ht => absurd ht (Nat.not_lt_zero _), fun t h1 h2 => by omega⟩⟩
  case round =>
    obtain ⟨lo, hi, q, rfl, rfl, hlh, hin, rfl, I⟩ := hrel
    by_cases hlt : lo < hi
    · obtain ⟨b, o, rfl, cm⟩ := HC.out ((lo + hi) / 2) (by omega)
      have i1 : (lo : Int) < hi := by omega
      obtain ⟨y, hy⟩ : ∃ y, l.getD ((lo + hi) / 2) 0 = y := ⟨_, rfl⟩
      rw [hy] at cm
      have Y := Go.Lib.hid hy
      clear hy
      by_cases hyx : y < x
      · go_wp2_with (first | (go_at_call 71; refine (cmpLess_any _ _ _).mono ?_; rintro e w' ⟨rfl, rfl⟩))
        go_roundw
        case rel =>
          refine ⟨(lo + hi) / 2 + 1, hi, _, by rw [show ((lo : Int) + (hi : Int)) / 2 + 1 = (((lo + hi) / 2 + 1 : Nat) : Int) by omega], rfl, by omega, hin, rfl, Go.Lib.hid ⟨fun t ht => ?_, I.out.2⟩⟩
          have := S.out t ((lo + hi) / 2) (by omega) (by omega)
          rw [Y.out] at this
          omega
        case measure => simp [intOf]; omega
      · go_wp2_with (first | (go_at_call 71; refine (cmpLess_any _ _ _).mono ?_; rintro e w' ⟨rfl, rfl⟩))
        go_roundw
        case rel =>
          refine ⟨lo, (lo + hi) / 2, _, rfl, by rw [show ((lo : Int) + (hi : Int)) / 2 = (((lo + hi) / 2 : Nat) : Int) by omega], by omega, by omega, rfl, Go.Lib.hid ⟨I.out.1, fun t ht htn => ?_⟩⟩
          have := S.out ((lo + hi) / 2) t ht htn
          rw [Y.out] at this
          omega
        case measure => simp [intOf]; omega
    · obtain rfl : hi = lo := by omega
      have i1 : ¬ (hi : Int) < hi := by omega
      obtain ⟨e1, e2⟩ := EN.out hi hin I.out.1 I.out.2
      have E1 := Go.Lib.hid e1
      have E2 := Go.Lib.hid e2
      clear e1 e2
      by_cases hn2 : hi < n
      · obtain ⟨b, o, rfl, cl⟩ := HC.out hi hn2
        have i2 : (hi : Int) < n := by omega
        obtain ⟨y, hy⟩ : ∃ y, l.getD hi 0 = y := ⟨_, rfl⟩
        rw [hy] at cl
        have Y := Go.Lib.hid hy
        clear hy
        have i3 : (x != x) = false := by simp
        by_cases hyx : y = x
        · subst hyx
          go_wp2_with (first | (go_at_call 72; refine (slNaN_any _ _).mono ?_; rintro e w' ⟨rfl, rfl⟩))
          go_ret2
          refine ⟨?_, _, rfl⟩
          rw [E1.out, E2.out, Y.out, decide_eq_true (show hi < n ∧ y = y from ⟨hn2, rfl⟩)]
          first | rfl | simp [*]
        · 
          have i4 : (y == x) = false := by simpa using hyx
          go_wp2_with (first | (go_at_call 72; refine (slNaN_any _ _).mono ?_; rintro e w' ⟨rfl, rfl⟩))
          go_ret2
          refine ⟨?_, _, rfl⟩
          rw [E1.out, E2.out, Y.out, decide_eq_false (show ¬ (hi < n ∧ y = x) from fun h => hyx h.2)]
          first | rfl | simp [*]
      · have i2 : ¬ (hi : Int) < n := by omega
        go_wp2_with (first | (go_at_call 72; refine (slNaN_any _ _).mono ?_; rintro e w' ⟨rfl, rfl⟩))
        go_ret2
        refine ⟨?_, _, rfl⟩
        rw [E1.out, E2.out, decide_eq_false (show ¬ (hi < n ∧ l.getD hi 0 = x) from fun h => hn2 h.1)]
        first | rfl | simp [*]

end Go.Proofs.YtiplfhmimpkplaaGreat.PnWalk

/-
  The landed posting in memory: lists that two objects may share: what an append of one number does to a list, and to those that share it.
-/
namespace Go.Proofs.YtiplfhmimpkplaaGreat.PnWalk
open Go.RowKit Go.Maps Go.Proofs.YtiplfhmimpkplaaGreat.MemRow Go.Proofs.YtiplfhmimpkplaaGreat.Ev Go.Proofs.YtiplfhmimpkplaaGreat.NameMath Go.Proofs.YtiplfhmimpkplaaGreat.NameWalk Go.Proofs.YtiplfhmimpkplaaGreat.EvWalk Go.Proofs.YtiplfhmimpkplaaGreat.NumMem Go.Proofs.YtiplfhmimpkplaaGreat.SmWalk Go.Proofs.YtiplfhmimpkplaaGreat.NMap Go.Proofs.YtiplfhmimpkplaaGreat.DkWalk

/-! ### A list: a slice of numbers -/
structure Hr where
  b : Nat
  n : Nat
  c : Nat
abbrev valL (h : Hr) : Value := .slice (some ⟨h.b, 0, none⟩) h.n h.c
def slR (v : Value) : Option (DataW Hr × List MemPlace) :=
  match v with
  | .slice (some ⟨b, 0, none⟩) n c => some (.held ⟨b, n, c⟩, [])
  | .slice none 0 0 => some (.nil, [])
  | _ => none
theorem slR_some (h : Hr) : slR (valL h) = some (.held h, []) := rfl
theorem slR_none : slR (.slice none 0 0) = some (.nil, []) := rfl
theorem slR_held (v : Value) (h : Hr) (ps : List MemPlace) (e : slR v = some (.held h, ps)) : v = valL h := by
  unfold slR at e
  split at e
  · simp only [Option.some.injEq, Prod.mk.injEq, DataW.held.injEq] at e
    rw [← e.1]
  · simp at e
  · cases e
theorem slR_nil {v : Value} {ps : List MemPlace} (e : slR v = some (.nil, ps)) : v = .slice none 0 0 := by
  unfold slR at e
  split at e
  · simp at e
  · rfl
  · cases e
def mkL (c : Option Hr) : Value := match c with | none => .slice none 0 0 | some h => valL h
theorem mkL_inv (v : Value) (y : DataW Hr × List MemPlace) (h : slR v = some y) : ∃ c, v = mkL c := by
  unfold slR at h
  split at h
  · exact ⟨some ⟨_, _, _⟩, rfl⟩
  · exact ⟨none, rfl⟩
  · cases h

structure LiR (w : World) (F G : Nat → Prop) (h : Hr) (l : List Int) : Prop where
  ex : ∃ cur, w.heap[h.b]? = some (.cells cur 3 (0, 0)) ∧ h.c ≤ cur.size ∧ cur.toList.take h.n = nums l
  len : l.length = h.n
  pos : 0 < h.n
  le : h.n ≤ h.c
  cap : h.c ≤ maxLen
  own : h.n < h.c → F h.b
  gb : G h.b
section
variable {w w' : World} {F F' G G' : Nat → Prop} {h : Hr} {l : List Int}
theorem LiR.rd (r : LiR w F G h l) : RdI w (some ⟨h.b, 0, none⟩) h.n h.c l := by
  obtain ⟨cur, hb, _, ht⟩ := r.ex
  refine RdC.of_block hb (by rw [nums_length, r.len, Nat.mul_one]) r.le r.cap fun i v hi => ?_
  rw [← ht] at hi
  have hlt : i < h.n := by
    have := (List.getElem?_eq_some_iff.1 hi).1
    rw [List.length_take] at this
    omega
  rw [List.getElem?_take_of_lt hlt] at hi
  simpa using hi
theorem LiR.blt (r : LiR w F G h l) : h.b < w.heap.size := by
  obtain ⟨cur, hb, _⟩ := r.ex
  exact (Array.getElem?_eq_some_iff.1 hb).1
theorem LiR.kept (r : LiR w F G h l) (hk : w'.heap[h.b]? = w.heap[h.b]?) : LiR w' F G h l := by
  obtain ⟨cur, hb, hc⟩ := r.ex
  exact ⟨⟨cur, hk.trans hb, hc⟩, r.len, r.pos, r.le, r.cap, r.own, r.gb⟩
theorem LiR.wide (r : LiR w F G h l) (hF : ∀ k, F k → F' k) (hG : ∀ k, G k → G' k) : LiR w F' G' h l := ⟨r.ex, r.len, r.pos, r.le, r.cap, fun e => hF _ (r.own e), hG _ r.gb⟩
theorem LiR.not {g : Nat} {o : Obj} (r : LiR w F G h l) (hg : w.heap[g]? = some o) (ho : ∀ cs T fr, o = .cells cs T fr → T ≠ 3) : h.b ≠ g := by
  intro e
  obtain ⟨cur, hb, _⟩ := r.ex
  rw [e, hg] at hb
  injection hb with hb
  exact ho _ _ _ hb rfl
theorem block_put (w : World) (b i : Nat) (v : Value) {cur : Array Value} {t : TypeId} {fr : Nat × Nat} (hb : w.heap[b]? = some (.cells cur t fr)) : (w.setCell ⟨b, i, none⟩ v).heap[b]? = some (.cells (cur.setIfInBounds i v) t fr) := by
  simp only [World.setCell, Array.getElem?_modify, hb]
  rfl
theorem block_other (w : World) (b i : Nat) (v : Value) {k : Nat} (h : k ≠ b) : (w.setCell ⟨b, i, none⟩ v).heap[k]? = w.heap[k]? := by
  have : b ≠ k := fun e => h e.symm
  simp [World.setCell, Array.getElem?_modify, this]
theorem setGrown (w : World) (g i : Nat) (x : Value) : w.grownBy (w.setCell ⟨g, i, none⟩ x) (some g) := by
  refine ⟨rfl, rfl, rfl, by simp [World.setCell], fun k _ hne => ?_⟩
  exact block_other w g i x fun e => hne (by rw [e])
/-- A number laid behind a list's own ones. -/
theorem LiR.put (r : LiR w F G h l) {b i : Nat} (v : Value) (hi : b = h.b → h.n ≤ i) : LiR (w.setCell ⟨b, i, none⟩ v) F G h l := by
  by_cases e : h.b = b
  · obtain ⟨cur, hb, hc, ht⟩ := r.ex
    have hin := hi e.symm
    subst e
    refine ⟨⟨_, block_put w _ i v hb, by simpa using hc, ?_⟩, r.len, r.pos, r.le, r.cap, r.own, r.gb⟩
    rw [← ht, Array.toList_setIfInBounds, List.take_set_of_le hin]
  · exact r.kept (block_other w b i v e)

/-! ### append(list, p) -/
/-- What was there: a list, or none. -/
def OldL (w : World) (F G : Nat → Prop) (old : Option Hr) (l : List Int) : Prop := (∃ h, old = some h ∧ LiR w F G h l) ∨ (old = none ∧ l = [])
structure AppOut (w w' : World) (F G : Nat → Prop) (old : Option Hr) (l : List Int) (p : Int) (h' : Hr) : Prop where
  li : LiR w' (up F w w') (up G w w') h' (l ++ [p])
  size : w.heap.size ≤ w'.heap.size
  how : (∃ h, old = some h ∧ h.n < h.c ∧ F h.b ∧ h' = ⟨h.b, h.n + 1, h.c⟩ ∧ w' = w.setCell ⟨h.b, h.n, none⟩ (.int .i64 p)) ∨ (Below w.heap.size w w' ∧ w.heap.size ≤ h'.b)
set_option maxRecDepth 100000 in
theorem app_room (r : LiR w F G h l) (hs : h.n < h.c) (p : Int) {a : Addr} {c : Nat} (hl : w.cell? (a.add 0) = some (.int .i64 p)) (ty : TypeId) :
    (Builtin.append_ #[57, 57] ty #[valL h, .slice (some a) 1 c]).run Tryz.prog w = .ok (valL ⟨h.b, h.n + 1, h.c⟩) (w.setCell ⟨h.b, h.n, none⟩ (.int .i64 p)) ∧ AppOut w (w.setCell ⟨h.b, h.n, none⟩ (.int .i64 p)) F G (some h) l p ⟨h.b, h.n + 1, h.c⟩ := by
  have hi := int_info
  have hT := Tryz.underlying57
  obtain ⟨i, h1, h2, h3, h4⟩ : ∃ i, Tryz.prog.info? 3 = some i ∧ i.zero = some (.int .i64 0) ∧ i.size = 1 ∧ i.bytes = 8 := by
    cases hq : Tryz.prog.info? 3 with
    | none => simp [hq] at hi
    | some i => simp [hq] at hi; exact ⟨i, rfl, hi.1, hi.2.1, hi.2.2⟩
  obtain ⟨cur, hb, hc, ht⟩ := r.ex
  have hcell : w.cell? ⟨h.b, h.n, none⟩ = some (cur[h.n]'(by omega)) := by
    rw [cell_of_row w h.b h.n _ _ _ hb, Array.getElem?_eq_getElem (by omega)]
  have hfr : w.frozen? ⟨h.b, h.n, none⟩ = false := by simp [World.frozen?, hb]
  have run := run_append_room_cells (P := Tryz.prog) w 57 ty 3 i hT h1 h.b 0 h.n h.c a 1 c [.int .i64 p] (by simp [h3]) (fun j u hj => by
    have : j = 0 := by
      have := (List.getElem?_eq_some_iff.1 hj).1
      simpa using this
    subst this
    simp only [List.getElem?_cons_zero, Option.some.injEq] at hj
    rw [← hj]
    exact hl) (fun u hu => by
    rw [List.mem_singleton] at hu
    rw [hu]
    rfl) (by omega) (fun j hj => by
    obtain rfl : j = 0 := by simpa using hj
    simp only [h3, Nat.mul_one, Nat.zero_add, Nat.add_zero, hcell]
    rfl) (fun j hj => by
    obtain rfl : j = 0 := by simpa using hj
    simp only [h3, Nat.mul_one, Nat.zero_add, Nat.add_zero, hfr])
  have e : w.setCells h.b (0 + h.n * i.size) [.int .i64 p] = w.setCell ⟨h.b, h.n, none⟩ (.int .i64 p) := by
    simp only [h3, Nat.mul_one, Nat.zero_add]
    rfl
  rw [e] at run
  have hsz : (w.setCell ⟨h.b, h.n, none⟩ (.int .i64 p)).heap.size = w.heap.size := by simp [World.setCell]
  refine ⟨run, ⟨⟨⟨_, block_put w _ h.n _ hb, by simpa using hc, ?_⟩, by rw [List.length_append, r.len]; rfl, by simp, by simp only; omega, r.cap, fun _ => .inl (r.own hs), .inl r.gb⟩, by omega, .inl ⟨h, rfl, hs, r.own hs, rfl, rfl⟩⟩⟩
  have hn : h.n < cur.toList.length := by simp; omega
  simp only
  rw [Array.toList_setIfInBounds, nums_append, ← ht]
  rw [List.take_add_one, List.getElem?_set_self hn, List.take_set_of_le (Nat.le_refl _)]
  rfl
set_option maxRecDepth 100000 in
theorem app_grow {old : Option Hr} (hold : OldL w F G old l) (hfull : ∀ h, old = some h → h.n = h.c) (hlen : l.length ≤ 1000000) (p : Int) {a : Addr} {c : Nat} (hl : w.cell? (a.add 0) = some (.int .i64 p)) (ty : TypeId) :
    ∃ h' w', (Builtin.append_ #[57, 57] ty #[mkL old, .slice (some a) 1 c]).run Tryz.prog w = .ok (valL h') w' ∧ AppOut w w' F G old l p h' := by
  have hi := int_info
  have hT := Tryz.underlying57
  obtain ⟨i, h1, h2, h3, h4⟩ : ∃ i, Tryz.prog.info? 3 = some i ∧ i.zero = some (.int .i64 0) ∧ i.size = 1 ∧ i.bytes = 8 := by
    cases hq : Tryz.prog.info? 3 with
    | none => simp [hq] at hi
    | some i => simp [hq] at hi; exact ⟨i, rfl, hi.1, hi.2.1, hi.2.2⟩
  have hnew : ∀ j u, [Value.int .i64 p][j]? = some u → w.cell? (a.add j) = some u := fun j u hj => by
    have : j = 0 := by
      have := (List.getElem?_eq_some_iff.1 hj).1
      simpa using this
    subst this
    simp only [List.getElem?_cons_zero, Option.some.injEq] at hj
    rw [← hj]
    exact hl
  have fin : ∀ v' w', w'.ownsRow w.heap.size 3 1 v' (l.length + 1) (nums l ++ [.int .i64 p]) → w.grownBy w' none → ∃ h', v' = valL h' ∧ AppOut w w' F G old l p h' := by
    intro v' w' ho hg
    rcases ho.2 with ⟨rfl, hn⟩ | ⟨g, c2, cur, rfl, hbg, hgb, hnc, hcm, hcs, htk⟩
    · omega
    · refine ⟨⟨g, l.length + 1, c2⟩, rfl, ⟨⟨⟨cur, hgb, by simp only; omega, ?_⟩, by rw [List.length_append]; rfl, by simp, hnc, hcm, fun _ => ?_, ?_⟩, hg.size, .inr ⟨grown_below hg, hbg⟩⟩⟩
      · rw [nums_append, ← Nat.mul_one (l.length + 1)]
        exact htk
      · have := (Array.getElem?_eq_some_iff.1 hgb).1
        exact .inr ⟨hbg, this⟩
      · have := (Array.getElem?_eq_some_iff.1 hgb).1
        exact .inr ⟨hbg, this⟩
  rcases hold with ⟨h, rfl, r⟩ | ⟨rfl, rfl⟩
  · have hn := r.len
    have hc := hfull h rfl
    obtain ⟨v', w', hrun, ho, hg⟩ := run_append_arg_grows (P := Tryz.prog) w 57 ty 3 i (.int .i64 0) 1 8 hT h1 h2 h3 h4 rfl (by omega) ⟨h.b, 0, none⟩ h.n h.c (nums l) (by rw [nums_length, r.len, Nat.mul_one]) (fun j u hj => by
      obtain ⟨b, o, hA, hcl⟩ := r.rd.2.2.2 r.pos
      injection hA with hA
      rw [hA, add_plain]
      exact hcl j u hj) a 1 c [.int .i64 p] (by simp) hnew (by omega) (by unfold maxLen; omega) (by omega)
    rw [← hn] at ho
    obtain ⟨h', rfl, out⟩ := fin v' w' ho hg
    exact ⟨h', w', hrun, out⟩
  · obtain ⟨v', w', hrun, ho, hg, _⟩ := run_append_own_at (P := Tryz.prog) w w.heap.size 57 ty 3 i (.int .i64 0) 1 8 hT h1 h2 h3 h4 rfl (by omega) (.slice none 0 0) 0 [] ⟨by simp, .inl ⟨rfl, rfl⟩⟩ a 1 c [.int .i64 p] (by simp) hnew (fun u hu => by
      rw [List.mem_singleton] at hu
      rw [hu]
      rfl) (by unfold maxLen; omega) (by omega) (Nat.le_refl _)
    obtain ⟨h', rfl, out⟩ := fin v' w' (by simpa [nums] using ho) hg
    exact ⟨h', w', hrun, out⟩
set_option maxRecDepth 100000 in
theorem app_any {old : Option Hr} (hold : OldL w F G old l) (hlen : l.length ≤ 1000000) (p : Int) {a : Addr} {c : Nat} (hl : w.cell? (a.add 0) = some (.int .i64 p)) (ty : TypeId) :
    ∃ h' w', (Builtin.append_ #[57, 57] ty #[mkL old, .slice (some a) 1 c]).run Tryz.prog w = .ok (valL h') w' ∧ AppOut w w' F G old l p h' := by
  by_cases hf : ∀ h, old = some h → h.n = h.c
  · exact app_grow hold hf hlen p hl ty
  · rcases hold with ⟨h, rfl, r⟩ | ⟨rfl, rfl⟩
    · have hs : h.n < h.c := by
        have := r.le
        rcases Nat.lt_or_ge h.n h.c with h1 | h1
        · exact h1
        · exact absurd (fun h' e => by injection e with e; rw [← e]; omega) hf
      obtain ⟨run, out⟩ := app_room r hs p hl ty
      exact ⟨_, _, run, out⟩
    · exact absurd (fun h' e => by cases e) hf
set_option maxRecDepth 100000 in
theorem wpList_app1 {old : Option Hr} {ops : Array Oper} {rest : List Oper} {o : Oper} {ac : Act} {Q : Exit → Act → World → Prop} (hgd : o.guard = none) (s x : Operand)
    (ho : o.op = .call { callee := .builtin .append, args := #[s, x], argTypes := #[57, 57] })
    {sv : Value} (hs : ac.eval s = sv) (hsv : sv = mkL old) {a : Addr} {c : Nat} (hx : ac.eval x = .slice (some a) 1 c) (hold : OldL w F G old l) (hlen : l.length ≤ 1000000) (p : Int) (hl : w.cell? (a.add 0) = some (.int .i64 p))
    (h : ∀ h' w', AppOut w w' F G old l p h' → wpList Tryz.prog ops Q rest (ac.put o.dst (.slice (some ⟨h'.b, 0, none⟩) h'.n h'.c)) w') : wpList Tryz.prog ops Q (o :: rest) ac w := by
  obtain ⟨h', w', hrun, out⟩ := app_any hold hlen p hl o.type
  refine wpList_plain hgd fun _ hK => ?_
  unfold Oper.wp execOp
  simp only [ho, resolve, invoke, builtin, Sem.run_bind, Sem.run_pure, Result.andThen_ok, List.map_toArray, List.map_cons, List.map_nil, hs, hsv, hx]
  rw [hrun]
  exact hK _ _ (h h' w' out)
theorem AppOut.other {old : Option Hr} {p : Int} {h' : Hr} (a : AppOut w w' F G old l p h') {k : Nat} (hk : k < w.heap.size) (hn : ∀ h, old = some h → k ≠ h.b) : w'.heap[k]? = w.heap[k]? := by
  rcases a.how with ⟨h, ho, _, _, _, rfl⟩ | ⟨hb, _⟩
  · exact block_other w _ _ _ (hn h ho)
  · exact hb.block k hk
end

end Go.Proofs.YtiplfhmimpkplaaGreat.PnWalk

/-
  Layer 13, the landed posting: two rising rows gone through together; positions by keys, as data. No walk here.
-/
namespace Go.Proofs.YtiplfhmimpkplaaGreat.PnWalk
open Go.RowKit Go.Proofs.YtiplfhmimpkplaaGreat.MemRow Go.Proofs.YtiplfhmimpkplaaGreat.Ev Go.Proofs.YtiplfhmimpkplaaGreat.NameMath Go.Proofs.YtiplfhmimpkplaaGreat.NameWalk Go.Proofs.YtiplfhmimpkplaaGreat.EvWalk Go.Proofs.YtiplfhmimpkplaaGreat.NumMem Go.Proofs.YtiplfhmimpkplaaGreat.SmWalk Go.Proofs.YtiplfhmimpkplaaGreat.Qu Go.Proofs.YtiplfhmimpkplaaGreat.QuWalk Go.Proofs.YtiplfhmimpkplaaGreat.PoWalk

/-- Two rows gone through in order, each number once; k tells which stay. -/
def mgF (k : Bool → Bool → Bool) : List Int → List Int → List Int
  | [], [] => []
  | x :: a, [] => (if k true false = true then [x] else []) ++ mgF k a []
  | [], y :: b => (if k false true = true then [y] else []) ++ mgF k [] b
  | x :: a, y :: b =>
    if x < y then (if k true false = true then [x] else []) ++ mgF k a (y :: b)
    else if y < x then (if k false true = true then [y] else []) ++ mgF k (x :: a) b
    else (if k true true = true then [y] else []) ++ mgF k a b
  termination_by a b => a.length + b.length
theorem ite_mem {c : Bool} {x z : Int} : z ∈ (if c = true then [x] else []) ↔ z = x ∧ c = true := by
  cases c <;> simp
theorem mg_mem {k : Bool → Bool → Bool} {z : Int} : ∀ (n : Nat) (a b : List Int), a.length + b.length = n → Inc a → Inc b → (z ∈ mgF k a b ↔ (z ∈ a ∧ z ∈ b ∧ k true true = true) ∨ (z ∈ a ∧ ¬ z ∈ b ∧ k true false = true) ∨ (¬ z ∈ a ∧ z ∈ b ∧ k false true = true)) := by
  intro n
  induction n using Nat.strongRecOn with
  | ind n ih =>
    intro a b hn ha hb
    match a, b, hn, ha, hb with
    | [], [], _, _, _ => simp [mgF]
    | x :: a, [], hn, ha, hb =>
      obtain ⟨h1, h2⟩ := List.pairwise_cons.1 ha
      have hx : ¬ x ∈ a := fun h => by have := h1 x h; omega
      rw [mgF, List.mem_append, ite_mem, ih _ (by simp at hn ⊢; omega) a [] rfl h2 hb]
      by_cases e : z = x
      · subst e; simp [hx]
      · simp [e]
    | [], y :: b, hn, ha, hb =>
      obtain ⟨h1, h2⟩ := List.pairwise_cons.1 hb
      have hx : ¬ y ∈ b := fun h => by have := h1 y h; omega
      rw [mgF, List.mem_append, ite_mem, ih _ (by simp at hn ⊢; omega) [] b rfl ha h2]
      by_cases e : z = y
      · subst e; simp [hx]
      · simp [e]
    | x :: a, y :: b, hn, ha, hb =>
      obtain ⟨h1, h2⟩ := List.pairwise_cons.1 ha
      obtain ⟨g1, g2⟩ := List.pairwise_cons.1 hb
      have hx : ¬ x ∈ a := fun h => by have := h1 x h; omega
      have hy : ¬ y ∈ b := fun h => by have := g1 y h; omega
      rw [mgF]
      by_cases c1 : x < y
      · have hxb : ¬ x ∈ b := fun h => by have := g1 x h; omega
        rw [if_pos c1, List.mem_append, ite_mem, ih _ (by simp at hn ⊢; omega) a (y :: b) rfl h2 hb]
        by_cases e : z = x
        · subst e
          have : ¬ z = y := by omega
          simp [hx, hxb, this]
        · simp [e]
      · rw [if_neg c1]
        by_cases c2 : y < x
        · have hya : ¬ y ∈ a := fun h => by have := h1 y h; omega
          rw [if_pos c2, List.mem_append, ite_mem, ih _ (by simp at hn ⊢; omega) (x :: a) b rfl ha g2]
          by_cases e : z = y
          · subst e
            have : ¬ z = x := by omega
            simp [hy, hya, this]
          · simp [e]
        · obtain rfl : x = y := by omega
          rw [if_neg c2, List.mem_append, ite_mem, ih _ (by simp at hn ⊢; omega) a b rfl h2 g2]
          by_cases e : z = x
          · subst e; simp [hx, hy]
          · simp [e]
theorem mg_inc {k : Bool → Bool → Bool} : ∀ (n : Nat) (a b : List Int), a.length + b.length = n → Inc a → Inc b → Inc (mgF k a b) := by
  have hd : ∀ (c : Bool) (x : Int) (l : List Int), Inc l → (∀ z ∈ l, x < z) → Inc ((if c = true then [x] else []) ++ l) := fun c x l hl h => by
    cases c
    · simpa using hl
    · exact List.pairwise_cons.2 ⟨h, hl⟩
  have hin : ∀ {a b : List Int} {z : Int}, Inc a → Inc b → z ∈ mgF k a b → z ∈ a ∨ z ∈ b := fun {a b z} ha hb h => by
    rcases (mg_mem _ a b rfl ha hb).1 h with h | h | h
    · exact .inl h.1
    · exact .inl h.1
    · exact .inr h.2.1
  intro n
  induction n using Nat.strongRecOn with
  | ind n ih =>
    intro a b hn ha hb
    match a, b, hn, ha, hb with
    | [], [], _, _, _ => simp [mgF, Inc]
    | x :: a, [], hn, ha, hb =>
      obtain ⟨h1, h2⟩ := List.pairwise_cons.1 ha
      rw [mgF]
      refine hd _ _ _ (ih _ (by simp at hn ⊢; omega) a [] rfl h2 hb) fun z hz => ?_
      rcases hin h2 hb hz with h | h
      · exact h1 z h
      · cases h
    | [], y :: b, hn, ha, hb =>
      obtain ⟨h1, h2⟩ := List.pairwise_cons.1 hb
      rw [mgF]
      refine hd _ _ _ (ih _ (by simp at hn ⊢; omega) [] b rfl ha h2) fun z hz => ?_
      rcases hin ha h2 hz with h | h
      · cases h
      · exact h1 z h
    | x :: a, y :: b, hn, ha, hb =>
      obtain ⟨h1, h2⟩ := List.pairwise_cons.1 ha
      obtain ⟨g1, g2⟩ := List.pairwise_cons.1 hb
      rw [mgF]
      by_cases c1 : x < y
      · rw [if_pos c1]
        refine hd _ _ _ (ih _ (by simp at hn ⊢; omega) a (y :: b) rfl h2 hb) fun z hz => ?_
        rcases hin h2 hb hz with h | h
        · exact h1 z h
        · rcases List.mem_cons.1 h with h | h
          · omega
          · have := g1 z h; omega
      · rw [if_neg c1]
        by_cases c2 : y < x
        · rw [if_pos c2]
          refine hd _ _ _ (ih _ (by simp at hn ⊢; omega) (x :: a) b rfl ha g2) fun z hz => ?_
          rcases hin ha g2 hz with h | h
          · rcases List.mem_cons.1 h with h | h
            · omega
            · have := h1 z h; omega
          · exact g1 z h
        · rw [if_neg c2]
          refine hd _ _ _ (ih _ (by simp at hn ⊢; omega) a b rfl h2 g2) fun z hz => ?_
          rcases hin h2 g2 hz with h | h
          · have := h1 z h; omega
          · exact g1 z h
theorem mg_both {a b : List Int} (ha : Inc a) (hb : Inc b) : mgF (fun x y => x && y) a b = bothF a b := inc_ext (mg_inc _ a b rfl ha hb) (both_inc ha b) fun z => by
  rw [mg_mem _ a b rfl ha hb, both_mem]
  simp
theorem mg_either {a b : List Int} (ha : Inc a) (hb : Inc b) : mgF (fun x y => x || y) a b = eitherF a b := inc_ext (mg_inc _ a b rfl ha hb) (either_inc a hb) fun z => by
  rw [mg_mem _ a b rfl ha hb, either_mem]
  by_cases h1 : z ∈ a <;> by_cases h2 : z ∈ b <;> simp [h1, h2]
/-! ### A step, by where the rows are -/
theorem drop_at {l : List Int} {i : Nat} (h : i < l.length) : l.drop i = l.getD i 0 :: l.drop (i + 1) := by
  rw [List.drop_eq_getElem_cons h]
  simp [List.getD, List.getElem?_eq_getElem h]
section
variable {k : Bool → Bool → Bool} {a b : List Int} {i j : Nat}
theorem mg_a (hi : i < a.length) (hj : b.length ≤ j) : mgF k (a.drop i) (b.drop j) = (if k true false = true then [a.getD i 0] else []) ++ mgF k (a.drop (i + 1)) (b.drop j) := by
  rw [drop_at hi, List.drop_of_length_le hj, mgF]
theorem mg_b (hi : a.length ≤ i) (hj : j < b.length) : mgF k (a.drop i) (b.drop j) = (if k false true = true then [b.getD j 0] else []) ++ mgF k (a.drop i) (b.drop (j + 1)) := by
  rw [drop_at hj, List.drop_of_length_le hi, mgF]
theorem mg_lt (hi : i < a.length) (hj : j < b.length) (h : a.getD i 0 < b.getD j 0) : mgF k (a.drop i) (b.drop j) = (if k true false = true then [a.getD i 0] else []) ++ mgF k (a.drop (i + 1)) (b.drop j) := by
  rw [drop_at hi, drop_at hj, mgF, if_pos h]
theorem mg_gt (hi : i < a.length) (hj : j < b.length) (h : b.getD j 0 < a.getD i 0) : mgF k (a.drop i) (b.drop j) = (if k false true = true then [b.getD j 0] else []) ++ mgF k (a.drop i) (b.drop (j + 1)) := by
  rw [drop_at hi, drop_at hj, mgF, if_neg (by omega), if_pos h]
theorem mg_eq (hi : i < a.length) (hj : j < b.length) (h : a.getD i 0 = b.getD j 0) : mgF k (a.drop i) (b.drop j) = (if k true true = true then [b.getD j 0] else []) ++ mgF k (a.drop (i + 1)) (b.drop (j + 1)) := by
  rw [drop_at hi, drop_at hj, mgF, if_neg (by omega), if_neg (by omega)]
theorem mg_end (hi : a.length ≤ i) (hj : b.length ≤ j) : mgF k (a.drop i) (b.drop j) = [] := by
  rw [List.drop_of_length_le hi, List.drop_of_length_le hj, mgF]
end

/-! ### Positions by keys: of all, of a tag, of a type -/
abbrev Ky := Option (Bool × ByteArray)
structure Dt where
  all : List Int
  t : Bool → Tb
def lstD (D : Dt) : Ky → List Int
  | none => D.all
  | some (b, s) => allP (D.t b) s
/-- A number behind a row, but for one that ends with it. -/
def withF (l : List Int) (p : Int) : List Int := if l.getLast? = some p then l else l ++ [p]
def addK (T : Tb) (s : ByteArray) (p : Int) : Tb := if (allP T s).getLast? = some p then T else T ++ [(s, p)]
theorem addK_at (T : Tb) (s : ByteArray) (p : Int) : allP (addK T s p) s = withF (allP T s) p := by
  unfold addK withF
  split
  · rfl
  · rw [allP_hit]
theorem addK_ne (T : Tb) {s t : ByteArray} (h : t ≠ s) (p : Int) : allP (addK T s p) t = allP T t := by
  unfold addK
  split
  · rfl
  · rw [allP_miss T h]
theorem addK_len (T : Tb) (s : ByteArray) (p : Int) : (addK T s p).length ≤ T.length + 1 := by
  unfold addK
  split
  · omega
  · simp
def addKs (T : Tb) (ts : List ByteArray) (p : Int) : Tb := ts.foldl (fun T t => addK T t p) T
theorem addKs_snoc (T : Tb) (ts : List ByteArray) (t : ByteArray) (p : Int) : addKs T (ts ++ [t]) p = addK (addKs T ts p) t p := by
  unfold addKs
  rw [List.foldl_append]
  rfl
theorem addKs_len (T : Tb) (ts : List ByteArray) (p : Int) : (addKs T ts p).length ≤ T.length + ts.length := by
  induction ts generalizing T with
  | nil => exact Nat.le_refl _
  | cons t ts ih =>
    have := ih (addK T t p)
    have := addK_len T t p
    have e : addKs T (t :: ts) p = addKs (addK T t p) ts p := rfl
    rw [e, List.length_cons]
    omega
theorem last_ne {l : List Int} {p : Int} (h : ∀ q ∈ l, q < p) : l.getLast? ≠ some p := fun e => by
  have := h p (List.mem_of_getLast? e)
  omega
theorem addKs_at {T : Tb} {p : Int} {s : ByteArray} (h : ∀ q ∈ allP T s, q < p) (ts : List ByteArray) : allP (addKs T ts p) s = allP T s ++ (if hasB ts s = true then [p] else []) := by
  refine snoc_indL (P := fun ts => allP (addKs T ts p) s = allP T s ++ (if hasB ts s = true then [p] else [])) ?_ (fun ts t ih => ?_) ts
  · have : hasB [] s = false := by simp [hasB]
    simp [this, addKs]
  · rw [addKs_snoc]
    by_cases e : s = t
    · subst e
      have hy : hasB (ts ++ [s]) s = true := hasB_mem.2 (by simp)
      rw [addK_at, ih, hy, if_pos rfl]
      by_cases h2 : hasB ts s = true
      · rw [if_pos h2]
        unfold withF
        rw [if_pos (by simp)]
      · rw [if_neg h2, List.append_nil]
        unfold withF
        rw [if_neg (last_ne h)]
    · rw [addK_ne _ e, ih]
      have hy : (hasB (ts ++ [t]) s = true) = (hasB ts s = true) := propext (by rw [hasB_mem, hasB_mem]; simp [e])
      simp only [hy]
where
  snoc_indL {P : List ByteArray → Prop} (h0 : P []) (h1 : ∀ L y, P L → P (L ++ [y])) (l : List ByteArray) : P l := by
    suffices h : ∀ l : List ByteArray, P l.reverse by simpa using h l.reverse
    intro l
    induction l with
    | nil => exact h0
    | cons a l ih => rw [List.reverse_cons]; exact h1 _ _ ih

/-- The keys' rows are those of the events at positions L. -/
structure DOf (D : Dt) (L : Ls) : Prop where
  all : D.all = posP (fun _ => true) L
  tg : ∀ s, allP (D.t false) s = tagP L s
  ty : ∀ s, allP (D.t true) s = typP L s
  tl : (D.t false).length ≤ 100 * L.length
  yl : (D.t true).length ≤ L.length
theorem DOf.nil : DOf ⟨[], fun _ => []⟩ [] := ⟨rfl, fun _ => rfl, fun _ => rfl, Nat.le_refl _, Nat.le_refl _⟩
theorem posP_lt {L : Ls} (h : LOk L) {p : Int} (hp : lastL L < p) (f : Ev → Bool) : ∀ q ∈ posP f L, q < p := fun q hq => by
  obtain ⟨e, h1, _⟩ := posP_mem.1 hq
  have := lastL_le h _ h1
  simp only at this
  omega
theorem withF_new {l : List Int} {p : Int} (h : ∀ q ∈ l, q < p) : withF l p = l ++ [p] := by
  unfold withF
  rw [if_neg (last_ne h)]
theorem DOf.add {D D' : Dt} {L : Ls} (d : DOf D L) (h : LOk L) {e : Ev} {p : Int} (hp : lastL L < p) (ht : e.tags.length ≤ 100) (e1 : D'.all = withF D.all p) (e2 : D'.t false = addKs (D.t false) e.tags p) (e3 : D'.t true = addK (D.t true) e.t p) : DOf D' (L ++ [(e, p)]) := by
  refine ⟨?_, fun s => ?_, fun s => ?_, ?_, ?_⟩
  · rw [e1, d.all, withF_new (posP_lt h hp _), posP_append, posP_one, if_pos rfl]
  · rw [e2, addKs_at (by rw [d.tg]; exact posP_lt h hp _), d.tg]
    unfold tagP
    rw [posP_append, posP_one]
  · rw [e3]
    by_cases es : s = e.t
    · subst es
      rw [addK_at, d.ty, withF_new (by unfold typP; exact posP_lt h hp _)]
      unfold typP
      rw [posP_append, posP_one, if_pos (by simp)]
    · rw [addK_ne _ es, d.ty]
      unfold typP
      rw [posP_append, posP_one, if_neg (by simp; exact fun h => es h.symm), List.append_nil]
  · rw [e2]
    have := addKs_len (D.t false) e.tags p
    have := d.tl
    rw [List.length_append, List.length_singleton]
    omega
  · rw [e3]
    have := addK_len (D.t true) e.t p
    have := d.yl
    rw [List.length_append, List.length_singleton]
    omega
theorem all_last (L : Ls) : posP (fun _ => true) L = L.map (·.2) := by
  unfold posP
  rw [List.filter_eq_self.2 (fun _ _ => rfl)]
theorem DOf.len (D : Dt) (L : Ls) (d : DOf D L) : D.all.length = L.length := by
  rw [d.all]
  unfold posP
  rw [List.filter_eq_self.2 (fun _ _ => rfl), List.length_map]
/-- The last of all positions. -/
theorem DOf.last {D : Dt} {L : Ls} (d : DOf D L) (h0 : 0 < L.length) : D.all.getD (L.length - 1) 0 = lastL L := by
  rw [d.all]
  unfold posP
  rw [List.filter_eq_self.2 (fun _ _ => rfl)]
  rcases List.eq_nil_or_concat L with rfl | ⟨M, y, rfl⟩
  · simp at h0
  · rw [List.concat_eq_append, lastL_snoc]
    simp [List.getD]

/-! ### What Find comes to -/
theorem upF_take {l : List Int} (h : Inc l) (u : Int) : upF u l = l.take (verN l u) := (verN_filter h).1
theorem one_ev {L : Ls} (h : LOk L) {e e' : Ev} {x : Int} (h1 : (e, x) ∈ L) (h2 : (e', x) ∈ L) : e = e' := by
  have hp := h.inc
  clear h
  induction L with
  | nil => cases h1
  | cons y L ih =>
    obtain ⟨a1, a2⟩ := List.pairwise_cons.1 hp
    rcases List.mem_cons.1 h1 with h1 | h1
    · rcases List.mem_cons.1 h2 with h2 | h2
      · rw [← h2] at h1
        injection h1
      · have := a1 _ h2
        rw [← h1] at this
        simp only at this
        omega
    · rcases List.mem_cons.1 h2 with h2 | h2
      · have := a1 _ h1
        rw [← h2] at this
        simp only at this
        omega
      · exact ih h1 h2 a2
def seP (L : Ls) (u : Int) (f : Ev → Bool) : List Int := upF u (posP f L)
theorem se_mem {L : Ls} {u : Int} {f : Ev → Bool} {x : Int} : x ∈ seP L u f ↔ (∃ e, (e, x) ∈ L ∧ f e = true) ∧ x ≤ u := by unfold seP; rw [up_mem, posP_mem]
theorem se_inc {L : Ls} (h : LOk L) (u : Int) (f : Ev → Bool) : Inc (seP L u f) := up_inc (posP_inc h f) u
theorem se_len (L : Ls) (u : Int) (f : Ev → Bool) : (seP L u f).length ≤ L.length := Nat.le_trans (List.length_filter_le _ _) (posP_len _ L)
theorem se_both {L : Ls} (h : LOk L) (u : Int) (f g : Ev → Bool) : bothF (seP L u f) (seP L u g) = seP L u (fun e => f e && g e) := inc_ext (both_inc (se_inc h u f) _) (se_inc h u _) fun x => by
  rw [both_mem, se_mem, se_mem, se_mem]
  constructor
  · rintro ⟨⟨⟨e, h1, h2⟩, hu⟩, ⟨e', h3, h4⟩, _⟩
    obtain rfl := one_ev h h1 h3
    exact ⟨⟨e, h1, by simp [h2, h4]⟩, hu⟩
  · rintro ⟨⟨e, h1, h2⟩, hu⟩
    simp only [Bool.and_eq_true] at h2
    exact ⟨⟨⟨e, h1, h2.1⟩, hu⟩, ⟨e, h1, h2.2⟩, hu⟩
theorem se_either {L : Ls} (h : LOk L) (u : Int) (f g : Ev → Bool) : eitherF (seP L u f) (seP L u g) = seP L u (fun e => f e || g e) := inc_ext (either_inc _ (se_inc h u g)) (se_inc h u _) fun x => by
  rw [either_mem, se_mem, se_mem, se_mem]
  constructor
  · rintro (⟨⟨e, h1, h2⟩, hu⟩ | ⟨⟨e, h1, h2⟩, hu⟩)
    · exact ⟨⟨e, h1, by simp [h2]⟩, hu⟩
    · exact ⟨⟨e, h1, by simp [h2]⟩, hu⟩
  · rintro ⟨⟨e, h1, h2⟩, hu⟩
    simp only [Bool.or_eq_true] at h2
    rcases h2 with h2 | h2
    · exact .inl ⟨⟨e, h1, h2⟩, hu⟩
    · exact .inr ⟨⟨e, h1, h2⟩, hu⟩
theorem se_none (L : Ls) (u : Int) {f : Ev → Bool} (h : ∀ e, f e = false) : seP L u f = [] := by
  rw [List.eq_nil_iff_forall_not_mem]
  intro x hx
  obtain ⟨⟨e, _, h2⟩, _⟩ := se_mem.1 hx
  rw [h] at h2
  cases h2
/-- The types ahead of the k-th. -/
theorem se_types {L : Ls} (h : LOk L) (u : Int) (ts : List ByteArray) {k : Nat} (hk : k < ts.length) :
    eitherF (seP L u fun e => hasB (ts.take k) e.t) (upF u (typP L (ts.getD k ByteArray.empty))) = seP L u fun e => hasB (ts.take (k + 1)) e.t := by
  have e1 : upF u (typP L (ts.getD k ByteArray.empty)) = seP L u fun e => decide (e.t = ts.getD k ByteArray.empty) := rfl
  rw [e1, se_either h]
  congr 1
  funext e
  have ht : ts.take (k + 1) = ts.take k ++ [ts.getD k ByteArray.empty] := by
    rw [List.take_add_one]
    simp [List.getD, List.getElem?_eq_getElem hk]
  rw [ht, Bool.eq_iff_iff, Bool.or_eq_true, hasB_mem, hasB_mem, List.mem_append, List.mem_singleton, decide_eq_true_iff]
/-- What a clause asks for, one behind the other. -/
def psF (c : Cl) : List (Ev → Bool) := c.tags.map (fun t e => hasB e.tags t) ++ (if c.types = [] then [] else [fun e => hasB c.types e.t])
def conF (ps : List (Ev → Bool)) (e : Ev) : Bool := ps.all fun p => p e
theorem con_psF (c : Cl) : conF (psF c) = clauseB c := by
  funext e
  unfold conF psF clauseB
  rw [List.all_append, List.all_map]
  congr 1
  by_cases h : c.types = []
  · simp [h]
  · rw [if_neg h, decide_eq_false h]
    simp
theorem con_none (L : Ls) (u : Int) : seP L u (conF []) = upF u (posP (fun _ => true) L) := rfl
theorem con_step {L : Ls} (h : LOk L) (u : Int) (ps : List (Ev → Bool)) (p : Ev → Bool) : bothF (seP L u (conF ps)) (seP L u p) = seP L u (conF (ps ++ [p])) := by
  rw [se_both h]
  congr 1
  funext e
  unfold conF
  rw [List.all_append]
  simp
theorem con_one (L : Ls) (u : Int) (p : Ev → Bool) : seP L u p = seP L u (conF [p]) := by
  congr 1
  funext e
  simp [conF]
theorem find_clause {L : Ls} (h : LOk L) (u : Int) (q : List Cl) {k : Nat} (hk : k < q.length) : eitherF (findP L (q.take k) u) (seP L u (clauseB (q.getD k noCl))) = findP L (q.take (k + 1)) u := by
  have e1 : ∀ q, findP L q u = seP L u (matchQ q) := fun _ => rfl
  rw [e1, e1, se_either h]
  congr 1
  funext e
  have ht : q.take (k + 1) = q.take k ++ [q.getD k noCl] := by
    rw [List.take_add_one]
    simp [List.getD, List.getElem?_eq_getElem hk]
  rw [ht]
  unfold matchQ
  rw [List.any_append]
  simp
theorem find_zero (L : Ls) (u : Int) : findP L [] u = [] := se_none L u fun _ => rfl

end Go.Proofs.YtiplfhmimpkplaaGreat.PnWalk

