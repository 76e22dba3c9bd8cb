/-
  Contracts of layer 6: query.May and what it asks.
-/
import Derived.Test.YtfbooapgjhhjmaaQpFn
import Derived.Test.YtfbooapgjhhjmaaQuRefY
import Derived.Test.YtfbooapgjhhjmaaNmTag
namespace Go.Proofs.Ytfbooapgjhhjmaa.QuWalk
open Go.RowKit Go.Proofs.Ytfbooapgjhhjmaa.MemRow Go.Proofs.Ytfbooapgjhhjmaa.Ev Go.Proofs.Ytfbooapgjhhjmaa.NameMath Go.Proofs.Ytfbooapgjhhjmaa.NameWalk Go.Proofs.Ytfbooapgjhhjmaa.EvWalk Go.Proofs.Ytfbooapgjhhjmaa.Qu

/-- A function value that says of lists of texts whether P holds. -/
def PredL (g : Nat) (caps : Array Value) (P : List ByteArray → Bool) (w : World) : Prop :=
  ∀ W, Below w.heap.size w W → ∀ A n ca ss, RdS W A n ca ss → (∀ x ∈ ss, x.size ≤ maxLen) → Calls Try.prog g (#[.slice A n ca] ++ caps) W fun e W' => e = .returned (.bool (P ss)) ∧ Below W.heap.size W W'
theorem PredL.below {g : Nat} {caps : Array Value} {P : List ByteArray → Bool} {w w' : World} (h : PredL g caps P w) (hb : Below w.heap.size w w') : PredL g caps P w' := fun W b => h W (below_chain hb b)

set_option maxHeartbeats 2000000 in
set_option maxRecDepth 100000 in
theorem tooMany_any (A : Option Addr) (n ca : Nat) (ss : List ByteArray) (w : World) (ha : RdS w A n ca ss) :
    Calls Try.prog 26 #[.slice A n ca] w fun e w' => e = .returned (.bool (decide (4 < ss.length))) ∧ Below w.heap.size w w' := by
  have hn := RdC.le ha
  unfold maxLen at hn
  rw [ha.len]
  clear ha
  by_cases h : 4 < n
  · have i1 : (4 : Int) < n := by omega
    rw [decide_eq_true h]
    go_enter Try.func26, Try.ntmps26
    go_wp2_with fail
    go_ret
    exact ⟨rfl, Below.refl _ _⟩
  · have i1 : ¬ (4 : Int) < n := by omega
    rw [decide_eq_false h]
    go_enter Try.func26, Try.ntmps26
    go_wp2_with fail
    go_ret
    exact ⟨rfl, Below.refl _ _⟩

set_option maxHeartbeats 2000000 in
set_option maxRecDepth 100000 in
theorem notAll11_any (bx g : Nat) (p : ByteArray → Bool) (x : ByteArray) (w : World) (hc : w.cell? ⟨bx, 0, none⟩ = some (.func (.func g) #[] #[])) (eg : Runs g) (hp : Calls Try.prog g #[.string x] w fun e w' => e = .returned (.bool (p x)) ∧ Below w.heap.size w w') :
    Calls Try.prog 46 #[.string x, .pointer (some ⟨bx, 0, none⟩)] w fun e w' => e = .returned (.bool (!p x)) ∧ Below w.heap.size w w' := by
  unfold Runs at eg
  have c := Go.Lib.hid hp
  clear hp
  generalize p x = b at *
  go_enter Try.func46, Try.ntmps46
  go_wp2_with (refine (c.out).mono ?_; rintro e w' ⟨rfl, b1⟩)
  go_ret
  exact ⟨rfl, b1⟩

set_option maxHeartbeats 2000000 in
set_option maxRecDepth 100000 in
theorem notAll1_any (bx g : Nat) (p : ByteArray → Bool) (A : Option Addr) (n ca : Nat) (ss : List ByteArray) (w : World) (ha : RdS w A n ca ss) (hc : w.cell? ⟨bx, 0, none⟩ = some (.func (.func g) #[] #[])) (eg : Runs g)
    (hp : ∀ W, Below w.heap.size w W → ∀ x ∈ ss, Calls Try.prog g #[.string x] W fun e w' => e = .returned (.bool (p x)) ∧ Below W.heap.size W w') :
    Calls Try.prog 44 #[.slice A n ca, .pointer (some ⟨bx, 0, none⟩)] w fun e w' => e = .returned (.bool (ss.any fun x => !p x)) ∧ Below w.heap.size w w' := by
  have c := Go.Lib.hid (hasFuncSc_any A n ca ss 46 #[.pointer (some ⟨bx, 0, none⟩)] (fun x => !p x) w ha (enters_of Try.func46 (by kernel_rfl) rfl) (fun W b x hx => notAll11_any bx g p x W (bcell b hc) eg (hp W b x hx)))
  clear ha hc eg hp
  generalize ss.any (fun x => !p x) = R at *
  go_enter Try.func44, Try.ntmps44
  go_wp2_with (refine (c.out).mono ?_; rintro e w' ⟨rfl, b1⟩)
  go_ret
  exact ⟨rfl, b1⟩

set_option maxHeartbeats 2000000 in
set_option maxRecDepth 100000 in
theorem notAll_any (g : Nat) (w : World) :
    Calls Try.prog 27 #[.func (.func g) #[] #[]] w fun e w' => e = .returned (.func (.func 44) #[] #[.pointer (some ⟨w.heap.size, 0, none⟩)]) ∧ w'.cell? ⟨w.heap.size, 0, none⟩ = some (.func (.func g) #[] #[]) ∧ Below w.heap.size w w' := by
  have al : Below w.heap.size w (w.alloc (.cells #[.func (.func g) #[] #[]] 48)) := (Below.refl _ _).alloc (Nat.le_refl _) _
  have k : (w.alloc (.cells #[.func (.func g) #[] #[]] 48)).cell? ⟨w.heap.size, 0, none⟩ = some (.func (.func g) #[] #[]) := by
    rw [cell_of_row _ w.heap.size 0 _ _ _ (heap_alloc_new w _)]; rfl
  go_enter Try.func27, Try.ntmps27
  go_wp2_with fail
  go_ret
  exact ⟨rfl, k, al⟩

set_option maxHeartbeats 4000000 in
set_option maxRecDepth 100000 in
theorem notRising_any (A : Option Addr) (n ca : Nat) (ss : List ByteArray) (w : World) (ha : RdS w A n ca ss) :
    Calls Try.prog 30 #[.slice A n ca] w fun e w' => e = .returned (.bool (!riseB ss)) ∧ Below w.heap.size w w' := by
  have hn := RdC.le ha
  unfold maxLen at hn
  have la := ha.len
  generalize hR : riseB ss = R
  have HR := Go.Lib.hid hR
  have LA := Go.Lib.hid la
  clear hR la
  go_enter Try.func30, Try.ntmps30
  go_wp2_with fail
  go_loopw [3] (fun i wr => ∃ j : Nat, j + 1 ≤ max n 1 ∧ i = .int .i64 ((j + 1 : Nat) : Int) ∧ riseB (ss.take (j + 1)) = true ∧ ∃ q, wr = w.drewN q) (fun i _ => n - (intOf i).toNat)
  case atStart =>
    refine ⟨0, by omega, rfl, ?_, 0, rfl⟩
    cases ss with
    | nil => rfl
    | cons a l => simp [riseB]
  case round =>
    obtain ⟨j, hj, rfl, hq, q, hw⟩ := hrel
    have HQ := Go.Lib.hid hq
    clear hq
    have ha' : RdS wr A n ca ss := by rw [hw]; exact ha
    have HW := Go.Lib.hid hw
    clear hw
    by_cases hlt : j + 1 < n
    · obtain ⟨ba, oa, rfl, _, ka⟩ := ha'.at_ (by omega)
      have ka1 := ka j (by omega)
      have ka2 := ka (j + 1) hlt
      have i1 : (j : Int) + 1 < n := by omega
      have i2 : (j : Int) < n := by omega
      have e1 : ((j + 1 : Nat) : Int) = (j : Int) + 1 := by omega
      have ta := take_two ss j (by rw [LA.out]; exact hlt)
      have tb := take_get ss j (by rw [LA.out]; omega)
      have TA := Go.Lib.hid ta
      have TB := Go.Lib.hid tb
      clear ka ta tb ha'
      generalize hx : ss.getD j ByteArray.empty = x at *
      generalize hy : ss.getD (j + 1) ByteArray.empty = y at *
      clear hx hy
      have ts := rise_snoc (ss.take j) x y
      have TS := Go.Lib.hid ts
      clear ts
      by_cases hl : less x y = true
      · have hb : Op.bytesLess x.toList y.toList = true := hl
        go_wp2_with fail
        go_quiet (fail)
        go_wp2_with fail
        go_roundw
        case rel => exact ⟨j + 1, by omega, by go_num, by rw [TA.out, TS.out, ← TB.out, HQ.out, hl]; rfl, q + nq, by rw [HW.out, World.drewN_drewN]⟩
        case measure => simp [intOf]; omega
      · have hb : Op.bytesLess x.toList y.toList = false := by simpa [less] using hl
        have hR : R = false := by
          rw [← HR.out]
          cases h : riseB ss with
          | false => rfl
          | true =>
            exfalso
            rw [← List.take_append_drop (j + 2) ss] at h
            have h2 := rise_prefix _ _ h
            rw [TA.out, TS.out, Bool.and_eq_true] at h2
            exact hl h2.2
        subst hR
        have B := bel_drewN (Below.refl w.heap.size w) q
        rw [← HW.out] at B
        go_wp2_with fail
        go_quiet (fail)
        go_wp2_with fail
        go_ret
        exact ⟨rfl, bel_drewN B _⟩
    · have hR : R = true := by
        have h1 := HQ.out
        rwa [List.take_of_length_le (by rw [LA.out]; omega), HR.out] at h1
      subst hR
      have i1 : ¬ ((j : Int) + 1 < n) := by omega
      have e1 : ((j + 1 : Nat) : Int) = (j : Int) + 1 := by omega
      have B := bel_drewN (Below.refl w.heap.size w) q
      rw [← HW.out] at B
      go_wp2_with fail
      go_ret
      exact ⟨rfl, B⟩

set_option maxHeartbeats 4000000 in
set_option maxRecDepth 100000 in
theorem may11_any (ba bb g1 g2 : Nat) (c1 c2 : Array Value) (P1 P2 : List ByteArray → Bool) (v : Value) (c : Cl) (w : World) (hv : IsCl w v c) (hok : ClOk c)
    (ha : w.cell? ⟨ba, 0, none⟩ = some (.func (.func g1) #[] c1)) (hb : w.cell? ⟨bb, 0, none⟩ = some (.func (.func g2) #[] c2)) (e1 : Runs g1) (e2 : Runs g2) (p1 : PredL g1 c1 P1 w) (p2 : PredL g2 c2 P2 w) :
    Calls Try.prog 25 #[v, .pointer (some ⟨ba, 0, none⟩), .pointer (some ⟨bb, 0, none⟩)] w fun e w' => e = .returned (.bool (P1 c.tags || P2 c.types)) ∧ Below w.heap.size w w' := by
  unfold Runs at e1 e2
  obtain ⟨T, nT, cT, Y, nY, cY, rfl, rT, rY⟩ := hv
  have al : Below w.heap.size w (w.alloc (.cells #[.slice T nT cT, .slice Y nY cY] 36)) := (Below.refl _ _).alloc (Nat.le_refl _) _
  have k := ClAt.new w (.slice T nT cT) (.slice Y nY cY)
  have q1 := Go.Lib.hid (p1.below al)
  have q2 := Go.Lib.hid (p2.below al)
  have rT1 := RdC.below rT al
  have rY1 := RdC.below rY al
  have a1 := bcell al ha
  have b1 := bcell al hb
  have OT := Go.Lib.hid hok.tags
  have OY := Go.Lib.hid hok.types
  clear p1 p2 rT rY ha hb hok
  generalize h1 : P1 c.tags = R1
  generalize h2 : P2 c.types = R2
  have H1 := Go.Lib.hid h1
  have H2 := Go.Lib.hid h2
  clear h1 h2
  go_enter Try.func25, Try.ntmps25
  go_upto_region 1 with (fail)
  generalize w.alloc (.cells #[.slice T nT cT, .slice Y nY cY] 36) = w1 at *
  have k0 := k.c0
  have k1 := k.c1
  have c0 := q1.out w1 (Below.refl _ _) T nT cT c.tags rT1 OT.out
  rw [H1.out] at c0
  have cc := Go.Lib.hid c0
  clear c0
  cases R1 with
  | true =>
    go_wp2_with (refine (cc.out).mono ?_; rintro e w2 ⟨rfl, bb2⟩)
    go_ret
    exact ⟨rfl, below_chain al bb2⟩
  | false =>
    go_wp2_with (refine (cc.out).mono ?_; rintro e w2 ⟨rfl, bb2⟩; have b2 := bcell bb2 b1; have l1 := bcell bb2 k1; have d0 := q2.out w2 bb2 Y nY cY c.types (RdC.below rY1 bb2) OY.out; rw [H2.out] at d0; have cd := Go.Lib.hid d0; clear d0; have B2 := below_chain al bb2)
    go_wp2_with (refine (cd.out).mono ?_; rintro e w3 ⟨rfl, bb3⟩)
    go_ret
    exact ⟨rfl, below_chain B2 bb3⟩

/-- The boxes of two function values, behind world w. -/
structure FfAt (wr w : World) (f1 f2 : Value) : Prop where
  c1 : wr.cell? ⟨w.heap.size, 0, none⟩ = some f1
  c2 : wr.cell? ⟨w.heap.size + 1, 0, none⟩ = some f2
  bel : Below w.heap.size w wr
theorem FfAt.new (w : World) (f1 f2 : Value) (t : TypeId) : FfAt ((w.alloc (.cells #[f1] t)).alloc (.cells #[f2] t)) w f1 f2 := by
  have a1 : (w.alloc (.cells #[f1] t)).cell? ⟨w.heap.size, 0, none⟩ = some f1 := by rw [cell_of_row _ w.heap.size 0 _ _ _ (heap_alloc_new w _)]; rfl
  have b1 : Below w.heap.size w (w.alloc (.cells #[f1] t)) := (Below.refl _ _).alloc (Nat.le_refl _) _
  generalize hw1 : w.alloc (.cells #[f1] t) = w1 at *
  have s1 : w1.heap.size = w.heap.size + 1 := by rw [← hw1]; simp
  have a2 : (w1.alloc (.cells #[f2] t)).cell? ⟨w1.heap.size, 0, none⟩ = some f2 := by rw [cell_of_row _ w1.heap.size 0 _ _ _ (heap_alloc_new w1 _)]; rfl
  have b2 : Below w1.heap.size w1 (w1.alloc (.cells #[f2] t)) := (Below.refl _ _).alloc (Nat.le_refl _) _
  rw [s1] at a2
  exact ⟨bcell b2 a1, a2, below_chain b1 b2⟩

set_option maxHeartbeats 4000000 in
set_option maxRecDepth 100000 in
theorem may1_any (bx g1 g2 : Nat) (c1 c2 : Array Value) (P1 P2 : List ByteArray → Bool) (C : Option Addr) (n cap : Nat) (q : List Cl) (w : World) (hc : w.cell? ⟨bx, 0, none⟩ = some (.slice C n cap)) (rC : RdQ w C n cap q) (hok : QOk q)
    (e1 : Runs g1) (e2 : Runs g2) (p1 : PredL g1 c1 P1 w) (p2 : PredL g2 c2 P2 w) :
    Calls Try.prog 23 #[.func (.func g1) #[] c1, .func (.func g2) #[] c2, .pointer (some ⟨bx, 0, none⟩)] w fun e w' => e = .returned (.bool (q.any fun c => P1 c.tags || P2 c.types)) ∧ Below w.heap.size w w' := by
  have s1 := FfAt.new w (.func (.func g1) #[] c1) (.func (.func g2) #[] c2) 43
  have q1 := p1.below s1.bel
  have q2 := p2.below s1.bel
  have r1 := rC.below s1.bel
  have k0 := bcell s1.bel hc
  generalize hR : (q.any fun c => P1 c.tags || P2 c.types) = R
  have HR := Go.Lib.hid hR
  clear hR p1 p2 rC hc
  go_enter Try.func23, Try.ntmps23
  go_upto_region 1 with (fail)
  generalize (w.alloc (.cells #[.func (.func g1) #[] c1] 43)).alloc (.cells #[.func (.func g2) #[] c2] 43) = w1 at *
  have cc := hasFuncC_any C n cap q 25 #[.pointer (some ⟨w.heap.size, 0, none⟩), .pointer (some ⟨w.heap.size + 1, 0, none⟩)] (fun c => P1 c.tags || P2 c.types) w1 r1 (enters_of Try.func25 (by kernel_rfl) rfl)
    (fun W b v c hx hi => may11_any w.heap.size (w.heap.size + 1) g1 g2 c1 c2 P1 P2 v c W hi (hok c hx) (bcell b s1.c1) (bcell b s1.c2) e1 e2 (q1.below b) (q2.below b))
  rw [HR.out] at cc
  have CC := Go.Lib.hid cc
  have B1 := s1.bel
  clear cc q1 q2 r1 s1 e1 e2 hok
  go_wp2_with (refine (CC.out).mono ?_; rintro e w2 ⟨rfl, b2⟩)
  go_ret
  exact ⟨rfl, below_chain B1 b2⟩

theorem any_big (q : List Cl) : (q.any fun c => decide (4 < c.tags.length) || decide (4 < c.types.length)) = q.any bigC := by
  have h : (fun c : Cl => decide (4 < c.tags.length) || decide (4 < c.types.length)) = bigC := by
    funext c
    unfold bigC
    rw [Bool.decide_or]
  rw [h]
theorem any_nots (q : List Cl) (p r : Cl → Bool) (f : Cl → Bool) (h : ∀ c, (p c || r c) = !f c) : (q.any fun c => p c || r c) = !q.all f := by
  induction q with
  | nil => rfl
  | cons a q ih => rw [List.any_cons, List.all_cons, ih, h, Bool.not_and]
theorem any_nt (l : List ByteArray) (p : ByteArray → Bool) : (l.any fun x => !p x) = !l.all p := by
  induction l with
  | nil => rfl
  | cons a l ih => rw [List.any_cons, List.all_cons, ih, Bool.not_and]
theorem any_names (q : List Cl) : (q.any fun c => (c.tags.any fun x => !tagB x) || (c.types.any fun x => !nameB x)) = !q.all namesC :=
  any_nots q _ _ _ fun c => by unfold namesC; rw [any_nt, any_nt, Bool.not_and]
theorem any_rises (q : List Cl) : (q.any fun c => (!riseB c.tags) || (!riseB c.types)) = !q.all riseC :=
  any_nots q _ _ _ fun c => by unfold riseC; rw [Bool.not_and]

theorem predL_many (w : World) : PredL 26 #[] (fun l => decide (4 < l.length)) w := fun W _ A n ca ss ha _ => tooMany_any A n ca ss W ha
theorem predL_rise (w : World) : PredL 30 #[] (fun l => !riseB l) w := fun W _ A n ca ss ha _ => notRising_any A n ca ss W ha
theorem predL_not (bx g : Nat) (p : ByteArray → Bool) (w : World) (hc : w.cell? ⟨bx, 0, none⟩ = some (.func (.func g) #[] #[])) (eg : Runs g) (hp : ∀ W x, x.size ≤ maxLen → Calls Try.prog g #[.string x] W fun e w' => e = .returned (.bool (p x)) ∧ Below W.heap.size W w') :
    PredL 44 #[.pointer (some ⟨bx, 0, none⟩)] (fun l => l.any fun x => !p x) w := fun W b A n ca ss ha hz => notAll1_any bx g p A n ca ss W ha (bcell b hc) eg fun V _ x hx => hp V x (hz x hx)

set_option maxHeartbeats 8000000 in
set_option maxRecDepth 100000 in
theorem mayQ_any (v : Value) (q : List Cl) (w : World) (hv : IsQ w v q) (hok : QOk q) :
    Calls Try.prog 15 #[v] w fun e w' => e = .returned (.int .i64 (mayQ q)) ∧ Below w.heap.size w w' := by
  obtain ⟨C, n, cap, rfl, rC⟩ := hv
  have LC := Go.Lib.hid rC.len
  have hn := rC.le
  unfold maxLen at hn
  generalize hR : mayQ q = R
  have HR := Go.Lib.hid hR
  clear hR
  have al : Below w.heap.size w (w.alloc (.cells #[.slice C n cap] 24)) := (Below.refl _ _).alloc (Nat.le_refl _) _
  have k := QAt.new w (.slice C n cap)
  have r1 := rC.below al
  clear rC
  go_enter Try.func15, Try.ntmps15
  go_upto_region 2 with (fail)
  generalize w.alloc (.cells #[.slice C n cap] 24) = w1 at *
  have k0 := k.c0
  have HOK := Go.Lib.hid hok
  clear hok
  by_cases h4 : 4 < n
  · have i1 : (4 : Int) < n := by omega
    have hR : R = 3 := by
      rw [← HR.out]
      unfold mayQ
      rw [LC.out, if_pos (.inl h4)]
    subst hR
    go_wp2_with fail
    go_ret
    exact ⟨rfl, al⟩
  have i1 : ¬ (4 : Int) < n := by omega
  have ca := may1_any w.heap.size 26 26 #[] #[] _ _ C n cap q w1 k0 r1 HOK.out (enters_of Try.func26 (by kernel_rfl) rfl) (enters_of Try.func26 (by kernel_rfl) rfl) (predL_many w1) (predL_many w1)
  rw [any_big] at ca
  generalize hbig : q.any bigC = R1 at *
  have HB := Go.Lib.hid hbig
  have CA := Go.Lib.hid ca
  clear hbig ca
  cases R1 with
  | true =>
    have hR : R = 3 := by
      rw [← HR.out]
      unfold mayQ
      rw [if_pos (.inr HB.out)]
    subst hR
    clear r1 k
    go_wp2_with (refine (CA.out).mono ?_; rintro e w2 ⟨rfl, b2⟩)
    go_ret
    exact ⟨rfl, below_chain al b2⟩
  | false =>
    go_upto_region 4 with (refine (CA.out).mono ?_; rintro e w2 ⟨rfl, b2⟩)
    have k2 := bcell b2 k0
    have r2 := r1.below b2
    have B2 := below_chain al b2
    clear r1 k k0 al b2 CA
    have d1 := Go.Lib.hid (notAll_any 28 w2)
    go_wp2_with (refine (d1.out).mono ?_; rintro e w3 ⟨rfl, x3, b3⟩)
    have d2 := Go.Lib.hid (notAll_any 29 w3)
    clear d1
    go_wp2_with (refine (d2.out).mono ?_; rintro e w4 ⟨rfl, x4, b4⟩)
    have x3' := bcell b4 x3
    have b34 := below_chain b3 b4
    have B4 := below_chain B2 b34
    have k4 := bcell b34 k2
    have r4 := r2.below b34
    have hm1 : ∀ W x, x.size ≤ maxLen → Calls Try.prog 28 #[.string x] W fun e w' => e = .returned (.bool (tagB x)) ∧ Below W.heap.size W w' := fun W x hx => mayTag_any x W (by unfold maxLen at hx; omega)
    have hm2 : ∀ W x, x.size ≤ maxLen → Calls Try.prog 29 #[.string x] W fun e w' => e = .returned (.bool (nameB x)) ∧ Below W.heap.size W w' := fun W x hx => may_any x W (by unfold maxLen at hx; omega)
    have cb := may1_any w.heap.size 44 44 #[.pointer (some ⟨w2.heap.size, 0, none⟩)] #[.pointer (some ⟨w3.heap.size, 0, none⟩)] _ _ C n cap q w4 k4 r4 HOK.out (enters_of Try.func44 (by kernel_rfl) rfl) (enters_of Try.func44 (by kernel_rfl) rfl)
      (predL_not w2.heap.size 28 tagB w4 x3' (enters_of Try.func28 (by kernel_rfl) rfl) hm1) (predL_not w3.heap.size 29 nameB w4 x4 (enters_of Try.func29 (by kernel_rfl) rfl) hm2)
    rw [any_names] at cb
    have h1 : ¬ (4 < q.length ∨ q.any bigC = true) := by
      rw [LC.out, HB.out]
      exact fun h => h.elim h4 (fun e => by cases e)
    have H1 := Go.Lib.hid h1
    clear h1
    generalize hnm : q.all namesC = R2 at *
    have HN := Go.Lib.hid hnm
    have CB := Go.Lib.hid cb
    clear hnm cb hm1 hm2 x3 x3' x4 b3 b4 d2 B2 k2 r2
    cases R2 with
    | false =>
      have hR : R = 5 := by
        rw [← HR.out]
        unfold mayQ
        rw [if_neg H1.out, if_pos HN.out]
      subst hR
      go_wp2_with (refine (CB.out).mono ?_; rintro e w5 ⟨rfl, b5⟩)
      go_ret
      exact ⟨rfl, below_chain B4 b5⟩
    | true =>
      go_upto_region 6 with (refine (CB.out).mono ?_; rintro e w5 ⟨rfl, b5⟩)
      have k5 := bcell b5 k4
      have r5 := r4.below b5
      have B5 := below_chain B4 b5
      have cd := may1_any w.heap.size 30 30 #[] #[] _ _ C n cap q w5 k5 r5 HOK.out (enters_of Try.func30 (by kernel_rfl) rfl) (enters_of Try.func30 (by kernel_rfl) rfl) (predL_rise w5) (predL_rise w5)
      rw [any_rises] at cd
      generalize hri : q.all riseC = R3 at *
      have HI := Go.Lib.hid hri
      have CD := Go.Lib.hid cd
      clear hri cd b5 CB k4 r4 B4
      cases R3 with
      | false =>
        have hR : R = 1 := by
          rw [← HR.out]
          unfold mayQ
          rw [if_neg H1.out, if_neg (by rw [HN.out]; exact fun e => by cases e), if_pos HI.out]
        subst hR
        go_wp2_with (refine (CD.out).mono ?_; rintro e w6 ⟨rfl, b6⟩)
        go_ret
        exact ⟨rfl, below_chain B5 b6⟩
      | true =>
        have hR : R = 0 := by
          rw [← HR.out]
          unfold mayQ
          rw [if_neg H1.out, if_neg (by rw [HN.out]; exact fun e => by cases e), if_neg (by rw [HI.out]; exact fun e => by cases e)]
        subst hR
        go_wp2_with (refine (CD.out).mono ?_; rintro e w6 ⟨rfl, b6⟩)
        go_ret
        exact ⟨rfl, below_chain B5 b6⟩

end Go.Proofs.Ytfbooapgjhhjmaa.QuWalk
