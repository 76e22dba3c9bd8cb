/-
  Contracts of layer 6: query.May and what it asks.
-/
import Derived.Lib.AppendZerosOnto
import Derived.Deep.RegionHeld
import Derived.Deep.QuietTactic
import Derived.BigQuiet
import Derived.Deep.DeepCutAuto
import Derived.Deep.RegionHeldLaw
import Derived.Test.YtjgddlnfjmdnnaaMg3
namespace Go.Proofs.Ytjgddlnfjmdnnaa.QuWalk
open Go.RowKit Go.Proofs.Ytjgddlnfjmdnnaa.MemRow Go.Proofs.Ytjgddlnfjmdnnaa.Ev Go.Proofs.Ytjgddlnfjmdnnaa.NameMath Go.Proofs.Ytjgddlnfjmdnnaa.NameWalk Go.Proofs.Ytjgddlnfjmdnnaa.EvWalk Go.Proofs.Ytjgddlnfjmdnnaa.Qu

/-- A function value that says of lists of texts whether P holds. -/
def PredL (g : Nat) (caps : Array Value) (P : List ByteArray → Bool) (w : World) : Prop :=
  ∀ W, Below w.heap.size w W → ∀ A n ca ss, RdS W A n ca ss → (∀ x ∈ ss, x.size ≤ maxLen) → Calls Try.prog g (#[.slice A n ca] ++ caps) W fun e W' => e = .returned (.bool (P ss)) ∧ Below W.heap.size W W'
theorem PredL.below {g : Nat} {caps : Array Value} {P : List ByteArray → Bool} {w w' : World} (h : PredL g caps P w) (hb : Below w.heap.size w w') : PredL g caps P w' := fun W b => h W (below_chain hb b)

set_option maxHeartbeats 2000000 in
set_option maxRecDepth 100000 in
theorem tooMany_any (A : Option Addr) (n ca : Nat) (ss : List ByteArray) (w : World) (ha : RdS w A n ca ss) :
    Calls Try.prog 50 #[.slice A n ca] w fun e w' => e = .returned (.bool (decide (4 < ss.length))) ∧ Below w.heap.size w w' := by
  have hn := RdC.le ha
  unfold maxLen at hn
  rw [ha.len]
  clear ha
  by_cases h : 4 < n
  · have i1 : (4 : Int) < n := by omega
    rw [decide_eq_true h]
    go_enter Try.func50, Try.ntmps50
    go_wp2_with fail
    go_ret
    exact ⟨rfl, Below.refl _ _⟩
  · have i1 : ¬ (4 : Int) < n := by omega
    rw [decide_eq_false h]
    go_enter Try.func50, Try.ntmps50
    go_wp2_with fail
    go_ret
    exact ⟨rfl, Below.refl _ _⟩

set_option maxHeartbeats 2000000 in
set_option maxRecDepth 100000 in
theorem notAll11_any (bx g : Nat) (p : ByteArray → Bool) (x : ByteArray) (w : World) (hc : w.cell? ⟨bx, 0, none⟩ = some (.func (.func g) #[] #[])) (eg : Runs g) (hp : Calls Try.prog g #[.string x] w fun e w' => e = .returned (.bool (p x)) ∧ Below w.heap.size w w') :
    Calls Try.prog 72 #[.string x, .pointer (some ⟨bx, 0, none⟩)] w fun e w' => e = .returned (.bool (!p x)) ∧ Below w.heap.size w w' := by
  unfold Runs at eg
  have c := Go.Lib.hid hp
  clear hp
  generalize p x = b at *
  go_enter Try.func72, Try.ntmps72
  go_wp2_with (refine (c.out).mono ?_; rintro e w' ⟨rfl, b1⟩)
  go_ret
  exact ⟨rfl, b1⟩

set_option maxHeartbeats 2000000 in
set_option maxRecDepth 100000 in
theorem notAll1_any (bx g : Nat) (p : ByteArray → Bool) (A : Option Addr) (n ca : Nat) (ss : List ByteArray) (w : World) (ha : RdS w A n ca ss) (hc : w.cell? ⟨bx, 0, none⟩ = some (.func (.func g) #[] #[])) (eg : Runs g)
    (hp : ∀ W, Below w.heap.size w W → ∀ x ∈ ss, Calls Try.prog g #[.string x] W fun e w' => e = .returned (.bool (p x)) ∧ Below W.heap.size W w') :
    Calls Try.prog 70 #[.slice A n ca, .pointer (some ⟨bx, 0, none⟩)] w fun e w' => e = .returned (.bool (ss.any fun x => !p x)) ∧ Below w.heap.size w w' := by
  have c := Go.Lib.hid (hasFuncSc_any A n ca ss 72 #[.pointer (some ⟨bx, 0, none⟩)] (fun x => !p x) w ha (enters_of Try.func72 (by kernel_rfl) rfl) (fun W b x hx => notAll11_any bx g p x W (bcell b hc) eg (hp W b x hx)))
  clear ha hc eg hp
  generalize ss.any (fun x => !p x) = R at *
  go_enter Try.func70, Try.ntmps70
  go_wp2_with (refine (c.out).mono ?_; rintro e w' ⟨rfl, b1⟩)
  go_ret
  exact ⟨rfl, b1⟩

set_option maxHeartbeats 2000000 in
set_option maxRecDepth 100000 in
theorem notAll_any (g : Nat) (w : World) :
    Calls Try.prog 51 #[.func (.func g) #[] #[]] w fun e w' => e = .returned (.func (.func 70) #[] #[.pointer (some ⟨w.heap.size, 0, none⟩)]) ∧ w'.cell? ⟨w.heap.size, 0, none⟩ = some (.func (.func g) #[] #[]) ∧ Below w.heap.size w w' := by
  have al : Below w.heap.size w (w.alloc (.cells #[.func (.func g) #[] #[]] 70)) := (Below.refl _ _).alloc (Nat.le_refl _) _
  have k : (w.alloc (.cells #[.func (.func g) #[] #[]] 70)).cell? ⟨w.heap.size, 0, none⟩ = some (.func (.func g) #[] #[]) := by
    rw [cell_of_row _ w.heap.size 0 _ _ _ (heap_alloc_new w _)]; rfl
  go_enter Try.func51, Try.ntmps51
  go_wp2_with fail
  go_ret
  exact ⟨rfl, k, al⟩

set_option maxHeartbeats 4000000 in
set_option maxRecDepth 100000 in
theorem notRising_any (A : Option Addr) (n ca : Nat) (ss : List ByteArray) (w : World) (ha : RdS w A n ca ss) :
    Calls Try.prog 54 #[.slice A n ca] w fun e w' => e = .returned (.bool (!riseB ss)) ∧ Below w.heap.size w w' := by
  have hn := RdC.le ha
  unfold maxLen at hn
  have la := ha.len
  generalize hR : riseB ss = R
  have HR := Go.Lib.hid hR
  have LA := Go.Lib.hid la
  clear hR la
  go_enter Try.func54, Try.ntmps54
  go_wp2_with fail
  go_loopw [3] (fun i wr => ∃ j : Nat, j + 1 ≤ max n 1 ∧ i = .int .i64 ((j + 1 : Nat) : Int) ∧ riseB (ss.take (j + 1)) = true ∧ ∃ q, wr = w.drewN q) (fun i _ => n - (intOf i).toNat)
  case atStart =>
    refine ⟨0, by omega, rfl, ?_, 0, rfl⟩
    cases ss with
    | nil => rfl
    | cons a l => simp [riseB]
  case round =>
    obtain ⟨j, hj, rfl, hq, q, hw⟩ := hrel
    have HQ := Go.Lib.hid hq
    clear hq
    have ha' : RdS wr A n ca ss := by rw [hw]; exact ha
    have HW := Go.Lib.hid hw
    clear hw
    by_cases hlt : j + 1 < n
    · obtain ⟨ba, oa, rfl, _, ka⟩ := ha'.at_ (by omega)
      have ka1 := ka j (by omega)
      have ka2 := ka (j + 1) hlt
      have i1 : (j : Int) + 1 < n := by omega
      have i2 : (j : Int) < n := by omega
      have e1 : ((j + 1 : Nat) : Int) = (j : Int) + 1 := by omega
      have ta := take_two ss j (by rw [LA.out]; exact hlt)
      have tb := take_get ss j (by rw [LA.out]; omega)
      have TA := Go.Lib.hid ta
      have TB := Go.Lib.hid tb
      clear ka ta tb ha'
      generalize hx : ss.getD j ByteArray.empty = x at *
      generalize hy : ss.getD (j + 1) ByteArray.empty = y at *
      clear hx hy
      have ts := rise_snoc (ss.take j) x y
      have TS := Go.Lib.hid ts
      clear ts
      by_cases hl : less x y = true
      · have hb : Op.bytesLess x.toList y.toList = true := hl
        go_wp2_with fail
        go_quiet (fail)
        go_wp2_with fail
        go_roundw
        case rel => exact ⟨j + 1, by omega, by go_num, by rw [TA.out, TS.out, ← TB.out, HQ.out, hl]; rfl, q + nq, by rw [HW.out, World.drewN_drewN]⟩
        case measure => simp [intOf]; omega
      · have hb : Op.bytesLess x.toList y.toList = false := by simpa [less] using hl
        have hR : R = false := by
          rw [← HR.out]
          cases h : riseB ss with
          | false => rfl
          | true =>
            exfalso
            rw [← List.take_append_drop (j + 2) ss] at h
            have h2 := rise_prefix _ _ h
            rw [TA.out, TS.out, Bool.and_eq_true] at h2
            exact hl h2.2
        subst hR
        have B := bel_drewN (Below.refl w.heap.size w) q
        rw [← HW.out] at B
        go_wp2_with fail
        go_quiet (fail)
        go_wp2_with fail
        go_ret
        exact ⟨rfl, bel_drewN B _⟩
    · have hR : R = true := by
        have h1 := HQ.out
        rwa [List.take_of_length_le (by rw [LA.out]; omega), HR.out] at h1
      subst hR
      have i1 : ¬ ((j : Int) + 1 < n) := by omega
      have e1 : ((j + 1 : Nat) : Int) = (j : Int) + 1 := by omega
      have B := bel_drewN (Below.refl w.heap.size w) q
      rw [← HW.out] at B
      go_wp2_with fail
      go_ret
      exact ⟨rfl, B⟩

set_option maxHeartbeats 4000000 in
set_option maxRecDepth 100000 in
theorem may11_any (ba bb g1 g2 : Nat) (c1 c2 : Array Value) (P1 P2 : List ByteArray → Bool) (v : Value) (c : Cl) (w : World) (hv : IsCl w v c) (hok : ClOk c)
    (ha : w.cell? ⟨ba, 0, none⟩ = some (.func (.func g1) #[] c1)) (hb : w.cell? ⟨bb, 0, none⟩ = some (.func (.func g2) #[] c2)) (e1 : Runs g1) (e2 : Runs g2) (p1 : PredL g1 c1 P1 w) (p2 : PredL g2 c2 P2 w) :
    Calls Try.prog 49 #[v, .pointer (some ⟨ba, 0, none⟩), .pointer (some ⟨bb, 0, none⟩)] w fun e w' => e = .returned (.bool (P1 c.tags || P2 c.types)) ∧ Below w.heap.size w w' := by
  unfold Runs at e1 e2
  obtain ⟨T, nT, cT, Y, nY, cY, rfl, rT, rY⟩ := hv
  have al : Below w.heap.size w (w.alloc (.cells #[.slice T nT cT, .slice Y nY cY] 60)) := (Below.refl _ _).alloc (Nat.le_refl _) _
  have k := ClAt.new w (.slice T nT cT) (.slice Y nY cY)
  have q1 := Go.Lib.hid (p1.below al)
  have q2 := Go.Lib.hid (p2.below al)
  have rT1 := RdC.below rT al
  have rY1 := RdC.below rY al
  have a1 := bcell al ha
  have b1 := bcell al hb
  have OT := Go.Lib.hid hok.tags
  have OY := Go.Lib.hid hok.types
  clear p1 p2 rT rY ha hb hok
  generalize h1 : P1 c.tags = R1
  generalize h2 : P2 c.types = R2
  have H1 := Go.Lib.hid h1
  have H2 := Go.Lib.hid h2
  clear h1 h2
  go_enter Try.func49, Try.ntmps49
  go_upto_region 1 with (fail)
  generalize w.alloc (.cells #[.slice T nT cT, .slice Y nY cY] 60) = w1 at *
  have k0 := k.c0
  have k1 := k.c1
  have c0 := q1.out w1 (Below.refl _ _) T nT cT c.tags rT1 OT.out
  rw [H1.out] at c0
  have cc := Go.Lib.hid c0
  clear c0
  cases R1 with
  | true =>
    go_wp2_with (refine (cc.out).mono ?_; rintro e w2 ⟨rfl, bb2⟩)
    go_ret
    exact ⟨rfl, below_chain al bb2⟩
  | false =>
    go_wp2_with (refine (cc.out).mono ?_; rintro e w2 ⟨rfl, bb2⟩; have b2 := bcell bb2 b1; have l1 := bcell bb2 k1; have d0 := q2.out w2 bb2 Y nY cY c.types (RdC.below rY1 bb2) OY.out; rw [H2.out] at d0; have cd := Go.Lib.hid d0; clear d0; have B2 := below_chain al bb2)
    go_wp2_with (refine (cd.out).mono ?_; rintro e w3 ⟨rfl, bb3⟩)
    go_ret
    exact ⟨rfl, below_chain B2 bb3⟩

/-- The boxes of two function values, behind world w. -/
structure FfAt (wr w : World) (f1 f2 : Value) : Prop where
  c1 : wr.cell? ⟨w.heap.size, 0, none⟩ = some f1
  c2 : wr.cell? ⟨w.heap.size + 1, 0, none⟩ = some f2
  bel : Below w.heap.size w wr
theorem FfAt.new (w : World) (f1 f2 : Value) (t : TypeId) : FfAt ((w.alloc (.cells #[f1] t)).alloc (.cells #[f2] t)) w f1 f2 := by
  have a1 : (w.alloc (.cells #[f1] t)).cell? ⟨w.heap.size, 0, none⟩ = some f1 := by rw [cell_of_row _ w.heap.size 0 _ _ _ (heap_alloc_new w _)]; rfl
  have b1 : Below w.heap.size w (w.alloc (.cells #[f1] t)) := (Below.refl _ _).alloc (Nat.le_refl _) _
  generalize hw1 : w.alloc (.cells #[f1] t) = w1 at *
  have s1 : w1.heap.size = w.heap.size + 1 := by rw [← hw1]; simp
  have a2 : (w1.alloc (.cells #[f2] t)).cell? ⟨w1.heap.size, 0, none⟩ = some f2 := by rw [cell_of_row _ w1.heap.size 0 _ _ _ (heap_alloc_new w1 _)]; rfl
  have b2 : Below w1.heap.size w1 (w1.alloc (.cells #[f2] t)) := (Below.refl _ _).alloc (Nat.le_refl _) _
  rw [s1] at a2
  exact ⟨bcell b2 a1, a2, below_chain b1 b2⟩

set_option maxHeartbeats 4000000 in
set_option maxRecDepth 100000 in
theorem may1_any (bx g1 g2 : Nat) (c1 c2 : Array Value) (P1 P2 : List ByteArray → Bool) (C : Option Addr) (n cap : Nat) (q : List Cl) (w : World) (hc : w.cell? ⟨bx, 0, none⟩ = some (.slice C n cap)) (rC : RdQ w C n cap q) (hok : QOk q)
    (e1 : Runs g1) (e2 : Runs g2) (p1 : PredL g1 c1 P1 w) (p2 : PredL g2 c2 P2 w) :
    Calls Try.prog 47 #[.func (.func g1) #[] c1, .func (.func g2) #[] c2, .pointer (some ⟨bx, 0, none⟩)] w fun e w' => e = .returned (.bool (q.any fun c => P1 c.tags || P2 c.types)) ∧ Below w.heap.size w w' := by
  have s1 := FfAt.new w (.func (.func g1) #[] c1) (.func (.func g2) #[] c2) 82
  have q1 := p1.below s1.bel
  have q2 := p2.below s1.bel
  have r1 := rC.below s1.bel
  have k0 := bcell s1.bel hc
  generalize hR : (q.any fun c => P1 c.tags || P2 c.types) = R
  have HR := Go.Lib.hid hR
  clear hR p1 p2 rC hc
  go_enter Try.func47, Try.ntmps47
  go_upto_region 1 with (fail)
  generalize (w.alloc (.cells #[.func (.func g1) #[] c1] 82)).alloc (.cells #[.func (.func g2) #[] c2] 82) = w1 at *
  have cc := hasFuncC_any C n cap q 49 #[.pointer (some ⟨w.heap.size, 0, none⟩), .pointer (some ⟨w.heap.size + 1, 0, none⟩)] (fun c => P1 c.tags || P2 c.types) w1 r1 (enters_of Try.func49 (by kernel_rfl) rfl)
    (fun W b v c hx hi => may11_any w.heap.size (w.heap.size + 1) g1 g2 c1 c2 P1 P2 v c W hi (hok c hx) (bcell b s1.c1) (bcell b s1.c2) e1 e2 (q1.below b) (q2.below b))
  rw [HR.out] at cc
  have CC := Go.Lib.hid cc
  have B1 := s1.bel
  clear cc q1 q2 r1 s1 e1 e2 hok
  go_wp2_with (refine (CC.out).mono ?_; rintro e w2 ⟨rfl, b2⟩)
  go_ret
  exact ⟨rfl, below_chain B1 b2⟩

theorem any_big (q : List Cl) : (q.any fun c => decide (4 < c.tags.length) || decide (4 < c.types.length)) = q.any bigC := by
  have h : (fun c : Cl => decide (4 < c.tags.length) || decide (4 < c.types.length)) = bigC := by
    funext c
    unfold bigC
    rw [Bool.decide_or]
  rw [h]
theorem any_nots (q : List Cl) (p r : Cl → Bool) (f : Cl → Bool) (h : ∀ c, (p c || r c) = !f c) : (q.any fun c => p c || r c) = !q.all f := by
  induction q with
  | nil => rfl
  | cons a q ih => rw [List.any_cons, List.all_cons, ih, h, Bool.not_and]
theorem any_nt (l : List ByteArray) (p : ByteArray → Bool) : (l.any fun x => !p x) = !l.all p := by
  induction l with
  | nil => rfl
  | cons a l ih => rw [List.any_cons, List.all_cons, ih, Bool.not_and]
theorem any_names (q : List Cl) : (q.any fun c => (c.tags.any fun x => !tagB x) || (c.types.any fun x => !nameB x)) = !q.all namesC :=
  any_nots q _ _ _ fun c => by unfold namesC; rw [any_nt, any_nt, Bool.not_and]
theorem any_rises (q : List Cl) : (q.any fun c => (!riseB c.tags) || (!riseB c.types)) = !q.all riseC :=
  any_nots q _ _ _ fun c => by unfold riseC; rw [Bool.not_and]

theorem predL_many (w : World) : PredL 50 #[] (fun l => decide (4 < l.length)) w := fun W _ A n ca ss ha _ => tooMany_any A n ca ss W ha
theorem predL_rise (w : World) : PredL 54 #[] (fun l => !riseB l) w := fun W _ A n ca ss ha _ => notRising_any A n ca ss W ha
theorem predL_not (bx g : Nat) (p : ByteArray → Bool) (w : World) (hc : w.cell? ⟨bx, 0, none⟩ = some (.func (.func g) #[] #[])) (eg : Runs g) (hp : ∀ W x, x.size ≤ maxLen → Calls Try.prog g #[.string x] W fun e w' => e = .returned (.bool (p x)) ∧ Below W.heap.size W w') :
    PredL 70 #[.pointer (some ⟨bx, 0, none⟩)] (fun l => l.any fun x => !p x) w := fun W b A n ca ss ha hz => notAll1_any bx g p A n ca ss W ha (bcell b hc) eg fun V _ x hx => hp V x (hz x hx)

set_option maxHeartbeats 8000000 in
set_option maxRecDepth 100000 in
theorem mayQ_any (v : Value) (q : List Cl) (w : World) (hv : IsQ w v q) (hok : QOk q) :
    Calls Try.prog 26 #[v] w fun e w' => e = .returned (.int .i64 (mayQ q)) ∧ Below w.heap.size w w' := by
  obtain ⟨C, n, cap, rfl, rC⟩ := hv
  have LC := Go.Lib.hid rC.len
  have hn := rC.le
  unfold maxLen at hn
  generalize hR : mayQ q = R
  have HR := Go.Lib.hid hR
  clear hR
  have al : Below w.heap.size w (w.alloc (.cells #[.slice C n cap] 25)) := (Below.refl _ _).alloc (Nat.le_refl _) _
  have k := QAt.new w (.slice C n cap)
  have r1 := rC.below al
  clear rC
  go_enter Try.func26, Try.ntmps26
  go_upto_region 2 with (fail)
  generalize w.alloc (.cells #[.slice C n cap] 25) = w1 at *
  have k0 := k.c0
  have HOK := Go.Lib.hid hok
  clear hok
  by_cases h4 : 4 < n
  · have i1 : (4 : Int) < n := by omega
    have hR : R = 3 := by
      rw [← HR.out]
      unfold mayQ
      rw [LC.out, if_pos (.inl h4)]
    subst hR
    go_wp2_with fail
    go_ret
    exact ⟨rfl, al⟩
  have i1 : ¬ (4 : Int) < n := by omega
  have ca := may1_any w.heap.size 50 50 #[] #[] _ _ C n cap q w1 k0 r1 HOK.out (enters_of Try.func50 (by kernel_rfl) rfl) (enters_of Try.func50 (by kernel_rfl) rfl) (predL_many w1) (predL_many w1)
  rw [any_big] at ca
  generalize hbig : q.any bigC = R1 at *
  have HB := Go.Lib.hid hbig
  have CA := Go.Lib.hid ca
  clear hbig ca
  cases R1 with
  | true =>
    have hR : R = 3 := by
      rw [← HR.out]
      unfold mayQ
      rw [if_pos (.inr HB.out)]
    subst hR
    clear r1 k
    go_wp2_with (refine (CA.out).mono ?_; rintro e w2 ⟨rfl, b2⟩)
    go_ret
    exact ⟨rfl, below_chain al b2⟩
  | false =>
    go_upto_region 4 with (refine (CA.out).mono ?_; rintro e w2 ⟨rfl, b2⟩)
    have k2 := bcell b2 k0
    have r2 := r1.below b2
    have B2 := below_chain al b2
    clear r1 k k0 al b2 CA
    have d1 := Go.Lib.hid (notAll_any 52 w2)
    go_wp2_with (refine (d1.out).mono ?_; rintro e w3 ⟨rfl, x3, b3⟩)
    have d2 := Go.Lib.hid (notAll_any 53 w3)
    clear d1
    go_wp2_with (refine (d2.out).mono ?_; rintro e w4 ⟨rfl, x4, b4⟩)
    have x3' := bcell b4 x3
    have b34 := below_chain b3 b4
    have B4 := below_chain B2 b34
    have k4 := bcell b34 k2
    have r4 := r2.below b34
    have hm1 : ∀ W x, x.size ≤ maxLen → Calls Try.prog 52 #[.string x] W fun e w' => e = .returned (.bool (tagB x)) ∧ Below W.heap.size W w' := fun W x hx => mayTag_any x W (by unfold maxLen at hx; omega)
    have hm2 : ∀ W x, x.size ≤ maxLen → Calls Try.prog 53 #[.string x] W fun e w' => e = .returned (.bool (nameB x)) ∧ Below W.heap.size W w' := fun W x hx => may_any x W (by unfold maxLen at hx; omega)
    have cb := may1_any w.heap.size 70 70 #[.pointer (some ⟨w2.heap.size, 0, none⟩)] #[.pointer (some ⟨w3.heap.size, 0, none⟩)] _ _ C n cap q w4 k4 r4 HOK.out (enters_of Try.func70 (by kernel_rfl) rfl) (enters_of Try.func70 (by kernel_rfl) rfl)
      (predL_not w2.heap.size 52 tagB w4 x3' (enters_of Try.func52 (by kernel_rfl) rfl) hm1) (predL_not w3.heap.size 53 nameB w4 x4 (enters_of Try.func53 (by kernel_rfl) rfl) hm2)
    rw [any_names] at cb
    have h1 : ¬ (4 < q.length ∨ q.any bigC = true) := by
      rw [LC.out, HB.out]
      exact fun h => h.elim h4 (fun e => by cases e)
    have H1 := Go.Lib.hid h1
    clear h1
    generalize hnm : q.all namesC = R2 at *
    have HN := Go.Lib.hid hnm
    have CB := Go.Lib.hid cb
    clear hnm cb hm1 hm2 x3 x3' x4 b3 b4 d2 B2 k2 r2
    cases R2 with
    | false =>
      have hR : R = 5 := by
        rw [← HR.out]
        unfold mayQ
        rw [if_neg H1.out, if_pos HN.out]
      subst hR
      go_wp2_with (refine (CB.out).mono ?_; rintro e w5 ⟨rfl, b5⟩)
      go_ret
      exact ⟨rfl, below_chain B4 b5⟩
    | true =>
      go_upto_region 6 with (refine (CB.out).mono ?_; rintro e w5 ⟨rfl, b5⟩)
      have k5 := bcell b5 k4
      have r5 := r4.below b5
      have B5 := below_chain B4 b5
      have cd := may1_any w.heap.size 54 54 #[] #[] _ _ C n cap q w5 k5 r5 HOK.out (enters_of Try.func54 (by kernel_rfl) rfl) (enters_of Try.func54 (by kernel_rfl) rfl) (predL_rise w5) (predL_rise w5)
      rw [any_rises] at cd
      generalize hri : q.all riseC = R3 at *
      have HI := Go.Lib.hid hri
      have CD := Go.Lib.hid cd
      clear hri cd b5 CB k4 r4 B4
      cases R3 with
      | false =>
        have hR : R = 1 := by
          rw [← HR.out]
          unfold mayQ
          rw [if_neg H1.out, if_neg (by rw [HN.out]; exact fun e => by cases e), if_pos HI.out]
        subst hR
        go_wp2_with (refine (CD.out).mono ?_; rintro e w6 ⟨rfl, b6⟩)
        go_ret
        exact ⟨rfl, below_chain B5 b6⟩
      | true =>
        have hR : R = 0 := by
          rw [← HR.out]
          unfold mayQ
          rw [if_neg H1.out, if_neg (by rw [HN.out]; exact fun e => by cases e), if_neg (by rw [HI.out]; exact fun e => by cases e)]
        subst hR
        go_wp2_with (refine (CD.out).mono ?_; rintro e w6 ⟨rfl, b6⟩)
        go_ret
        exact ⟨rfl, below_chain B5 b6⟩

end Go.Proofs.Ytjgddlnfjmdnnaa.QuWalk

/-
  Contract of layer 7: Take.
-/
namespace Go.Proofs.Ytjgddlnfjmdnnaa.QeWalk
open Go.RowKit Go.Proofs.Ytjgddlnfjmdnnaa.MemRow Go.Proofs.Ytjgddlnfjmdnnaa.Ev Go.Proofs.Ytjgddlnfjmdnnaa.NameMath Go.Proofs.Ytjgddlnfjmdnnaa.NameWalk Go.Proofs.Ytjgddlnfjmdnnaa.EvWalk Go.Proofs.Ytjgddlnfjmdnnaa.NumMath Go.Proofs.Ytjgddlnfjmdnnaa.NumMem Go.Proofs.Ytjgddlnfjmdnnaa.NumWalk Go.Proofs.Ytjgddlnfjmdnnaa.Qu Go.Proofs.Ytjgddlnfjmdnnaa.QuWalk Go.Proofs.Ytjgddlnfjmdnnaa.QlLaw Go.Proofs.Ytjgddlnfjmdnnaa.QcWalk Go.Proofs.Ytjgddlnfjmdnnaa.QkLaw

/-- What stands while a query is taken: the reader, the result's cell, the reader as it was. -/
structure T7At (wr w : World) (g : Nat) (l : List UInt8) (b : Bool) (A : Option Addr) (n cap : Nat) (l0 : List UInt8) : Prop where
  rd : Rdr wr 72 g l b
  res : QAt wr w.heap.size (.slice none 0 0)
  wb : wr.heap[w.heap.size + 1]? = some (.cells #[.slice A n cap, .bool false] 72 (0, 0))
  rb : Rd wr A n cap l0
  old : Old A g
  gg : w.grownBy wr (some g)
  gw : g < w.heap.size
section
variable {wr w w' : World} {g n cap : Nat} {l l' l0 : List UInt8} {b b' : Bool} {A : Option Addr}
theorem T7At.wlt (h : T7At wr w g l b A n cap l0) : w.heap.size + 1 < wr.heap.size := (Array.getElem?_eq_some_iff.1 h.wb).1
theorem T7At.below (h : T7At wr w g l b A n cap l0) (hb : Below wr.heap.size wr w') : T7At w' w g l b A n cap l0 :=
  ⟨h.rd.below hb, h.res.below hb, (hb.block _ h.wlt).trans h.wb, h.rb.below hb, h.old, gr_below h.gg hb, h.gw⟩
theorem T7At.read (h : T7At wr w g l b A n cap l0) (hr : Rdr w' 72 g l' b') (hg : wr.grownBy w' (some g)) : T7At w' w g l' b' A n cap l0 := by
  have gw := h.gw
  exact ⟨hr, h.res.grown hg (by simp; omega), (hg.block _ h.wlt (by simp; omega)).trans h.wb, h.rb.grown hg h.rd.no_byte, h.old, gr_step' h.gg hg, gw⟩
theorem T7At.restore (h : T7At wr w g l b A n cap l0) : T7At ((wr.setCell ⟨g, 0, none⟩ (.slice A n cap)).setCell ⟨g, 1, none⟩ (.bool false)) w g l0 false A n cap l0 := by
  have hno := h.rd.no_byte
  obtain ⟨A1, n1, c1, hh, _, _⟩ := h.rd
  have s0 := grownSet wr g 0 (.slice A n cap)
  have s1 := grownSet (wr.setCell ⟨g, 0, none⟩ (.slice A n cap)) g 1 (.bool false)
  have r1 := (h.rb.grown s0 hno).grown s1 (two_no_byte (two_set0 hh) (by simp) (by simp))
  have hr : Rdr ((wr.setCell ⟨g, 0, none⟩ (.slice A n cap)).setCell ⟨g, 1, none⟩ (.bool false)) 72 g l0 false := ⟨A, n, cap, two_set1 (two_set0 hh), r1, h.old⟩
  exact h.read hr (gr_step' s0 s1)
theorem T7At.fin (h : T7At wr w g l b A n cap l0) (x : Value) : QAt (wr.setCell ⟨w.heap.size, 0, none⟩ x) w.heap.size x ∧ Rdr (wr.setCell ⟨w.heap.size, 0, none⟩ x) 72 g l b ∧ w.grownBy (wr.setCell ⟨w.heap.size, 0, none⟩ x) (some g) ∧ wr.grownBy (wr.setCell ⟨w.heap.size, 0, none⟩ x) (some w.heap.size) :=
  q_fin h.res h.rd h.gg h.gw x
end

set_option maxHeartbeats 4000000 in
set_option maxRecDepth 100000 in
theorem take7_any (g : Nat) (l : List UInt8) (w : World) (h : Rdr w 72 g l false) :
    Calls Try.prog 19 #[.pointer (some ⟨g, 0, none⟩)] w (TakeOutQ 72 l false g w) := by
  have gw := h.lt
  have HL := Go.Lib.hid (rdr_len h)
  have HD := Go.Lib.hid (takeQ_parQ l)
  have e1 := QAt.new w (.slice none 0 0)
  have b1 : Below w.heap.size w (w.alloc (.cells #[.slice none 0 0] 25)) := (Below.refl _ _).alloc (Nat.le_refl _) _
  have s1 : (w.alloc (.cells #[.slice none 0 0] 25)).heap.size = w.heap.size + 1 := by simp
  have h1 := h.below b1
  go_enter Try.func19, Try.ntmps19
  go_upto_region 1 with (fail)
  generalize w.alloc (.cells #[.slice none 0 0] 25) = w1 at *
  have h1' := h1
  obtain ⟨A, n, cap, hh, hr, ho⟩ := h1'
  obtain ⟨k0, k1, _⟩ := two_cell hh
  clear hh h
  go_upto_region 4 with (fail)
  have b2 : Below w1.heap.size w1 (w1.alloc (.cells #[.slice A n cap, .bool false] 72)) := (Below.refl _ _).alloc (Nat.le_refl _) _
  have t2 : T7At (w1.alloc (.cells #[.slice A n cap, .bool false] 72)) w g l false A n cap l :=
    ⟨h1.below b2, e1.below b2, by rw [← s1]; exact heap_alloc_new w1 _, hr.below b2, ho, gr_below (gr_below (gr_refl w g) b1) b2, gw⟩
  have s2 : (w1.alloc (.cells #[.slice A n cap, .bool false] 72)).heap.size = w.heap.size + 1 + 1 := by simp [s1]
  generalize w1.alloc (.cells #[.slice A n cap, .bool false] 72) = w2 at *
  clear b1 b2 h1 hr ho e1 k0 k1 s1
  go_wp2_with fail
  refine (qry7_any g l false w2 t2.rd (Dry.good l)).mono ?_
  rintro e w3 ⟨gg, ht⟩
  have s23 := gg.size
  rcases ht with ⟨q, l', HP, C, m, c, rfl, oK, r3⟩ | ⟨HP, rfl, l', b', r3⟩
  · have t3 := t2.read r3 gg
    have al : Below w3.heap.size w3 (w3.alloc (.cells #[.slice C m c] 25)) := (Below.refl _ _).alloc (Nat.le_refl _) _
    have e4 := QAt.new w3 (.slice C m c)
    have t4 := t3.below al
    have o4 := oK.below al
    have hok := parQ_ok HP.out HL.out
    have htk : takeQ l false = if mayQ q = 0 then some (q, l') else none := by
      have h9 := HD.out
      rw [HP.out] at h9
      exact h9
    have HTK := Go.Lib.hid htk
    clear t2 r3 gg t3 htk oK
    go_upto_region 5 with (fail)
    generalize hw4 : w3.alloc (.cells #[.slice C m c] 25) = w4 at *
    clear hw4 al
    have k0 := e4.c0
    go_wp2_with fail
    refine (mayQ_any _ q w4 ⟨C, m, c, rfl, o4.rd⟩ hok).mono ?_
    rintro e w5 ⟨rfl, b5⟩
    have t5 := t4.below b5
    have e5 := e4.below b5
    have o5 := o4.below b5
    clear t4 e4 o4 k0 b5 hok
    by_cases h0 : mayQ q = 0
    · rw [h0]
      have hyes : takeQ l false = some (q, l') := by rw [HTK.out, if_pos h0]
      have HY := Go.Lib.hid hyes
      clear hyes h0
      have k0 := e5.c0
      have r0 := t5.res.c0
      have z0 := t5.res.frozen 0
      have HFIN := Go.Lib.hid (t5.fin (.slice C m c))
      clear t5 e5
      go_wp2_with fail
      obtain ⟨E9, R9, G9, S9⟩ := HFIN.out
      have o9 := (o5.off S9 (by omega)).lower (base' := w.heap.size) (by omega)
      generalize w5.setCell ⟨w.heap.size, 0, none⟩ (.slice C m c) = w9 at *
      have q0 := E9.c0
      exact bodyPost_ret (v := .tuple #[.agg #[.slice C m c], .int .i64 0]) (by simp [results, Try.results19, go_sem, q0]) rfl ⟨G9, .inl ⟨_, _, HY.out, _, _, _, rfl, o9, R9⟩⟩
    · have hm0 : (mayQ q == 0) = false := by rw [beq_eq_false_iff_ne]; exact h0
      have hno : takeQ l false = none := by rw [HTK.out, if_neg h0]
      have HN := Go.Lib.hid hno
      clear hno h0 o5
      generalize mayQ q = MM at *
      go_wp2_with fail
      refine (bad_any g _ _ w5 t5.rd).mono ?_
      rintro e w' ⟨rfl, rfl⟩
      obtain ⟨A1, n1, c1, hh, _, _⟩ := t5.rd
      obtain ⟨x0, x1, xf⟩ := two_cell hh
      obtain ⟨y0, y1, _⟩ := two_cell t5.wb
      have f0 := xf 0
      have f1 := xf 1
      have tr := t5.restore
      clear hh xf
      go_upto_region 9 with (fail)
      generalize (w5.setCell ⟨g, 0, none⟩ (.slice A n cap)).setCell ⟨g, 1, none⟩ (.bool false) = wr at *
      clear x0 x1 y0 y1 f0 f1
      have r0 := tr.res.c0
      have z0 := tr.res.frozen 0
      have HFIN := Go.Lib.hid (tr.fin (.slice none 0 0))
      go_wp2_with fail
      obtain ⟨E9, R9, G9, S9⟩ := HFIN.out
      generalize wr.setCell ⟨w.heap.size, 0, none⟩ (.slice none 0 0) = w9 at *
      have q0 := E9.c0
      exact bodyPost_ret (v := .tuple #[.agg #[.slice none 0 0], .int .i64 2]) (by simp [results, Try.results19, go_sem, q0]) rfl ⟨G9, .inr ⟨HN.out, rfl, _, _, R9⟩⟩
  · have t3 := t2.read r3 gg
    have al : Below w3.heap.size w3 (w3.alloc (.cells #[.slice none 0 0] 25)) := (Below.refl _ _).alloc (Nat.le_refl _) _
    have t4 := t3.below al
    have hno : takeQ l false = none := by
      have h9 := HD.out
      rw [HP.out] at h9
      exact h9
    have HN := Go.Lib.hid hno
    clear hno t2 r3 gg t3
    go_upto_region 5 with (fail)
    generalize hw4 : w3.alloc (.cells #[.slice none 0 0] 25) = w4 at *
    clear hw4 al
    cases b' with
    | true =>
      go_wp2_with fail
      refine (bad_any g _ _ w4 t4.rd).mono ?_
      rintro e w' ⟨rfl, rfl⟩
      have r0 := t4.res.c0
      have z0 := t4.res.frozen 0
      have HFIN := Go.Lib.hid (t4.fin (.slice none 0 0))
      go_wp2_with fail
      obtain ⟨E9, R9, G9, S9⟩ := HFIN.out
      generalize w4.setCell ⟨w.heap.size, 0, none⟩ (.slice none 0 0) = w9 at *
      have q0 := E9.c0
      exact bodyPost_ret (v := .tuple #[.agg #[.slice none 0 0], .int .i64 2]) (by simp [results, Try.results19, go_sem, q0]) rfl ⟨G9, .inr ⟨HN.out, rfl, _, _, R9⟩⟩
    | false =>
      go_wp2_with fail
      refine (bad_any g _ _ w4 t4.rd).mono ?_
      rintro e w' ⟨rfl, rfl⟩
      obtain ⟨A1, n1, c1, hh, _, _⟩ := t4.rd
      obtain ⟨x0, x1, xf⟩ := two_cell hh
      obtain ⟨y0, y1, _⟩ := two_cell t4.wb
      have f0 := xf 0
      have f1 := xf 1
      have tr := t4.restore
      clear hh xf
      go_upto_region 9 with (fail)
      generalize (w4.setCell ⟨g, 0, none⟩ (.slice A n cap)).setCell ⟨g, 1, none⟩ (.bool false) = wr at *
      clear x0 x1 y0 y1 f0 f1
      have r0 := tr.res.c0
      have z0 := tr.res.frozen 0
      have HFIN := Go.Lib.hid (tr.fin (.slice none 0 0))
      go_wp2_with fail
      obtain ⟨E9, R9, G9, S9⟩ := HFIN.out
      generalize wr.setCell ⟨w.heap.size, 0, none⟩ (.slice none 0 0) = w9 at *
      have q0 := E9.c0
      exact bodyPost_ret (v := .tuple #[.agg #[.slice none 0 0], .int .i64 2]) (by simp [results, Try.results19, go_sem, q0]) rfl ⟨G9, .inr ⟨HN.out, rfl, _, _, R9⟩⟩

end Go.Proofs.Ytjgddlnfjmdnnaa.QeWalk

/-
  Contracts of the library's slices.Grow and slices.Concat, on bytes.
-/
namespace Go.Proofs.Ytjgddlnfjmdnnaa.EdWalk
open Go.RowKit Go.Proofs.Ytjgddlnfjmdnnaa.NumMath Go.Proofs.Ytjgddlnfjmdnnaa.NumMem Go.Proofs.Ytjgddlnfjmdnnaa.NumWalk

theorem u8_info_one : ∃ i, Try.prog.info? 5 = some i ∧ i.zero = some (.int .u8 0) ∧ i.size = 1 ∧ i.bytes = 1 := by
  have hi := u8_info
  cases hq : Try.prog.info? 5 with
  | none => simp [hq] at hi
  | some i => simp [hq] at hi; exact ⟨i, rfl, hi.1, hi.2.1, hi.2.2⟩

set_option maxHeartbeats 2000000 in
set_option maxRecDepth 100000 in
/-- Grow(nil, n): nothing, with room for n. -/
theorem grow_any (n : Nat) (w : World) (h0 : 0 < n) (hn : n ≤ 140737488355328) :
    Calls Try.prog 55 #[.slice none 0 0, .int .i64 n] w fun e w' => ∃ cap, e = .returned (.slice (some ⟨w.heap.size, 0, none⟩) 0 cap) ∧ Own w' w.heap.size 5 (some ⟨w.heap.size, 0, none⟩) 0 cap [] ∧ Below w.heap.size w w' := by
  obtain ⟨i, g1, g2, g3, g4⟩ := u8_info_one
  have hrz : ∀ ty, (Builtin.append_ #[22, 3] ty #[.slice none 0 0, .int .i64 n]).run Try.prog w = .ok (.slice (some ⟨w.heap.size, 0, none⟩) n (grownCap w n 0 5)) (w.drew.alloc (.cells (#[] ++ Builtin.zeroCells #[.int .u8 0] n ++ Builtin.zeroCells #[.int .u8 0] (grownCap w n 0 5 - n)) 5)) := fun ty => by
    have h := Lib.run_append_grow_zeros (P := Try.prog) w 22 3 ty 5 i (.int .u8 0) .i64 .i64 Try.underlying22 Try.underlying3 g1 g2 none 0 0 [] (by simp [Builtin.firstCells]) n h0 (by omega) (by omega) (by omega) (by rw [g4]; omega) (by
      rw [Nat.zero_add, g4]
      exact growslice_fits h0 (by omega))
    rw [Nat.zero_add] at h
    exact h
  have hge := grownCap_ge w n 0 5
  have hle := grownCap_le_maxLen w n 0 5 (by unfold maxLen; omega)
  obtain ⟨G, hG⟩ : ∃ G, G = grownCap w n 0 5 := ⟨_, rfl⟩
  rw [← hG] at hrz hge hle
  have own : Own (w.alloc (.cells (Builtin.zeroCells #[.int .u8 0] n ++ Builtin.zeroCells #[.int .u8 0] (G - n)) 5)).drew w.heap.size 5 (some ⟨w.heap.size, 0, none⟩) 0 G [] :=
    ⟨by simp [cellsOf], .inr ⟨w.heap.size, G, _, rfl, Nat.le_refl _, heap_alloc_new w _, Nat.zero_le _, hle, by simp only [Array.size_append, size_zeroCells]; simp; omega, by simp [cellsOf]⟩⟩
  have OWN := Go.Lib.hid own
  have bel : Below w.heap.size w (w.alloc (.cells (Builtin.zeroCells #[.int .u8 0] n ++ Builtin.zeroCells #[.int .u8 0] (G - n)) 5)).drew :=
    let h := (Below.refl w.heap.size w).alloc (Nat.le_refl _) (.cells (Builtin.zeroCells #[.int .u8 0] n ++ Builtin.zeroCells #[.int .u8 0] (G - n)) 5)
    ⟨h.os, h.tape, h.output, h.size, h.block⟩
  have BEL := Go.Lib.hid bel
  clear own bel hG
  unfold maxLen at hle
  go_enter Try.func55, Try.ntmps55
  go_wp2_with (at_builtin; refine Lib.wpList_append_run _ rfl _ _ _ _ rfl _ _ rfl rfl _ _ (hrz _) ?_)
  go_ret
  exact ⟨G, rfl, OWN.out, BEL.out⟩

set_option maxHeartbeats 4000000 in
set_option maxRecDepth 100000 in
/-- Concat of two. -/
theorem concat_any (g : Nat) (A B : Option Addr) (n ca m cb : Nat) (l k : List UInt8) (w : World) (c0 : w.cell? ⟨g, 0, none⟩ = some (.slice A n ca)) (c1 : w.cell? ⟨g, 1, none⟩ = some (.slice B m cb)) (hl : Rd w A n ca l) (hk : Rd w B m cb k) (h0 : 0 < n + m) (hs : n + m ≤ 1000000000) :
    Calls Try.prog 27 #[.slice (some ⟨g, 0, none⟩) 2 2] w fun e w' => ∃ A' c', e = .returned (.slice A' (n + m) c') ∧ Own w' w.heap.size 5 A' (n + m) c' (l ++ k) ∧ Below w.heap.size w w' := by
  go_enter Try.func27, Try.ntmps27
  go_wp2_with fail
  go_loopw [3, 5, 11] (fun sz _ i wr => ∃ j : Nat, j ≤ 2 ∧ i = .int .i64 j ∧ sz = .int .i64 ((if j = 0 then 0 else if j = 1 then n else n + m : Nat) : Int) ∧ w = wr) (fun _ _ i _ => 2 - (intOf i).toNat)
  case atStart => exact ⟨0, by omega, rfl, rfl, rfl⟩
  case round =>
    obtain ⟨j, hj, rfl, rfl, rfl⟩ := hrel
    obtain rfl | rfl | rfl : j = 0 ∨ j = 1 ∨ j = 2 := by omega
    · go_wp2_with fail
      go_roundw
      case rel => exact ⟨1, by omega, by go_num, by simp⟩
      case measure => simp [intOf]
    · go_wp2_with fail
      go_roundw
      case rel => exact ⟨2, by omega, by go_num, by simp⟩
      case measure => simp [intOf]
    · have e2 : (if (2 : Nat) = 0 then 0 else if (2 : Nat) = 1 then n else n + m) = n + m := rfl
      rw [e2]
      clear e2
      have ob : ∀ W, Below w.heap.size w W → W.cell? ⟨g, 0, none⟩ = some (.slice A n ca) ∧ W.cell? ⟨g, 1, none⟩ = some (.slice B m cb) ∧ Rd W A n ca l ∧ Rd W B m cb k := fun W h =>
        ⟨(h.cell (p := ⟨g, 0, none⟩) (World.block_lt_of_cell? w _ c0)).trans c0, (h.cell (p := ⟨g, 1, none⟩) (World.block_lt_of_cell? w _ c1)).trans c1, hl.below h, hk.below h⟩
      have OB := Go.Lib.hid ob
      have HL := Go.Lib.hid hl.len
      have HK := Go.Lib.hid hk.len
      clear ob c0 c1 hl hk
      go_wp2_with fail
      have cg := grow_any (n + m) w h0 (by omega)
      rw [show ((n + m : Nat) : Int) = (n : Int) + (m : Int) from by omega] at cg
      refine cg.mono ?_
      rintro e w2 ⟨cap, rfl, o2, b2⟩
      clear cg
      go_wp2_with fail
      go_loopw [6, 8, 27] (fun ns _ i wr => ∃ (j : Nat) (A' : Option Addr) (c' : Nat) (q : Nat) (x : List UInt8), j ≤ 2 ∧ i = .int .i64 j ∧ ns = .slice A' q c' ∧ Hid (q = (if j = 0 then 0 else if j = 1 then n else n + m) ∧ x = (if j = 0 then [] else if j = 1 then l else l ++ k)) ∧ Own wr w.heap.size 5 A' q c' x ∧ Below w.heap.size w wr) (fun _ _ i _ => 2 - (intOf i).toNat)
      case atStart => exact ⟨0, _, _, 0, [], by omega, rfl, rfl, Go.Lib.hid ⟨rfl, rfl⟩, o2, b2⟩
      case round =>
        obtain ⟨j, A', c', q, x, hj, rfl, rfl, HQ, oq, bq⟩ := hrel
        obtain ⟨k0, k1, r0, r1⟩ := OB.out wr bq
        clear o2 b2
        obtain rfl | rfl | rfl : j = 0 ∨ j = 1 ∨ j = 2 := by omega
        · have hq : q = 0 := HQ.out.1
          have hx : x = [] := HQ.out.2
          clear HQ
          rw [hq, hx] at oq
          rw [hq]
          clear hq hx
          have hsz : 0 + n ≤ 140737488355328 := by omega
          have bs := bq.size
          go_wp2_with (at_builtin; refine wpList_append_more rfl (.tmp 31) (.tmp 32) 22 rfl 5 Try.underlying22 u8_info rfl rfl oq r0 hsz bs w bq ?_; intro A3 c3 w3 o3 b3)
          go_roundw
          case rel => exact ⟨1, A3, c3, _, _, by omega, rfl, by simp, Go.Lib.hid ⟨rfl, rfl⟩, by simpa using o3, b3⟩
          case measure => simp [intOf]
        · have hq : q = n := HQ.out.1
          have hx : x = l := HQ.out.2
          clear HQ
          rw [hq, hx] at oq
          rw [hq]
          clear hq hx
          have hsz : n + m ≤ 140737488355328 := by omega
          have bs := bq.size
          go_wp2_with (at_builtin; refine wpList_append_more rfl (.tmp 31) (.tmp 32) 22 rfl 5 Try.underlying22 u8_info rfl rfl oq r1 hsz bs w bq ?_; intro A3 c3 w3 o3 b3)
          go_roundw
          case rel => exact ⟨2, A3, c3, _, _, by omega, rfl, by simp, Go.Lib.hid ⟨rfl, rfl⟩, o3, b3⟩
          case measure => simp [intOf]
        · have hq : q = n + m := HQ.out.1
          have hx : x = l ++ k := HQ.out.2
          clear HQ
          rw [hq, hx] at oq
          rw [hq]
          clear hq hx
          go_wp2_with fail
          go_ret
          exact ⟨A', c', rfl, oq, bq⟩

end Go.Proofs.Ytjgddlnfjmdnnaa.EdWalk

/-
  Contracts of layer 7: how a query is laid down; Put.
-/
namespace Go.Proofs.Ytjgddlnfjmdnnaa.QeWalk
open Go.RowKit Go.Proofs.Ytjgddlnfjmdnnaa.MemRow Go.Proofs.Ytjgddlnfjmdnnaa.Ev Go.Proofs.Ytjgddlnfjmdnnaa.NameMath Go.Proofs.Ytjgddlnfjmdnnaa.NameWalk Go.Proofs.Ytjgddlnfjmdnnaa.EvWalk Go.Proofs.Ytjgddlnfjmdnnaa.NumMath Go.Proofs.Ytjgddlnfjmdnnaa.NumMem Go.Proofs.Ytjgddlnfjmdnnaa.NumWalk Go.Proofs.Ytjgddlnfjmdnnaa.Qu Go.Proofs.Ytjgddlnfjmdnnaa.QuWalk Go.Proofs.Ytjgddlnfjmdnnaa.QlLaw Go.Proofs.Ytjgddlnfjmdnnaa.QcWalk Go.Proofs.Ytjgddlnfjmdnnaa.QkLaw

/-- Bytes that a call came to. -/
def Bytes (l : List UInt8) (w : World) (e : Ending) (w' : World) : Prop :=
  ∃ (A : Option Addr) (c : Nat) (l' : List UInt8), Hid (l' = l) ∧ e = .returned (.slice A l'.length c) ∧ Rd w' A l'.length c l' ∧ Below w.heap.size w w'

theorem putN_any (A : Option Addr) (n cap : Nat) (l : List UInt8) (x : Int) (w : World) (h : Rd w A n cap l) (hx : -9223372036854775808 ≤ x ∧ x ≤ 9223372036854775807) (hn : l.length ≤ 10000000) :
    Calls Try.prog 60 #[.slice A n cap, .int .i64 x] w (Bytes (l ++ enc x) w) := by
  have hl := h.len
  have hel := enc_le x hx.1 hx.2
  refine (put_any A n cap l x w h hx.1 hx.2 (by omega)).mono ?_
  rintro e w' ⟨rfl, hr, hb⟩
  have e1 : n + (enc x).length = (l ++ enc x).length := by rw [List.length_append, hl]
  rw [e1]
  exact ⟨_, _, _, Go.Lib.hid rfl, rfl, hr.rd (by rw [List.length_append]; unfold maxLen; omega), hb⟩
theorem putX_any (A : Option Addr) (n cap : Nat) (l : List UInt8) (s : ByteArray) (w : World) (h : Rd w A n cap l) (hs : s.size ≤ 1000) (hn : l.length ≤ 10000000) :
    Calls Try.prog 61 #[.slice A n cap, .string s] w (Bytes (l ++ txt s) w) := by
  have hl := h.len
  have hel := txt_le hs
  refine (putText_any A n cap l s w h (by omega) (by omega)).mono ?_
  rintro e w' ⟨rfl, hr, hb⟩
  have e1 : n + ((enc (s.size : Int)).length + s.size) = (l ++ txt s).length := by rw [List.length_append, txt_len, hl]
  rw [List.append_assoc] at hr
  rw [e1]
  exact ⟨_, _, _, Go.Lib.hid rfl, rfl, hr.rd (by rw [List.length_append]; unfold maxLen; unfold txt at hel; omega), hb⟩

set_option maxHeartbeats 2000000 in
set_option maxRecDepth 100000 in
theorem putS_any (A : Option Addr) (n cap : Nat) (l : List UInt8) (T : Option Addr) (nT cT : Nat) (ss : List ByteArray) (w : World) (h : Rd w A n cap l) (hl : l.length ≤ 5000000) (hT : RdS w T nT cT ss) (hs : FewT ss) :
    Calls Try.prog 76 #[.slice A n cap, .slice T nT cT, .func (.func 61) #[] #[]] w (Bytes (l ++ encT ss) w) := by
  have LT := Go.Lib.hid (RdS.len hT)
  have HS := Go.Lib.hid hs
  have hnT : nT ≤ 4 := by rw [← LT.out]; exact hs.1
  clear hs
  go_enter Try.func76, Try.ntmps76
  have hxT : -9223372036854775808 ≤ (nT : Int) ∧ (nT : Int) ≤ 9223372036854775807 := by omega
  have hl' : l.length ≤ 10000000 := by omega
  go_wp2_with fail
  refine (putN_any A n cap l (nT : Int) w h hxT hl').mono ?_
  rintro e w1 ⟨A1, c1, l1, H1, rfl, r1, b1⟩
  have e1 : l1 = l ++ (enc (ss.length : Int) ++ txts (ss.take 0)) := by
    rw [H1.out, LT.out]
    simp [txts]
  have HE1 := Go.Lib.hid e1
  clear e1 hxT
  go_wp2_with fail
  go_loopw [0, 8, 15] (fun o _ i wr => ∃ (j : Nat) (A' : Option Addr) (c' : Nat) (l' : List UInt8), j ≤ nT ∧ o = .slice A' l'.length c' ∧ i = .int .i64 j ∧ Hid (l' = l ++ (enc (ss.length : Int) ++ txts (ss.take j))) ∧ Rd wr A' l'.length c' l' ∧ Below w.heap.size w wr) (fun _ _ i _ => nT - (intOf i).toNat)
  case atStart => exact ⟨0, A1, c1, l1, Nat.zero_le _, rfl, rfl, HE1, r1, b1⟩
  case round =>
    obtain ⟨j, A', c', l', hj, rfl, rfl, HQ, oq, Bq⟩ := hrel
    have hlq : l'.length ≤ 10000000 := by
      have h1 := few_head HS.out j
      rw [HQ.out, List.length_append]
      omega
    by_cases hlt : j < nT
    · obtain ⟨bt, ot, rfl, _, kt⟩ := RdS.at_ (RdC.below hT Bq) (by omega)
      have ka1 := kt j hlt
      have i1 : (j : Int) < nT := by omega
      have hjl : j < ss.length := by rw [LT.out]; exact hlt
      have ta := take_get ss j hjl
      have hy := HS.out.2 _ (mem_getD ss j hjl)
      have TA := Go.Lib.hid ta
      clear kt ta hjl
      generalize ss.getD j ByteArray.empty = y at *
      go_wp2_with fail
      refine (putX_any A' l'.length c' l' y wr oq hy hlq).mono ?_
      rintro e w6 ⟨A6, c6, l6, H6, rfl, r6, b6⟩
      have B6 := below_chain Bq b6
      have H7 : Hid (l6 = l ++ (enc (ss.length : Int) ++ txts (ss.take (j + 1)))) := Go.Lib.hid (by rw [H6.out, HQ.out, TA.out, txts_snoc]; simp only [List.append_assoc])
      clear ka1
      go_wp2_with fail
      go_roundw
      case rel => exact ⟨j + 1, A6, c6, l6, by omega, rfl, by go_num, H7, r6, B6⟩
      case measure => simp [intOf]; omega
    · obtain rfl : nT = j := by omega
      have hf : l' = l ++ encT ss := by
        rw [HQ.out, List.take_of_length_le (by rw [LT.out]; exact Nat.le_refl _), encT]
      have HF := Go.Lib.hid hf
      clear hf
      go_wp2_with fail
      go_ret
      exact ⟨A', c', l', HF, rfl, oq, Bq⟩

set_option maxHeartbeats 2000000 in
set_option maxRecDepth 100000 in
theorem putCl_any (A : Option Addr) (n cap : Nat) (l : List UInt8) (T : Option Addr) (nT cT : Nat) (Y : Option Addr) (nY cY : Nat) (c : Cl) (w : World) (h : Rd w A n cap l) (hl : l.length ≤ 4000000) (hT : RdS w T nT cT c.tags) (hY : RdS w Y nY cY c.types) (hs : FewC c) :
    Calls Try.prog 57 #[.slice A n cap, .agg #[.slice T nT cT, .slice Y nY cY]] w (Bytes (l ++ encC c) w) := by
  have B1 : Below w.heap.size w (w.alloc (.cells #[.slice T nT cT, .slice Y nY cY] 60)) := (Below.refl _ _).alloc (Nat.le_refl _) _
  have E1 := ClAt.new w (.slice T nT cT) (.slice Y nY cY)
  have hfT := hs.1
  have hfY := hs.2
  have HT := Go.Lib.hid (encT_le hfT)
  have hl2 : l.length ≤ 5000000 := by omega
  go_enter Try.func57, Try.ntmps57
  go_upto_region 1 with (fail)
  have r1 := h.below B1
  have t1 : RdS _ _ _ _ _ := RdC.below hT B1
  have y1 : RdS _ _ _ _ _ := RdC.below hY B1
  generalize w.alloc (.cells #[.slice T nT cT, .slice Y nY cY] 60) = w1 at *
  have k0 := E1.c0
  have k1 := E1.c1
  have b0 : Below w1.heap.size w1 w1.drew := bel_drew (Below.refl _ _)
  have rd := r1.below b0
  have td : RdS _ _ _ _ _ := RdC.below t1 b0
  go_wp2_with fail
  go_region_held (fun w' => w'.cell? ⟨w.heap.size, 0, none⟩ = some (.slice T nT cT) ∧ w'.cell? ⟨w.heap.size, 1, none⟩ = some (.slice Y nY cY))
    (first | exact ⟨k0, k1⟩ | exact ⟨bcell b8 k0, bcell b8 k1⟩ | exact ⟨bcell b9 k0, bcell b9 k1⟩)
    (first
      | (go_at_call 76; refine (putS_any A8 l8.length c8 l8 Y nY cY c.types w8 o8 hl8 (RdC.below y1 b8) hfY).mono ?_; rintro e w9 ⟨A9, c9, l9, H9, rfl, o9, bb⟩; have b9 := below_chain b8 bb; clear bb)
      | (go_at_call 76; refine (putS_any A n cap l T nT cT c.tags w1.drew rd hl2 td hfT).mono ?_; rintro e w8 ⟨A8, c8, l8, H8, rfl, o8, bb⟩; have b8 := below_chain b0 bb; have hl8 : l8.length ≤ 5000000 := (by rw [H8.out, List.length_append]; have := HT.out; omega); clear bb))
  have B9 := below_chain B1 b9
  have H10 : Hid (l9 = l ++ encC c) := Go.Lib.hid (by rw [H9.out, H8.out, encC]; simp only [List.append_assoc])
  clear k0 k1 b0 rd
  go_wp2_with fail
  go_ret
  exact ⟨A9, c9, l9, H10, rfl, o9, B9⟩

set_option maxHeartbeats 2000000 in
set_option maxRecDepth 100000 in
theorem putC_any (A : Option Addr) (n cap : Nat) (l : List UInt8) (C : Option Addr) (nC cC : Nat) (q : List Cl) (w : World) (h : Rd w A n cap l) (hl : l.length ≤ 1000000) (hC : RdQ w C nC cC q) (hs : FewQs q) :
    Calls Try.prog 56 #[.slice A n cap, .slice C nC cC, .func (.func 57) #[] #[]] w (Bytes (l ++ encQ q) w) := by
  have LC := Go.Lib.hid hC.len
  have SM := Go.Lib.hid hs
  have hnC : nC ≤ 4 := by rw [← LC.out]; exact hs.1
  clear hs
  go_enter Try.func56, Try.ntmps56
  have hxC : -9223372036854775808 ≤ (nC : Int) ∧ (nC : Int) ≤ 9223372036854775807 := by omega
  have hl' : l.length ≤ 10000000 := by omega
  go_wp2_with fail
  refine (putN_any A n cap l (nC : Int) w h hxC hl').mono ?_
  rintro e w1 ⟨A1, c1, l1, H1, rfl, r1, b1⟩
  have e1 : l1 = l ++ (enc (q.length : Int) ++ clsE (q.take 0)) := by
    rw [H1.out, LC.out]
    simp [clsE]
  have HE1 := Go.Lib.hid e1
  clear e1 hxC
  go_wp2_with fail
  go_loopw [0, 8, 15] (fun o _ i wr => ∃ (j : Nat) (A' : Option Addr) (c' : Nat) (l' : List UInt8), j ≤ nC ∧ o = .slice A' l'.length c' ∧ i = .int .i64 j ∧ Hid (l' = l ++ (enc (q.length : Int) ++ clsE (q.take j))) ∧ Rd wr A' l'.length c' l' ∧ Below w.heap.size w wr) (fun _ _ i _ => nC - (intOf i).toNat)
  case atStart => exact ⟨0, A1, c1, l1, Nat.zero_le _, rfl, rfl, HE1, r1, b1⟩
  case round =>
    obtain ⟨j, A', c', l', hj, rfl, rfl, HQ, oq, Bq⟩ := hrel
    have hlq : l'.length ≤ 4000000 := by
      have h1 := cls_head SM.out j
      rw [HQ.out, List.length_append]
      omega
    by_cases hlt : j < nC
    · obtain ⟨bt, ot, rfl, _, kt⟩ := (hC.below Bq).at_ (by omega)
      obtain ⟨T, nT, cT, Y, nY, cY, x0, x1, rT, rY⟩ := kt j hlt
      have i1 : (j : Int) < nC := by omega
      have hjl : j < q.length := by rw [LC.out]; exact hlt
      have TA := Go.Lib.hid (cl_take q j hjl)
      have hfc := SM.out.2 _ (cl_get hjl)
      clear kt hjl
      generalize q.getD j noCl = c at *
      go_upto_region 5 with (fail)
      have al : Below wr.heap.size wr (wr.alloc (.cells #[.slice T nT cT, .slice Y nY cY] 60)) := (Below.refl _ _).alloc (Nat.le_refl _) _
      have E1 := ClAt.new wr (.slice T nT cT) (.slice Y nY cY)
      have oq1 := oq.below al
      have B2 := below_chain Bq al
      have rT1 : RdS _ _ _ _ _ := RdC.below rT al
      have rY1 : RdS _ _ _ _ _ := RdC.below rY al
      generalize wr.alloc (.cells #[.slice T nT cT, .slice Y nY cY] 60) = w2 at *
      have k0 := E1.c0
      have k1 := E1.c1
      clear x0 x1 oq rT rY al
      go_wp2_with fail
      refine (putCl_any A' l'.length c' l' T nT cT Y nY cY c w2 oq1 hlq rT1 rY1 hfc).mono ?_
      rintro e w6 ⟨A6, c6, l6, H6, rfl, r6, b6⟩
      have B6 := below_chain B2 b6
      have H7 : Hid (l6 = l ++ (enc (q.length : Int) ++ clsE (q.take (j + 1)))) := Go.Lib.hid (by rw [H6.out, HQ.out, TA.out, clsE_snoc]; simp only [List.append_assoc])
      clear k0 k1 E1
      go_wp2_with fail
      go_roundw
      case rel => exact ⟨j + 1, A6, c6, l6, by omega, rfl, by go_num, H7, r6, B6⟩
      case measure => simp [intOf]; omega
    · obtain rfl : nC = j := by omega
      have hf : l' = l ++ encQ q := by
        rw [HQ.out, List.take_of_length_le (by rw [LC.out]; exact Nat.le_refl _), encQ]
      have HF := Go.Lib.hid hf
      clear hf
      go_wp2_with fail
      go_ret
      exact ⟨A', c', l', HF, rfl, oq, Bq⟩

set_option maxHeartbeats 2000000 in
set_option maxRecDepth 100000 in
theorem putQy_any (A : Option Addr) (n cap : Nat) (l : List UInt8) (C : Option Addr) (nC cC : Nat) (q : List Cl) (w : World) (h : Rd w A n cap l) (hl : l.length ≤ 1000000) (hC : RdQ w C nC cC q) (hs : FewQs q) :
    Calls Try.prog 28 #[.slice A n cap, .agg #[.slice C nC cC]] w (Bytes (l ++ encQ q) w) := by
  have B1 : Below w.heap.size w (w.alloc (.cells #[.slice C nC cC] 25)) := (Below.refl _ _).alloc (Nat.le_refl _) _
  have E1 := QAt.new w (.slice C nC cC)
  go_enter Try.func28, Try.ntmps28
  go_upto_region 1 with (fail)
  generalize w.alloc (.cells #[.slice C nC cC] 25) = w1 at *
  have k0 := E1.c0
  go_wp2_with fail
  refine (putC_any A n cap l C nC cC q w1 (h.below B1) hl (hC.below B1) hs).mono ?_
  rintro e w2 ⟨A2, c2, l2, H2, rfl, r2, b2⟩
  have B2 := below_chain B1 b2
  clear k0 E1
  go_wp2_with fail
  go_ret
  exact ⟨A2, c2, l2, H2, rfl, r2, B2⟩

theorem encQ_pos (q : List Cl) : 1 ≤ (encQ q).length := by
  have h := enc_pos (q.length : Int)
  unfold encQ
  rw [List.length_append]
  omega

set_option maxHeartbeats 4000000 in
set_option maxRecDepth 100000 in
theorem put7_any (A : Option Addr) (n cap : Nat) (l : List UInt8) (v : Value) (q : List Cl) (w : World) (h : Rd w A n cap l) (hl : l.length ≤ 1000) (hv : IsQ w v q) (hok : QOk q) :
    Calls Try.prog 10 #[.slice A n cap, v] w (PutOne l q w) := by
  have hv0 := hv
  obtain ⟨C, nC, cC, rfl, hC⟩ := hv
  have LL := Go.Lib.hid h.len
  have B1 : Below w.heap.size w (w.alloc (.cells #[.slice C nC cC] 25)) := (Below.refl _ _).alloc (Nat.le_refl _) _
  have E1 := QAt.new w (.slice C nC cC)
  go_enter Try.func10, Try.ntmps10
  go_upto_region 1 with (fail)
  generalize w.alloc (.cells #[.slice C nC cC] 25) = w1 at *
  have k0 := E1.c0
  go_wp2_with fail
  refine (mayQ_any _ q w1 (hv0.below B1) hok).mono ?_
  rintro e w2 ⟨rfl, b2⟩
  have E2 := E1.below b2
  have B2 := below_chain B1 b2
  clear k0 E1 B1 b2
  by_cases h0 : mayQ q = 0
  case neg =>
    have m0 : (mayQ q != 0) = true := by rw [bne_iff_ne]; exact h0
    go_wp2_with fail
    go_ret2
    exact ⟨none, 0, 0, [], rfl, Rd.nil _, Go.Lib.hid (by rw [if_neg h0]), B2⟩
  have HPO : Hid (mayQ q = 0) := Go.Lib.hid h0
  rw [h0]
  have SM := Go.Lib.hid (may_few h0)
  clear h0
  have k0 := E2.c0
  go_wp2_with fail
  refine (putQy_any none 0 0 [] C nC cC q w2 (Rd.nil _) (by simp) (hC.below B2) SM.out).mono ?_
  rintro e w3 ⟨A3, c3, l3, H3, rfl, r3, b3⟩
  have B3 := below_chain B2 b3
  have r0 := h.below B3
  rw [List.nil_append] at H3
  have h30 : 0 < n + l3.length := by rw [H3.out]; have := encQ_pos q; omega
  have h31 : n + l3.length ≤ 1000000000 := by rw [H3.out]; have := encQ_le SM.out; have := LL.out; omega
  clear k0 E2 B2 b3
  go_wp2_with fail
  have al : Below w3.heap.size w3 (w3.alloc (.cells #[.slice A n cap, .slice A3 l3.length c3] 22)) := (Below.refl _ _).alloc (Nat.le_refl _) _
  have q0 : (w3.alloc (.cells #[.slice A n cap, .slice A3 l3.length c3] 22)).cell? ⟨w3.heap.size, 0, none⟩ = some (.slice A n cap) := by rw [cell_of_row _ w3.heap.size 0 _ _ _ (heap_alloc_new w3 _)]; rfl
  have q1 : (w3.alloc (.cells #[.slice A n cap, .slice A3 l3.length c3] 22)).cell? ⟨w3.heap.size, 1, none⟩ = some (.slice A3 l3.length c3) := by rw [cell_of_row _ w3.heap.size 1 _ _ _ (heap_alloc_new w3 _)]; rfl
  refine (Go.Proofs.Ytjgddlnfjmdnnaa.EdWalk.concat_any w3.heap.size A A3 n cap l3.length c3 l l3 _ q0 q1 (r0.below al) (r3.below al) h30 h31).mono ?_
  rintro e w4 ⟨A4, c4, rfl, o4, b4⟩
  have B4 := below_chain (below_chain B3 al) b4
  have O4 := Go.Lib.hid o4
  clear q0 q1 r0 r3 al
  go_wp2_with fail
  go_ret2
  exact ⟨A4, n + l3.length, c4, l ++ l3, by rw [HPO.out]; rfl, O4.out.rd, Go.Lib.hid (by rw [if_pos HPO.out, H3.out]), B4⟩

end Go.Proofs.Ytjgddlnfjmdnnaa.QeWalk

/-
  Contracts of layer 7: mayField, MayDef.
-/
namespace Go.Proofs.Ytjgddlnfjmdnnaa.QeWalk
open Go.RowKit Go.Proofs.Ytjgddlnfjmdnnaa.MemRow Go.Proofs.Ytjgddlnfjmdnnaa.Ev Go.Proofs.Ytjgddlnfjmdnnaa.NameMath Go.Proofs.Ytjgddlnfjmdnnaa.NameWalk Go.Proofs.Ytjgddlnfjmdnnaa.EvWalk Go.Proofs.Ytjgddlnfjmdnnaa.NumMath Go.Proofs.Ytjgddlnfjmdnnaa.NumMem Go.Proofs.Ytjgddlnfjmdnnaa.NumWalk Go.Proofs.Ytjgddlnfjmdnnaa.Qu Go.Proofs.Ytjgddlnfjmdnnaa.QuWalk Go.Proofs.Ytjgddlnfjmdnnaa.QlLaw Go.Proofs.Ytjgddlnfjmdnnaa.QcWalk Go.Proofs.Ytjgddlnfjmdnnaa.QkLaw

set_option maxHeartbeats 2000000 in
set_option maxRecDepth 100000 in
theorem mayF_any (d : Df) (A : Option Addr) (n ca : Nat) (w : World) (hf : d.f.size ≤ maxLen) :
    Calls Try.prog 35 #[.agg #[.int .i64 d.k, .string d.f, .slice A n ca]] w fun e w' => e = .returned (.bool (!badF d)) ∧ Below w.heap.size w w' := by
  have B1 : Below w.heap.size w (w.alloc (.cells #[.int .i64 d.k, .string d.f, .slice A n ca] 36)) := (Below.refl _ _).alloc (Nat.le_refl _) _
  have E1 := DAt.new w (.int .i64 d.k) (.string d.f) (.slice A n ca)
  have hR0 : badF d = if fieldD d.k = true then !nameB d.f else decide (d.f.size ≠ 0) := rfl
  generalize badF d = R at *
  obtain ⟨k, f, q⟩ := d
  simp only at *
  go_enter Try.func35, Try.ntmps35
  go_upto_region 1 with (fail)
  generalize w.alloc (.cells #[.int .i64 k, .string f, .slice A n ca] 36) = w1 at *
  have k0 := E1.c0
  have k1 := E1.c1
  have hnb : may f.data.toList = nameB f := rfl
  by_cases h2 : k = 2
  · subst h2
    have hf2 : fieldD 2 = true := rfl
    rw [hf2, if_pos rfl] at hR0
    clear hf2
    go_wp2_with fail
    refine (may_any f w1 (by unfold maxLen at hf; omega)).mono ?_
    rintro e w2 ⟨rfl, b2⟩
    rw [hnb]
    have B2 := below_chain B1 b2
    generalize nameB f = F at *
    subst hR0
    clear k0 k1 hnb
    go_wp2_with fail
    go_ret
    exact ⟨by rw [Bool.not_not]; rfl, B2⟩
  · have e2 : (k == 2) = false := by rw [beq_eq_false_iff_ne]; exact h2
    by_cases h3 : k = 3
    · subst h3
      have hf2 : fieldD 3 = true := rfl
      rw [hf2, if_pos rfl] at hR0
      clear hf2
      go_wp2_with fail
      refine (may_any f w1 (by unfold maxLen at hf; omega)).mono ?_
      rintro e w2 ⟨rfl, b2⟩
      rw [hnb]
      have B2 := below_chain B1 b2
      generalize nameB f = F at *
      subst hR0
      clear k0 k1 hnb
      go_wp2_with fail
      go_ret
      exact ⟨by rw [Bool.not_not]; rfl, B2⟩
    · have e3 : (k == 3) = false := by rw [beq_eq_false_iff_ne]; exact h3
      have hf2 : fieldD k = false := by unfold fieldD; rw [e2, e3]; rfl
      rw [hf2] at hR0
      simp only [Bool.false_eq_true, if_false] at hR0
      clear hf2 hnb h2 h3
      by_cases hz : f.size = 0
      · obtain rfl := str_eq0 hz
        obtain rfl : R = false := hR0
        clear hz
        go_wp2_with fail
        go_ret
        exact ⟨rfl, B1⟩
      · have n0 := str_ne0 hz
        have n1 : f.toList.isEmpty = false := str_full hz
        have hd : decide (f.size ≠ 0) = true := decide_eq_true hz
        rw [hd] at hR0
        subst hR0
        clear hd
        go_wp2_with fail
        go_ret
        exact ⟨by first | rfl | simp [n0] | simp [n1], B1⟩

set_option maxHeartbeats 2000000 in
set_option maxRecDepth 100000 in
theorem mayD_any (v : Value) (d : Df) (w : World) (hv : IsD w v d) (hok : DfOk d) :
    Calls Try.prog 16 #[v] w fun e w' => e = .returned (.int .i64 (mayD d)) ∧ Below w.heap.size w w' := by
  obtain ⟨A, n, ca, rfl, hq⟩ := hv
  have B1 : Below w.heap.size w (w.alloc (.cells #[.int .i64 d.k, .string d.f, .slice A n ca] 36)) := (Below.refl _ _).alloc (Nat.le_refl _) _
  have E1 := DAt.new w (.int .i64 d.k) (.string d.f) (.slice A n ca)
  have hq1 := hq.below B1
  generalize hR : mayD d = R
  have HR0 := Go.Lib.hid hR
  clear hR
  go_enter Try.func16, Try.ntmps16
  go_upto_region 1 with (fail)
  generalize w.alloc (.cells #[.int .i64 d.k, .string d.f, .slice A n ca] 36) = w1 at *
  have k0 := E1.c0
  have k1 := E1.c1
  have k2 := E1.c2
  by_cases hk : d.k < 1 ∨ 4 < d.k
  · have hr : R = 1 := by rw [← HR0.out]; unfold mayD; rw [if_pos hk]
    subst hr
    clear HR0
    generalize d.k = k at *
    rcases hk with hk | hk
    · go_wp2_with fail
      go_ret
      exact ⟨rfl, B1⟩
    · have hk1 : ¬ k < 1 := by omega
      go_wp2_with fail
      go_ret
      exact ⟨rfl, B1⟩
  have hk1 : ¬ d.k < 1 := fun h => hk (.inl h)
  have hk4 : ¬ 4 < d.k := fun h => hk (.inr h)
  have HKK := Go.Lib.hid hk
  clear hk
  have hb := hok.f
  go_wp2_with fail
  refine (mayQ_any _ d.q w1 ⟨A, n, ca, rfl, hq1⟩ hok.q).mono ?_
  rintro e w2 ⟨rfl, b2⟩
  have E2 := E1.below b2
  have B2 := below_chain B1 b2
  clear k0 k1 k2 E1 B1 b2 hk1 hk4 hq1
  by_cases hm : mayQ d.q = 0
  case neg =>
    have hr : mayQ d.q = R := by rw [← HR0.out]; unfold mayD; rw [if_neg HKK.out, if_pos hm]
    rw [hr] at hm ⊢
    clear HR0 hr
    have m0 : (R != 0) = true := by rw [bne_iff_ne]; exact hm
    clear hm
    go_wp2_with fail
    go_ret
    exact ⟨rfl, B2⟩
  have HR := Go.Lib.hid (HR0.out.symm.trans (mayD_in HKK.out hm))
  clear HR0
  rw [hm]
  have k0 := E2.c0
  have k1 := E2.c1
  have k2 := E2.c2
  go_wp2_with fail
  refine (mayF_any d A n ca w2 hb).mono ?_
  rintro e w3 ⟨rfl, b3⟩
  have B3 := below_chain B2 b3
  clear k0 k1 k2 E2 B2 b3 hm
  have hr := HR.out
  clear HR HKK
  generalize badF d = F at *
  cases F with
  | true =>
    obtain rfl : R = 5 := hr
    go_wp2_with fail
    go_ret
    exact ⟨rfl, B3⟩
  | false =>
    obtain rfl : R = 0 := hr
    go_wp2_with fail
    go_ret
    exact ⟨rfl, B3⟩

end Go.Proofs.Ytjgddlnfjmdnnaa.QeWalk

/-
  Contracts of layer 7: how projections are laid down; PutDefs.
-/
namespace Go.Proofs.Ytjgddlnfjmdnnaa.QeWalk
open Go.RowKit Go.Proofs.Ytjgddlnfjmdnnaa.MemRow Go.Proofs.Ytjgddlnfjmdnnaa.Ev Go.Proofs.Ytjgddlnfjmdnnaa.NameMath Go.Proofs.Ytjgddlnfjmdnnaa.NameWalk Go.Proofs.Ytjgddlnfjmdnnaa.EvWalk Go.Proofs.Ytjgddlnfjmdnnaa.NumMath Go.Proofs.Ytjgddlnfjmdnnaa.NumMem Go.Proofs.Ytjgddlnfjmdnnaa.NumWalk Go.Proofs.Ytjgddlnfjmdnnaa.Qu Go.Proofs.Ytjgddlnfjmdnnaa.QuWalk Go.Proofs.Ytjgddlnfjmdnnaa.QlLaw Go.Proofs.Ytjgddlnfjmdnnaa.QcWalk Go.Proofs.Ytjgddlnfjmdnnaa.QkLaw

set_option maxHeartbeats 2000000 in
set_option maxRecDepth 100000 in
theorem putDf_any (A : Option Addr) (n cap : Nat) (l : List UInt8) (C : Option Addr) (nC cC : Nat) (d : Df) (w : World) (h : Rd w A n cap l) (hl : l.length ≤ 200000) (hC : RdQ w C nC cC d.q) (hm : mayD d = 0) :
    Calls Try.prog 33 #[.slice A n cap, .agg #[.int .i64 d.k, .string d.f, .slice C nC cC]] w (Bytes (l ++ encD d) w) := by
  have B1 : Below w.heap.size w (w.alloc (.cells #[.int .i64 d.k, .string d.f, .slice C nC cC] 36)) := (Below.refl _ _).alloc (Nat.le_refl _) _
  have E1 := DAt.new w (.int .i64 d.k) (.string d.f) (.slice C nC cC)
  obtain ⟨q1, q2, q3, q4⟩ := mayD_zero hm
  have HF := Go.Lib.hid (may_few q3)
  have hzk : -9223372036854775808 ≤ d.k ∧ d.k ≤ 9223372036854775807 := by omega
  have hzf : d.f.size ≤ 1000 := by omega
  have hl2 : l.length ≤ 10000000 := by omega
  clear hm q1 q2 q3 q4
  go_enter Try.func33, Try.ntmps33
  go_upto_region 1 with (fail)
  have r1 := h.below B1
  have c1 := hC.below B1
  generalize w.alloc (.cells #[.int .i64 d.k, .string d.f, .slice C nC cC] 36) = w1 at *
  have k0 := E1.c0
  have k1 := E1.c1
  have k2 := E1.c2
  have b0 : Below w1.heap.size w1 w1.drew := bel_drew (Below.refl _ _)
  have rd := r1.below b0
  clear r1 h hC E1
  go_wp2_with fail
  go_region_held (fun w' => w'.cell? ⟨w.heap.size, 0, none⟩ = some (.int .i64 d.k) ∧ w'.cell? ⟨w.heap.size, 1, none⟩ = some (.string d.f) ∧ w'.cell? ⟨w.heap.size, 2, none⟩ = some (.slice C nC cC))
    (first | exact ⟨k0, k1, k2⟩ | exact ⟨bcell b7 k0, bcell b7 k1, bcell b7 k2⟩ | exact ⟨bcell b8 k0, bcell b8 k1, bcell b8 k2⟩ | exact ⟨bcell b9 k0, bcell b9 k1, bcell b9 k2⟩)
    (first
      | (go_at_call 28; refine (putQy_any A8 l8.length c8 l8 C nC cC d.q w8 o8 hl8 (c1.below b8) HF.out).mono ?_; rintro e w9 ⟨A9, c9, l9, H9, rfl, o9, bb⟩; have b9 := below_chain b8 bb; clear bb)
      | (go_at_call 61; refine (putX_any A7 l7.length c7 l7 d.f w7 o7 hzf hl7).mono ?_; rintro e w8 ⟨A8, c8, l8, H8, rfl, o8, bb⟩; have b8 := below_chain b7 bb; have hl8 : l8.length ≤ 1000000 := (by have := txt_le hzf; rw [H8.out, List.length_append]; omega); clear bb)
      | (go_at_call 60; refine (putN_any A n cap l d.k w1.drew rd hzk hl2).mono ?_; rintro e w7 ⟨A7, c7, l7, H7, rfl, o7, bb⟩; have b7 := below_chain b0 bb; have hl7' : l7.length ≤ 200100 := (by have := enc_le d.k hzk.1 hzk.2; rw [H7.out, List.length_append]; omega); have hl7 : l7.length ≤ 10000000 := (by omega); clear bb))
  have B9 := below_chain B1 b9
  have H10 : Hid (l9 = l ++ encD d) := Go.Lib.hid (by rw [H9.out, H8.out, H7.out, encD]; simp only [List.append_assoc])
  clear k0 k1 k2 b0 rd
  go_wp2_with fail
  go_ret
  exact ⟨A9, c9, l9, H10, rfl, o9, B9⟩

set_option maxHeartbeats 2000000 in
set_option maxRecDepth 100000 in
theorem putDl_any (C : Option Addr) (nC cC : Nat) (ds : List Df) (w : World) (hC : RdD w C nC cC ds) (hs : mayDs ds = 0) :
    Calls Try.prog 32 #[.slice none 0 0, .slice C nC cC, .func (.func 33) #[] #[]] w (Bytes (encDs ds) w) := by
  have LC := Go.Lib.hid hC.len
  obtain ⟨h4, hm⟩ := (mayDs_zero ds).1 hs
  have SM := Go.Lib.hid hm
  have hnC : nC ≤ 4 := by rw [← LC.out]; exact h4
  clear hs h4 hm
  go_enter Try.func32, Try.ntmps32
  have hxC : -9223372036854775808 ≤ (nC : Int) ∧ (nC : Int) ≤ 9223372036854775807 := by omega
  go_wp2_with fail
  refine (putN_any none 0 0 [] (nC : Int) w (Rd.nil _) hxC (by simp)).mono ?_
  rintro e w1 ⟨A1, c1, l1, H1, rfl, r1, b1⟩
  have e1 : l1 = enc (ds.length : Int) ++ dfsE (ds.take 0) := by
    rw [H1.out, LC.out]
    simp [dfsE]
  have HE1 := Go.Lib.hid e1
  clear e1 hxC
  go_wp2_with fail
  go_loopw [0, 8, 15] (fun o _ i wr => ∃ (j : Nat) (A' : Option Addr) (c' : Nat) (l' : List UInt8), j ≤ nC ∧ o = .slice A' l'.length c' ∧ i = .int .i64 j ∧ Hid (l' = enc (ds.length : Int) ++ dfsE (ds.take j)) ∧ Rd wr A' l'.length c' l' ∧ Below w.heap.size w wr) (fun _ _ i _ => nC - (intOf i).toNat)
  case atStart => exact ⟨0, A1, c1, l1, Nat.zero_le _, rfl, rfl, HE1, r1, b1⟩
  case round =>
    obtain ⟨j, A', c', l', hj, rfl, rfl, HQ, oq, Bq⟩ := hrel
    have hlq : l'.length ≤ 200000 := by
      have h1 := dfs_head (ds := ds) (j := j) (by rw [LC.out]; exact hnC) (fun d hd => SM.out d (List.mem_of_mem_take hd))
      rw [HQ.out]
      omega
    by_cases hlt : j < nC
    · obtain ⟨bt, ot, rfl, _, kt⟩ := (hC.below Bq).at_ (by omega)
      obtain ⟨T, nT, cT, x0, x1, x2, rT⟩ := kt j hlt
      have i1 : (j : Int) < nC := by omega
      have hjl : j < ds.length := by rw [LC.out]; exact hlt
      have TA := Go.Lib.hid (df_take ds j hjl)
      have hfc := SM.out _ (df_get hjl)
      clear kt hjl
      generalize ds.getD j noDf = d at *
      go_upto_region 5 with (fail)
      have al : Below wr.heap.size wr (wr.alloc (.cells #[.int .i64 d.k, .string d.f, .slice T nT cT] 36)) := (Below.refl _ _).alloc (Nat.le_refl _) _
      have E1 := DAt.new wr (.int .i64 d.k) (.string d.f) (.slice T nT cT)
      have oq1 := oq.below al
      have B2 := below_chain Bq al
      have rT1 := rT.below al
      generalize wr.alloc (.cells #[.int .i64 d.k, .string d.f, .slice T nT cT] 36) = w2 at *
      have k0 := E1.c0
      have k1 := E1.c1
      have k2 := E1.c2
      clear x0 x1 x2 oq rT al
      go_wp2_with fail
      refine (putDf_any A' l'.length c' l' T nT cT d w2 oq1 hlq rT1 hfc).mono ?_
      rintro e w6 ⟨A6, c6, l6, H6, rfl, r6, b6⟩
      have B6 := below_chain B2 b6
      have H7 : Hid (l6 = enc (ds.length : Int) ++ dfsE (ds.take (j + 1))) := Go.Lib.hid (by rw [H6.out, HQ.out, TA.out, dfsE_snoc]; simp only [List.append_assoc])
      clear k0 k1 k2 E1 hfc
      go_wp2_with fail
      go_roundw
      case rel => exact ⟨j + 1, A6, c6, l6, by omega, rfl, by go_num, H7, r6, B6⟩
      case measure => simp [intOf]; omega
    · obtain rfl : nC = j := by omega
      have hf : l' = encDs ds := by
        rw [HQ.out, List.take_of_length_le (by rw [LC.out]; exact Nat.le_refl _), encDs]
      have HF := Go.Lib.hid hf
      clear hf
      go_wp2_with fail
      go_ret
      exact ⟨A', c', l', HF, rfl, oq, Bq⟩

set_option maxHeartbeats 2000000 in
set_option maxRecDepth 100000 in
theorem putDs7_any (A : Option Addr) (n cap : Nat) (ds : List Df) (w : World) (h : RdD w A n cap ds) (hok : DsOk ds) :
    Calls Try.prog 13 #[.slice A n cap] w (DsOne ds w) := by
  have LD := Go.Lib.hid h.len
  have HOK := Go.Lib.hid hok
  clear hok
  have hmax := h.le
  unfold maxLen at hmax
  go_enter Try.func13, Try.ntmps13
  by_cases h4 : 4 < n
  · have hr : mayDs ds = 3 := by unfold mayDs; rw [LD.out, if_pos h4]
    have i4 : (4 : Int) < n := by omega
    have HR := Go.Lib.hid hr
    clear hr
    go_wp2_with fail
    go_ret2
    exact ⟨none, 0, 0, [], by rw [HR.out]; rfl, Rd.nil _, Go.Lib.hid (by rw [HR.out]; rfl), Below.refl _ _⟩
  have i4 : ¬ (4 : Int) < n := by omega
  have hrr : mayDs ds = firstD ds := by unfold mayDs; rw [LD.out, if_neg h4]
  have HRR := Go.Lib.hid hrr
  clear hrr
  go_wp2_with fail
  go_loopw [5, 6, 12] (fun _ _ i wr => ∃ (j : Nat), j ≤ n ∧ i = .int .i64 j ∧ Hid (firstD (ds.take j) = 0) ∧ Below w.heap.size w wr) (fun _ _ i _ => n - (intOf i).toNat)
  case atStart => exact ⟨0, Nat.zero_le _, rfl, Go.Lib.hid rfl, Below.refl _ _⟩
  case round =>
    obtain ⟨j, hj, rfl, HF, Bq⟩ := hrel
    by_cases hlt : j < n
    · obtain ⟨bt, ot, rfl, _, kt⟩ := (h.below Bq).at_ (by omega)
      obtain ⟨C, nC, cC, x0, x1, x2, rC⟩ := kt j hlt
      have i1 : (j : Int) < n := by omega
      have hjl : j < ds.length := by rw [LD.out]; exact hlt
      have TA := Go.Lib.hid (df_take ds j hjl)
      have hdo := HOK.out _ (df_get hjl)
      have HN := Go.Lib.hid (fun h => firstD_none hjl HF.out h)
      clear kt hjl i4
      generalize ds.getD j noDf = d at *
      go_upto_region 6 with (fail)
      have al : Below wr.heap.size wr (wr.alloc (.cells #[.int .i64 d.k, .string d.f, .slice C nC cC] 36)) := (Below.refl _ _).alloc (Nat.le_refl _) _
      have E1 := DAt.new wr (.int .i64 d.k) (.string d.f) (.slice C nC cC)
      have B1 := below_chain Bq al
      have rC1 := rC.below al
      generalize wr.alloc (.cells #[.int .i64 d.k, .string d.f, .slice C nC cC] 36) = w1 at *
      have k0 := E1.c0
      have k1 := E1.c1
      have k2 := E1.c2
      clear x0 x1 x2 rC al
      go_wp2_with fail
      refine (mayD_any _ d w1 ⟨C, nC, cC, rfl, rC1⟩ hdo).mono ?_
      rintro e w2 ⟨rfl, b2⟩
      have B2 := below_chain B1 b2
      clear k0 k1 k2 E1 rC1 b2 hdo
      by_cases h0 : mayD d = 0
      case neg =>
        have hr := HN.out h0
        have HR := Go.Lib.hid hr
        have HM := Go.Lib.hid h0
        have m0 : (mayD d != 0) = true := by rw [bne_iff_ne]; exact h0
        clear hr h0
        generalize mayD d = M at *
        go_wp2_with fail
        go_ret2
        exact ⟨none, 0, 0, [], by rw [HRR.out, HR.out]; rfl, Rd.nil _, Go.Lib.hid (by rw [HRR.out, HR.out, if_neg HM.out]), B2⟩
      rw [h0]
      have H11 : Hid (firstD (ds.take (j + 1)) = 0) := Go.Lib.hid (by rw [TA.out, firstD_snoc, HF.out, h0]; rfl)
      clear h0
      go_wp2_with fail
      go_roundw
      case rel => exact ⟨j + 1, by omega, by go_num, H11, B2⟩
      case measure => simp [intOf]; omega
    · obtain rfl : n = j := by omega
      have ht : ds.take n = ds := List.take_of_length_le (by rw [LD.out]; exact Nat.le_refl _)
      have hz : mayDs ds = 0 := by rw [HRR.out, ← ht]; exact HF.out
      have HZ := Go.Lib.hid hz
      clear ht i4
      go_wp2_with fail
      refine (putDl_any A n cap ds wr (h.below Bq) hz).mono ?_
      rintro e w2 ⟨A2, c2, l2, H2, rfl, r2, b2⟩
      have B2 := below_chain Bq b2
      clear hz
      go_wp2_with fail
      go_ret2
      exact ⟨A2, l2.length, c2, l2, by rw [HZ.out]; rfl, r2, Go.Lib.hid (by rw [if_pos HZ.out, H2.out]), B2⟩

end Go.Proofs.Ytjgddlnfjmdnnaa.QeWalk

/-
  Contracts of layer 7: takeDef; takeList, of projections; bytes.Equal; TakeDefs.
-/
namespace Go.Proofs.Ytjgddlnfjmdnnaa.QeWalk
open Go.RowKit Go.Proofs.Ytjgddlnfjmdnnaa.MemRow Go.Proofs.Ytjgddlnfjmdnnaa.Ev Go.Proofs.Ytjgddlnfjmdnnaa.NameMath Go.Proofs.Ytjgddlnfjmdnnaa.NameWalk Go.Proofs.Ytjgddlnfjmdnnaa.EvWalk Go.Proofs.Ytjgddlnfjmdnnaa.NumMath Go.Proofs.Ytjgddlnfjmdnnaa.NumMem Go.Proofs.Ytjgddlnfjmdnnaa.NumWalk Go.Proofs.Ytjgddlnfjmdnnaa.Qu Go.Proofs.Ytjgddlnfjmdnnaa.QuWalk Go.Proofs.Ytjgddlnfjmdnnaa.QlLaw Go.Proofs.Ytjgddlnfjmdnnaa.QcWalk Go.Proofs.Ytjgddlnfjmdnnaa.QkLaw

theorem d_set0 {w : World} {g : Nat} {v0 v1 v2 : Value} (h : DAt w g v0 v1 v2) (x : Value) : DAt (w.setCell ⟨g, 0, none⟩ x) g x v1 v2 := by
  unfold DAt at h ⊢
  simp only [World.setCell, Array.getElem?_modify, h]
  rfl
theorem d_fin {w w3 : World} {g : Nat} {l : List UInt8} {b : Bool} {v0 v1 v2 : Value} (c : DAt w3 w.heap.size v0 v1 v2) (rd : Rdr w3 72 g l b) (gr : w.grownBy w3 (some g)) (gw : g < w.heap.size) (x0 x1 x2 : Value) (w9 : World) (h9 : w9 = ((w3.setCell ⟨w.heap.size, 0, none⟩ x0).setCell ⟨w.heap.size, 1, none⟩ x1).setCell ⟨w.heap.size, 2, none⟩ x2) :
    DAt w9 w.heap.size x0 x1 x2 ∧ Rdr w9 72 g l b ∧ w.grownBy w9 (some g) ∧ w3.grownBy w9 (some w.heap.size) := by
  subst h9
  have s0 := grownSet w3 w.heap.size 0 x0
  have s1 := grownSet (w3.setCell ⟨w.heap.size, 0, none⟩ x0) w.heap.size 1 x1
  have s2 := grownSet ((w3.setCell ⟨w.heap.size, 0, none⟩ x0).setCell ⟨w.heap.size, 1, none⟩ x1) w.heap.size 2 x2
  exact ⟨((d_set0 c x0).set1 x1).set2 x2, rdr_apart (rdr_apart (rdr_apart rd s0 (fun r e => by injection e; omega)) s1 (fun r e => by injection e; omega)) s2 (fun r e => by injection e; omega), gr_step (gr_step (gr_step gr s0 (fun r e => by injection e; omega)) s1 (fun r e => by injection e; omega)) s2 (fun r e => by injection e; omega), gr_step' (gr_step' s0 s1) s2⟩

/-- What the next projection comes to. -/
def DfOut (l : List UInt8) (g : Nat) (w : World) (e : Ending) (w' : World) : Prop :=
  w.grownBy w' (some g) ∧ ∃ (ok : Bool) (k : Int) (f : ByteArray) (C : Option Addr) (m c : Nat) (l' : List UInt8) (b' : Bool), e = .returned (.tuple #[.agg #[.int .i64 k, .string f, .slice C m c], .bool ok]) ∧ Rdr w' 72 g l' b' ∧
    (ok = true → b' = false ∧ ∃ q, Hid (parD l = some (⟨k, f, q⟩, l')) ∧ OwnK w' w.heap.size C m c q) ∧ (ok = false → Hid (parD l = none))

set_option maxHeartbeats 4000000 in
set_option maxRecDepth 100000 in
theorem takeDf_any (g : Nat) (l : List UInt8) (w : World) (h : Rdr w 72 g l false) :
    Calls Try.prog 43 #[.pointer (some ⟨g, 0, none⟩)] w (DfOut l g w) := by
  have gw := h.lt
  have e1 := DAt.new w (.int .i64 0) (.string ⟨#[]⟩) (.slice none 0 0)
  have b1 : Below w.heap.size w (w.alloc (.cells #[.int .i64 0, .string ⟨#[]⟩, .slice none 0 0] 36)) := (Below.refl _ _).alloc (Nat.le_refl _) _
  have s1 : (w.alloc (.cells #[.int .i64 0, .string ⟨#[]⟩, .slice none 0 0] 36)).heap.size = w.heap.size + 1 := by simp
  have h1 := h.below b1
  have g1 := gr_below (gr_refl w g) b1
  clear h b1
  have hdry : Dry (textL (numL l)) (textB (numL l) (numB l false)) := (Dry.good l).num.text
  have HPS := Go.Lib.hid (fun q l' (h : parQ (textL (numL l)) = some (q, l')) => parD_of h)
  have HPN := Go.Lib.hid (fun (h : parQ (textL (numL l)) = none) => parD_no h)
  go_enter Try.func43, Try.ntmps43
  go_upto_region 1 with (fail)
  generalize w.alloc (.cells #[.int .i64 0, .string ⟨#[]⟩, .slice none 0 0] 36) = w1 at *
  go_wp2_with fail
  refine (num_any g l false w1 h1).mono ?_
  rintro e w2 ⟨rfl, r2, g2⟩
  go_wp2_with fail
  refine (text_any g _ _ w2 r2).mono ?_
  rintro e w3 ⟨rfl, r3, g3⟩
  have htx : (⟨(textV (numL l)).toArray⟩ : ByteArray) = tx (numL l) := rfl
  rw [htx]
  have e3 := (e1.grown g2 (by simp; omega)).grown g3 (by simp; omega)
  have gr3 := gr_step' (gr_step' g1 g2) g3
  have sz2 := g2.size
  have sz3 := g3.size
  clear htx r2 g2 g3 g1 h1 e1
  generalize tx (numL l) = f at *
  generalize textB (numL l) (numB l false) = b3 at *
  generalize textL (numL l) = l3 at *
  generalize numV l = k at *
  go_wp2_with fail
  refine (qry7_any g l3 b3 w3 r3 hdry).mono ?_
  rintro e w4 ⟨g4, ht⟩
  have e4 := e3.grown g4 (by simp; omega)
  have gr4 := gr_step' gr3 g4
  have sz4 := g4.size
  clear e3 gr3 r3 hdry g4
  rcases ht with ⟨q, l', HP, C, m, c, rfl, oK, r4⟩ | ⟨HP, rfl, l', b', r4⟩
  · have HY := Go.Lib.hid (HPS.out _ _ HP.out)
    have al : Below w4.heap.size w4 (w4.alloc (.cells #[.slice C m c] 25)) := (Below.refl _ _).alloc (Nat.le_refl _) _
    have q5 := QAt.new w4 (.slice C m c)
    have e5 := e4.below al
    have oK5 := oK.below al
    have r5 := r4.below al
    have gr5 := gr_below gr4 al
    go_upto_region 3 with (fail)
    generalize w4.alloc (.cells #[.slice C m c] 25) = w5 at *
    clear al e4 oK r4 gr4 HPS HPN HP
    have k0 := q5.c0
    have r0 := e5.c0
    have r1 := e5.c1
    have r2 := e5.c2
    have z0 := e5.frozen 0
    have z1 := e5.frozen 1
    have z2 := e5.frozen 2
    have HFIN := Go.Lib.hid (d_fin e5 r5 gr5 gw (.int .i64 k) (.string f) (.slice C m c) _ rfl)
    clear e5 r5 gr5 q5
    go_wp2_with fail
    obtain ⟨E9, R9, G9, S9⟩ := HFIN.out
    have o9 := (oK5.off S9 (by omega)).lower (base' := w.heap.size) (by omega)
    generalize ((w5.setCell ⟨w.heap.size, 0, none⟩ (.int .i64 k)).setCell ⟨w.heap.size, 1, none⟩ (.string f)).setCell ⟨w.heap.size, 2, none⟩ (.slice C m c) = w9 at *
    have q0 := E9.c0
    have q1 := E9.c1
    have q2 := E9.c2
    exact bodyPost_ret (v := .tuple #[.agg #[.int .i64 k, .string f, .slice C m c], .bool true]) (by simp [results, Try.results43, go_sem, q0, q1, q2]) rfl ⟨G9, true, _, _, _, _, _, _, _, rfl, R9, fun _ => ⟨rfl, _, HY, o9⟩, fun h => by cases h⟩
  · have HY := Go.Lib.hid (HPN.out HP.out)
    have al : Below w4.heap.size w4 (w4.alloc (.cells #[.slice none 0 0] 25)) := (Below.refl _ _).alloc (Nat.le_refl _) _
    have q5 := QAt.new w4 (.slice none 0 0)
    have e5 := e4.below al
    have r5 := r4.below al
    have gr5 := gr_below gr4 al
    go_upto_region 3 with (fail)
    generalize w4.alloc (.cells #[.slice none 0 0] 25) = w5 at *
    clear al e4 r4 gr4 HPS HPN HP
    have k0 := q5.c0
    have r0 := e5.c0
    have r1 := e5.c1
    have r2 := e5.c2
    have z0 := e5.frozen 0
    have z1 := e5.frozen 1
    have z2 := e5.frozen 2
    have HFIN := Go.Lib.hid (d_fin e5 r5 gr5 gw (.int .i64 k) (.string f) (.slice none 0 0) _ rfl)
    clear e5 r5 gr5 q5
    go_wp2_with fail
    obtain ⟨E9, R9, G9, S9⟩ := HFIN.out
    generalize ((w5.setCell ⟨w.heap.size, 0, none⟩ (.int .i64 k)).setCell ⟨w.heap.size, 1, none⟩ (.string f)).setCell ⟨w.heap.size, 2, none⟩ (.slice none 0 0) = w9 at *
    have q0 := E9.c0
    have q1 := E9.c1
    have q2 := E9.c2
    exact bodyPost_ret (v := .tuple #[.agg #[.int .i64 k, .string f, .slice none 0 0], .bool false]) (by simp [results, Try.results43, go_sem, q0, q1, q2]) rfl ⟨G9, false, _, _, _, _, _, _, _, rfl, R9, (fun h => by cases h), fun _ => HY⟩

theorem ownP_nil (w : World) (base : Nat) : OwnP (OwnK w base) w base none 0 0 [] := ⟨[], OwnC.nil _ _, rfl, rfl⟩

set_option maxHeartbeats 4000000 in
set_option maxRecDepth 100000 in
theorem listD7_any (g : Nat) (l : List UInt8) (b : Bool) (w : World) (h : Rdr w 72 g l b) (hd : Dry l b) :
    Calls Try.prog 42 #[.pointer (some ⟨g, 0, none⟩), .int .i64 4, .func (.func 43) #[] #[]] w (ListOut (fun w' base A m c ds => OwnP (OwnK w' base) w' base A m c ds) (parDs l) g w) := by
  have gw := h.lt
  have hb := hd.numB
  have hrange := numV_range l
  have hpt : parDs l = if lenV l = 0 ∨ numV l < 0 then none else (many parD (numV l).toNat (numL l)).map fun p => (p.1.take 5, p.2) := rfl
  have hv0 : lenV l = 0 → numV l = 0 := numV_none
  have HB := Go.Lib.hid hb
  have HPT := Go.Lib.hid hpt
  have HV0 := Go.Lib.hid hv0
  clear hb hpt hv0
  generalize parDs l = R at *
  generalize hn : numV l = n at *
  generalize hl0 : numL l = L at *
  generalize hb0 : numB l b = b0 at *
  obtain ⟨K, hK⟩ : ∃ K, K = n.toNat := ⟨_, rfl⟩
  rw [← hK] at HPT
  have HK := Go.Lib.hid hK
  have HN := Go.Lib.hid hn
  have HL := Go.Lib.hid hl0
  have HB0 := Go.Lib.hid hb0
  clear hK hn hl0 hb0
  go_enter Try.func42, Try.ntmps42
  go_wp2_with fail
  refine (num_any g l b w h).mono ?_
  rintro e w1 ⟨rfl, r1, g1⟩
  clear h
  rw [HN.out]
  rw [HL.out, HB0.out] at r1
  go_wp2_with fail
  go_loopw [8, 10, 11, 15] (fun lv _ _ i wr => ∃ (j : Nat) (A : Option Addr) (m cap : Nat) (ts : List Df) (l' : List UInt8), j ≤ K ∧ i = .int .i64 j ∧ lv = .slice A m cap ∧ Hid (many parD K L = (many parD (K - j) l').map (fun p => (ts ++ p.1, p.2)) ∧ ts.length = j) ∧ Hid (m = min j 5 ∧ (j = 0 → A = none ∧ cap = 0)) ∧ OwnP (OwnK wr w.heap.size) wr w.heap.size A m cap (ts.take 5) ∧ Rdr wr 72 g l' b0 ∧ w.grownBy wr (some g)) (fun _ _ _ i _ => K - (intOf i).toNat)
  case atStart => exact ⟨0, none, 0, 0, [], L, Nat.zero_le _, rfl, rfl, Go.Lib.hid ⟨by simp, rfl⟩, Go.Lib.hid ⟨rfl, fun _ => ⟨rfl, rfl⟩⟩, ownP_nil _ _, r1, g1⟩
  case round =>
    obtain ⟨j, A, m, cap, ts, l', hj, rfl, rfl, HQ, HM, ow, rd, gr⟩ := hrel
    clear r1 g1
    by_cases hlt : (j : Int) < n
    · have hjK : j < K := by have := HK.out; omega
      have h0 : lenV l ≠ 0 := fun h => by have := HV0.out h; omega
      obtain rfl : b0 = false := by rw [HB.out, decide_eq_false h0]
      have HR := Go.Lib.hid (HPT.out.trans (if_neg (by rintro (h | h) <;> omega)))
      clear h0
      have gsz := gr.size
      go_wp2_with fail
      refine (takeDf_any g l' wr rd).mono ?_
      rintro e v1 ⟨hg, ok, k, f, C, nC, cC, l'', b'', rfl, hr, hyes, hno⟩
      have ow1 := ow.off hg gw (fun A n c q h => OwnK.off h hg gw)
      have gr1 := gr_step' gr hg
      have c2 := DAt.new v1 (.int .i64 k) (.string f) (.slice C nC cC)
      have al : Below v1.heap.size v1 (v1.alloc (.cells #[.int .i64 k, .string f, .slice C nC cC] 36)) := (Below.refl _ _).alloc (Nat.le_refl _) _
      have ow2 := ow1.below al (fun A n c q h => OwnK.below h al)
      have gr2 := gr_below gr1 al
      have hr2 := hr.below al
      have HYES := Go.Lib.hid hyes
      have HNO' := Go.Lib.hid hno
      have AL := Go.Lib.hid al
      clear ow rd gr hg ow1 gr1 hr hyes hno al
      go_upto_region 6 with (fail)
      generalize v1.alloc (.cells #[.int .i64 k, .string f, .slice C nC cC] 36) = v2 at *
      cases ok with
      | true =>
        obtain ⟨rfl, q, HP, oK1⟩ := HYES.out rfl
        have oK := (oK1.below AL.out).lower (base' := w.heap.size) gsz
        have hgo := many_go hjK HQ.out.1 HP.out
        have HGO := Go.Lib.hid hgo
        have hlen := HQ.out.2
        have HLEN := Go.Lib.hid hlen
        clear hgo hlen HQ HP oK1 HYES HNO' AL
        by_cases h6 : j ≤ 4
        · obtain rfl : m = j := by have := HM.out.1; omega
          have i1 : (m : Int) ≤ 4 := by omega
          obtain ⟨htk, htk2⟩ := take_snoc5 (x := (⟨k, f, q⟩ : Df)) HLEN.out h6
          rw [htk] at ow2
          have HTK2 := Go.Lib.hid htk2
          have k0 := c2.c0
          have k1 := c2.c1
          have k2 := c2.c2
          have al : Below v2.heap.size v2 (v2.alloc (.cells #[.int .i64 k, .string f, .slice C nC cC] 36)) := (Below.refl _ _).alloc (Nat.le_refl _) _
          have d1 : RdC 3 (v2.alloc (.cells #[.int .i64 k, .string f, .slice C nC cC] 36)) (some ⟨v2.heap.size, 0, none⟩) 1 1 [.int .i64 k, .string f, .slice C nC cC] := RdC.new v2 36 [.int .i64 k, .string f, .slice C nC cC] rfl (by decide)
          obtain ⟨cs, oc, hl, hcs⟩ := ow2.below al (fun A n c q h => OwnK.below h al)
          have oK8 := oK.below al
          have big : w.heap.size ≤ (v2.alloc (.cells #[.int .i64 k, .string f, .slice C nC cC] 36)).heap.size := Nat.le_trans gr2.size al.size
          have h63 : m + 1 ≤ maxLen := by unfold maxLen; omega
          have hsz : (m + 1) * 48 ≤ 140737488355328 := by omega
          have rd2 := hr2.below al
          have gr3 := gr_below gr2 al
          clear htk htk2 al ow2 oK
          go_wp2_with (at_builtin; refine wpList_append_cells rfl (.tmp 29) (.tmp 31) 26 rfl 36 (.agg #[.int .i64 0, .string ⟨#[]⟩, .slice none 0 0]) 48 Try.underlying26 def_info rfl (by decide) rfl rfl oc d1 (df_one _ _ _ _ _) h63 hsz big ?_; intro T8 c8 w8 o8 g8 _)
          go_roundw
          case rel =>
            have low := fun r e => row_low oc (r := r) e
            refine ⟨m + 1, T8, m + 1, c8, ts ++ [⟨k, f, q⟩], l'', by omega, by go_num, rfl, Go.Lib.hid ⟨HGO.out, by rw [List.length_append, HLEN.out]; rfl⟩, Go.Lib.hid ⟨by omega, fun h => absurd h (by omega)⟩, ?_, rdr_apart rd2 g8 (fun r e => by have := low r e; omega), gr_step gr3 g8 (fun r e => low r e)⟩
            rw [HTK2.out]
            exact OwnP.more (d := ⟨k, f, q⟩) hl hcs oK8 o8 (fun A n c q h => OwnK.unlike h oc (by decide) (by decide) g8)
          case measure => simp [intOf]; omega
        · obtain rfl : m = 5 := by have := HM.out.1; omega
          have i1 : ¬ (5 : Int) ≤ 4 := by omega
          have htk := take_keep5 (x := (⟨k, f, q⟩ : Df)) HLEN.out (by omega)
          have HTK := Go.Lib.hid htk
          clear htk
          go_wp2_with fail
          go_roundw
          case rel =>
            refine ⟨j + 1, A, 5, cap, ts ++ [⟨k, f, q⟩], l'', by omega, by go_num, rfl, Go.Lib.hid ⟨HGO.out, by rw [List.length_append, HLEN.out]; rfl⟩, Go.Lib.hid ⟨by omega, fun h => absurd h (by omega)⟩, ?_, hr2, gr2⟩
            rw [HTK.out]
            exact ow2
          case measure => simp [intOf]; omega
      | false =>
        have hnone : R = none := by rw [HR.out, many_stop hjK HQ.out.1 (HNO'.out rfl).out]; rfl
        have HNO := Go.Lib.hid hnone
        clear hnone HQ HNO' HYES HR
        go_wp2_with fail
        go_ret2
        exact ⟨gr2, .inr ⟨HNO, rfl, _, _, hr2⟩⟩
    · obtain rfl : K = j := by have := HK.out; omega
      have hend := many_end HQ.out.1
      have HEND := Go.Lib.hid hend
      clear hend HQ
      by_cases hn0 : 0 ≤ n
      · cases b0 with
        | true =>
          have h0 : lenV l = 0 := of_decide_eq_true HB.out.symm
          have hno : R = none := by rw [HPT.out, if_pos (.inl h0)]
          have hK0 : K = 0 := by have := HV0.out h0; have := HK.out; omega
          subst hK0
          obtain ⟨rfl, rfl⟩ := HM.out.2 rfl
          obtain rfl : m = 0 := HM.out.1
          have HNO := Go.Lib.hid hno
          clear hno h0
          go_wp2_with fail
          refine (bad_any g _ _ wr rd).mono ?_
          rintro e w' ⟨rfl, rfl⟩
          go_wp2_with fail
          go_ret2
          exact ⟨gr, .inr ⟨HNO, rfl, _, _, rd⟩⟩
        | false =>
          have h0 : lenV l ≠ 0 := of_decide_eq_false HB.out.symm
          have hyes : R = some (ts.take 5, l') := by
            rw [HPT.out, if_neg (by rintro (h | h) <;> omega), HEND.out]
            rfl
          have HYES := Go.Lib.hid hyes
          clear hyes h0
          go_wp2_with fail
          refine (bad_any g _ _ wr rd).mono ?_
          rintro e w' ⟨rfl, rfl⟩
          go_wp2_with fail
          go_ret2
          exact ⟨gr, .inl ⟨_, _, HYES, _, _, _, rfl, ow, rd⟩⟩
      · have hno : R = none := by rw [HPT.out, if_pos (.inr (by omega))]
        have HNO := Go.Lib.hid hno
        have hK0 : K = 0 := by have := HK.out; omega
        subst hK0
        obtain ⟨rfl, rfl⟩ := HM.out.2 rfl
        obtain rfl : m = 0 := HM.out.1
        clear hno
        go_wp2_with fail
        go_ret2
        exact ⟨gr, .inr ⟨HNO, rfl, _, _, rd⟩⟩

/-! ### Bytes that are the same -/
set_option maxRecDepth 100000 in
theorem same7_any {A B : Option Addr} {n m ca cb : Nat} {a b : List UInt8} (w : World) (ha : Rd w A n ca a) (hb : Rd w B m cb b) :
    Calls Try.prog 44 #[.slice A n ca, .slice B m cb] w fun e w' => e = .returned (.bool (decide (a = b))) ∧ w = w' := by
  have sx := rd_str ha
  have sy := rd_str hb
  clear ha hb
  by_cases he : a = b
  · subst he
    have hd : decide (a = a) = true := decide_eq_true rfl
    rw [hd]
    clear hd
    go_enter Try.func44, Try.ntmps44
    go_wp2_with fail
    go_ret
    exact ⟨by simp, rfl⟩
  · have hn := bytes_ne he
    have hd : decide (a = b) = false := decide_eq_false he
    rw [hd]
    clear hd he
    go_enter Try.func44, Try.ntmps44
    go_wp2_with fail
    go_ret
    exact ⟨by simp, rfl⟩

set_option maxHeartbeats 4000000 in
set_option maxRecDepth 100000 in
theorem takeDs7_any (A0 : Option Addr) (n0 cap0 : Nat) (l : List UInt8) (w : World) (h : Rd w A0 n0 cap0 l) (hl : l.length ≤ 200000) :
    Calls Try.prog 21 #[.slice A0 n0 cap0] w (TakeDsOut l w) := by
  have hn0 : n0 ≤ 281474976710656 := by have := h.len; omega
  have hmax : l.length ≤ maxLen := by unfold maxLen; omega
  have HL := Go.Lib.hid hmax
  have HD := Go.Lib.hid (takeDs_parDs l)
  clear hl hmax
  go_enter Try.func21, Try.ntmps21
  go_wp2_with fail
  refine (newReader_any A0 n0 cap0 l w h hn0).mono ?_
  rintro e w1 ⟨g, rfl, hg, r1, b1⟩
  clear hn0
  go_wp2_with fail
  refine (listD7_any g l false w1 r1 (Dry.good l)).mono ?_
  rintro e w2 ⟨g2, ht⟩
  have B2 := b1.grown g2 b1.size (by rintro q ⟨rfl⟩; exact hg)
  clear r1 b1
  rcases ht with ⟨ds, l', HP, A, m, c, rfl, op, r2⟩ | ⟨HP, rfl, l', b', r2⟩
  · have hok := parDs_ok HP.out HL.out
    have htd : takeDs l = if mayDs ds = 0 ∧ encDs ds = l then some ds else none := by
      have h9 := HD.out
      rw [HP.out] at h9
      exact h9
    have HTD := Go.Lib.hid htd
    have rA := op.rd (fun A n c q h => OwnK.rd h)
    have r0 := h.below B2
    clear htd op r2 g2
    go_wp2_with fail
    refine (putDs7_any A m c ds w2 rA hok).mono ?_
    rintro e w3 ⟨E, mE, cE, x, rfl, rx, HX, b3⟩
    have B3 := below_chain B2 b3
    have rA3 := rA.below b3
    have r3 := r0.below b3
    clear hok rA r0 b3 B2
    by_cases h0 : mayDs ds = 0
    · have hx : x = encDs ds := by rw [HX.out, if_pos h0]
      subst hx
      rw [h0]
      by_cases he : encDs ds = l
      · have hyes : takeDs l = some ds := by rw [HTD.out, if_pos ⟨h0, he⟩]
        have HYES := Go.Lib.hid hyes
        have hd : decide (encDs ds = l) = true := decide_eq_true he
        clear hyes h0 HTD he HX
        generalize encDs ds = X at *
        go_wp2_with fail
        refine (same7_any w3 rx r3).mono ?_
        rintro e w4 ⟨rfl, rfl⟩
        rw [hd]
        clear hd
        go_wp2_with fail
        go_ret2
        exact ⟨B3, .inl ⟨ds, _, _, _, HYES.out, rfl, rA3⟩⟩
      · have hno : takeDs l = none := by rw [HTD.out, if_neg (fun h => he h.2)]
        have HNO := Go.Lib.hid hno
        have hd : decide (encDs ds = l) = false := decide_eq_false he
        clear hno h0 HTD he HX
        generalize encDs ds = X at *
        go_wp2_with fail
        refine (same7_any w3 rx r3).mono ?_
        rintro e w4 ⟨rfl, rfl⟩
        rw [hd]
        clear hd
        go_wp2_with fail
        go_ret2
        exact ⟨B3, .inr ⟨HNO.out, rfl⟩⟩
    · have hno : takeDs l = none := by rw [HTD.out, if_neg (fun h => h0 h.1)]
      have HNO := Go.Lib.hid hno
      have m0 : (mayDs ds != 0) = true := by rw [bne_iff_ne]; exact h0
      clear hno h0 HTD HX
      generalize mayDs ds = M at *
      go_wp2_with fail
      go_ret2
      exact ⟨B3, .inr ⟨HNO.out, rfl⟩⟩
  · have hno : takeDs l = none := by
      have h9 := HD.out
      rw [HP.out] at h9
      exact h9
    have HNO := Go.Lib.hid hno
    clear hno
    go_wp2_with fail
    go_ret2
    exact ⟨B2, .inr ⟨HNO.out, rfl⟩⟩

end Go.Proofs.Ytjgddlnfjmdnnaa.QeWalk

/-
  What is asked of the program's qcode, of the landed one.
-/
namespace Go.Proofs.Ytjgddlnfjmdnnaa.QkLaw
open Go.RowKit Go.Proofs.Ytjgddlnfjmdnnaa.MemRow Go.Proofs.Ytjgddlnfjmdnnaa.Ev Go.Proofs.Ytjgddlnfjmdnnaa.Qu Go.Proofs.Ytjgddlnfjmdnnaa.QuWalk Go.Proofs.Ytjgddlnfjmdnnaa.QcWalk Go.Proofs.Ytjgddlnfjmdnnaa.QeWalk

theorem cApi : CApi where
  put := fun A n cap l v q w h hl hv hok _ => put7_any A n cap l v q w h hl hv hok
  take := fun g l w h _ => (take7_any g l w h).mono fun _ _ h => tk_one h
  mayD := fun v d w h hok _ => mayD_any v d w h hok
  putD := fun A n ca ds w h hok _ => putDs7_any A n ca ds w h hok
  takeD := fun A n cap l w h hl => (takeDs7_any A n cap l w h hl).mono fun _ _ h => td_one h

end Go.Proofs.Ytjgddlnfjmdnnaa.QkLaw

/-
  QcodeRefuses, its walk over the landed qcode.
-/
namespace Go.Proofs.Ytjgddlnfjmdnnaa.QkLaw
open Go.RowKit Go.WideShapes Go.ChangeShapes Go.Proofs.Ytjgddlnfjmdnnaa.MemRow Go.Proofs.Ytjgddlnfjmdnnaa.Ev Go.Proofs.Ytjgddlnfjmdnnaa.NameMath Go.Proofs.Ytjgddlnfjmdnnaa.NameWalk Go.Proofs.Ytjgddlnfjmdnnaa.EvWalk Go.Proofs.Ytjgddlnfjmdnnaa.NumMath Go.Proofs.Ytjgddlnfjmdnnaa.NumMem Go.Proofs.Ytjgddlnfjmdnnaa.NumWalk Go.Proofs.Ytjgddlnfjmdnnaa.Qu Go.Proofs.Ytjgddlnfjmdnnaa.QuWalk Go.Proofs.Ytjgddlnfjmdnnaa.QlLaw Go.Proofs.Ytjgddlnfjmdnnaa.QcWalk Go.Proofs.Ytjgddlnfjmdnnaa.Open
section
variable {H : Type} {enc : TypeId × Value → H}
set_option maxRecDepth 100000 in
theorem refuses_main (W : World) (base : Nat) (v0 : Value) {d0 : DataW H} {p0 : List MemPlace} (o0 : Value.okWide Try.prog W .any base 26 v0)
    (h0 : DataW.Trod enc Try.prog W 0 (fun _ => true) true 26 v0 d0 p0) :
    Calls Try.prog 7 #[v0] W fun e W' => e = .returned (.bool true) ∧ Below W.heap.size W W' := refuses_main' cApi W base v0 o0 h0
end

end Go.Proofs.Ytjgddlnfjmdnnaa.QkLaw

/-
  Contract of the document's answer of layer 7: SameDefs.
-/
namespace Go.Proofs.Ytjgddlnfjmdnnaa.QcWalk
open Go.RowKit Go.Proofs.Ytjgddlnfjmdnnaa.MemRow Go.Proofs.Ytjgddlnfjmdnnaa.Ev Go.Proofs.Ytjgddlnfjmdnnaa.NameMath Go.Proofs.Ytjgddlnfjmdnnaa.NameWalk Go.Proofs.Ytjgddlnfjmdnnaa.EvWalk Go.Proofs.Ytjgddlnfjmdnnaa.NumMath Go.Proofs.Ytjgddlnfjmdnnaa.NumMem Go.Proofs.Ytjgddlnfjmdnnaa.NumWalk Go.Proofs.Ytjgddlnfjmdnnaa.Qu Go.Proofs.Ytjgddlnfjmdnnaa.QuWalk Go.Proofs.Ytjgddlnfjmdnnaa.QlLaw

theorem df_ext {d e : Df} (h0 : d.k = e.k) (h1 : d.f = e.f) (h2 : d.q = e.q) : d = e := by
  cases d; cases e; simp_all

set_option maxHeartbeats 8000000 in
set_option maxRecDepth 100000 in
theorem refSameDs_any (A B : Option Addr) (n m ca cb : Nat) (ds es : List Df) (w : World) (ha : RdD w A n ca ds) (hb : RdD w B m cb es) :
    Calls Try.prog 24 #[.slice A n ca, .slice B m cb] w fun e w' => ∃ R : Bool, (R = true ↔ ds = es) ∧ e = .returned (.bool R) ∧ Below w.heap.size w w' := by
  have hn := ha.le
  have hm := hb.le
  unfold maxLen at hn hm
  have la := ha.len
  have lb := hb.len
  by_cases hnm : n = m
  · subst hnm
    have LA := Go.Lib.hid la
    have LB := Go.Lib.hid lb
    clear la lb
    go_enter Try.func24, Try.ntmps24
    go_wp2_with fail
    go_loopw [5] (fun i wr => ∃ j : Nat, j ≤ n ∧ i = .int .i64 j ∧ Hid (ds.take j = es.take j) ∧ Below w.heap.size w wr) (fun i _ => n - (intOf i).toNat)
    case atStart => exact ⟨0, Nat.zero_le _, rfl, Go.Lib.hid rfl, Below.refl _ _⟩
    case round =>
      obtain ⟨j, hj, rfl, HQ, hw⟩ := hrel
      by_cases hlt : j < n
      · obtain ⟨ba, oa, rfl, _, ka⟩ := (ha.below hw).at_ (by omega)
        obtain ⟨bb, ob, rfl, _, kb⟩ := (hb.below hw).at_ (by omega)
        have TA := Go.Lib.hid (df_take ds j (by rw [LA.out]; exact hlt))
        have TB := Go.Lib.hid (df_take es j (by rw [LB.out]; exact hlt))
        have HXE : Hid (ds = es → ds.getD j noDf = es.getD j noDf) := Go.Lib.hid (fun h => by rw [h])
        have i1 : (j : Int) < n := by omega
        obtain ⟨C, nC, cC, x0, x1, x2, rx⟩ := ka j hlt
        obtain ⟨D, nD, cD, y0, y1, y2, ry⟩ := kb j hlt
        clear ka kb
        generalize ds.getD j noDf = x at *
        generalize es.getD j noDf = y at *
        have b0 : Below wr.heap.size wr wr.drew := bel_drew (Below.refl _ _)
        have vx : IsQ wr.drew (.agg #[.slice C nC cC]) x.q := ⟨_, _, _, rfl, rx.below b0⟩
        have vy : IsQ wr.drew (.agg #[.slice D nD cD]) y.q := ⟨_, _, _, rfl, ry.below b0⟩
        clear rx ry
        go_wp2_with fail
        go_region_held (fun w' => w'.cell? ⟨ba, oa + j * 3 + 2, none⟩ = some (.slice C nC cC) ∧ w'.cell? ⟨bb, ob + j * 3 + 2, none⟩ = some (.slice D nD cD))
          (first | exact ⟨x2, y2⟩ | exact ⟨bcell b8 x2, bcell b8 y2⟩)
          (first | (go_at_call 23; refine (refSameQ_any _ _ x.q y.q _ vx vy).mono ?_; rintro e w8 ⟨R, hR, rfl, bb⟩; have b8 := below_chain b0 bb; clear bb))
        have HR := Go.Lib.hid hR
        have u0 := bcell b8 x0
        have u1 := bcell b8 x1
        have t0 := bcell b8 y0
        have t1 := bcell b8 y1
        have B8 := below_chain hw b8
        clear hR x0 x1 x2 y0 y1 y2 vx vy b0 b8 hw
        obtain ⟨xk, xf, xq⟩ := x
        obtain ⟨yk, yf, yq⟩ := y
        simp only at u0 u1 t0 t1
        by_cases hk : xk = yk
        · subst hk
          by_cases hf : xf = yf
          · subst hf
            cases R with
            | true =>
              have hq : xq = yq := HR.out.1 rfl
              subst hq
              have H1 : Hid (ds.take (j + 1) = es.take (j + 1)) := Go.Lib.hid (by rw [TA.out, TB.out, HQ.out])
              clear HXE TA TB HQ HR
              go_wp2_with fail
              go_quiet (fail)
              go_wp2_with fail
              go_roundw
              case rel => exact ⟨j + 1, by omega, by go_num, H1, bel_drewN B8 _⟩
              case measure => simp [intOf]; omega
            | false =>
              have hne : ds ≠ es := fun h => by
                have h1 := HXE.out h
                injection h1 with _ _ h2
                have := HR.out.2 h2
                cases this
              have HNE := Go.Lib.hid hne
              clear hne HXE TA TB HQ HR
              go_wp2_with fail
              go_quiet (fail)
              go_wp2_with fail
              go_ret
              exact ⟨false, ⟨(fun h => by cases h), fun h => absurd h HNE.out⟩, rfl, bel_drewN B8 _⟩
          · have hne : ds ≠ es := fun h => by
              have h1 := HXE.out h
              injection h1 with _ h2 _
              exact hf h2
            have n1 := str_ne hf
            have HNE := Go.Lib.hid hne
            clear hne HXE TA TB HQ HR
            go_wp2_with fail
            go_quiet (fail)
            go_wp2_with fail
            go_ret
            exact ⟨false, ⟨(fun h => by cases h), fun h => absurd h HNE.out⟩, rfl, bel_drewN B8 _⟩
        · have hne : ds ≠ es := fun h => by
            have h1 := HXE.out h
            injection h1 with h2 _ _
            exact hk h2
          have n0 : (xk == yk) = false := by rw [beq_eq_false_iff_ne]; exact hk
          have n1 : (xk != yk) = true := by rw [bne_iff_ne]; exact hk
          have HNE := Go.Lib.hid hne
          clear hne HXE TA TB HQ HR
          go_wp2_with fail
          go_quiet (fail)
          go_wp2_with fail
          go_ret
          exact ⟨false, ⟨(fun h => by cases h), fun h => absurd h HNE.out⟩, rfl, bel_drewN B8 _⟩
      · obtain rfl : n = j := by omega
        go_wp2_with fail
        go_ret
        have h1 := HQ.out
        rw [List.take_of_length_le (by rw [LA.out]; exact Nat.le_refl _), List.take_of_length_le (by rw [LB.out]; exact Nat.le_refl _)] at h1
        exact ⟨true, ⟨fun _ => h1, fun _ => rfl⟩, rfl, hw⟩
  · have i1 : ((n : Int) != (m : Int)) = true := by rw [bne_iff_ne]; omega
    have hne : ds ≠ es := fun h => hnm (by rw [← la, ← lb, h])
    have HNE := Go.Lib.hid hne
    clear la lb hne
    go_enter Try.func24, Try.ntmps24
    go_wp2_with fail
    go_ret
    exact ⟨false, ⟨(fun h => by cases h), fun h => absurd h HNE.out⟩, rfl, Below.refl _ _⟩

end Go.Proofs.Ytjgddlnfjmdnnaa.QcWalk

/-
  Walk of a statement of layer 7: QcodeTakes.
-/
namespace Go.Proofs.Ytjgddlnfjmdnnaa.QkLaw
open Go.RowKit Go.WideShapes Go.ChangeShapes Go.Proofs.Ytjgddlnfjmdnnaa.MemRow Go.Proofs.Ytjgddlnfjmdnnaa.Ev Go.Proofs.Ytjgddlnfjmdnnaa.NameMath Go.Proofs.Ytjgddlnfjmdnnaa.NameWalk Go.Proofs.Ytjgddlnfjmdnnaa.EvWalk Go.Proofs.Ytjgddlnfjmdnnaa.NumMath Go.Proofs.Ytjgddlnfjmdnnaa.NumMem Go.Proofs.Ytjgddlnfjmdnnaa.NumWalk Go.Proofs.Ytjgddlnfjmdnnaa.Qu Go.Proofs.Ytjgddlnfjmdnnaa.QuWalk Go.Proofs.Ytjgddlnfjmdnnaa.QlLaw Go.Proofs.Ytjgddlnfjmdnnaa.QcWalk Go.Proofs.Ytjgddlnfjmdnnaa.Open

theorem left_n (g : Nat) (l : List UInt8) (bad : Bool) (n : Nat) (w : World) (h : Rdr w 72 g l bad) (hn : l.length = n) :
    Calls Try.prog 25 #[.pointer (some ⟨g, 0, none⟩)] w fun e w' => e = .returned (.int .i64 (n : Int)) ∧ w = w' := by
  subst hn
  exact left_any g l bad w h
/-- A contract that leaves the world alone, inside a region that only reads. -/
theorem still {P : Program} {f : FuncId} {args : Array Value} {w : World} {n : Nat} {v : Value} (h : Calls P f args (w.drewN n) fun e w' => e = .returned v ∧ w.drewN n = w') : Calls P f args (w.drewN n) fun e w' => e = .returned v ∧ ∃ m, w' = w.drewN m :=
  h.mono fun _ _ hh => ⟨hh.1, n, hh.2.symm⟩

set_option maxHeartbeats 8000000 in
set_option maxRecDepth 100000 in
theorem takes_walk (api : CApi) (A : Option Addr) (n cap : Nat) (l : List UInt8) (w : World) (hl : Rd w A n cap l) :
    Calls Try.prog 4 #[.slice A n cap] w fun e w' => e = .returned (.bool true) ∧ Below w.heap.size w w' := by
  have hcap := hl.le_cap
  have hmax := hl.2.2.1
  unfold maxLen at hmax
  go_enter Try.func4, Try.ntmps4
  go_wp2_with fail
  refine (shown7_any api _).mono ?_
  rintro e w1 ⟨rfl, B1⟩
  have r1 := hl.below B1
  go_upto_if 19 with (fail)
  go_cut [0] (fun v wx => w1 = wx ∧ ∃ A' n' cap' l', v = .slice A' n' cap' ∧ n' ≤ 600 ∧ Rd w1 A' n' cap' l')
  case first =>
    go_wp2_with fail
    · go_meet
      exact ⟨rfl, _, _, _, _, rfl, by omega, r1.first (by omega)⟩
    · go_meet
      exact ⟨rfl, _, _, _, _, rfl, by omega, r1⟩
  case rest =>
    obtain ⟨rfl, A', n', cap', l', rfl, hn', r2⟩ := hcut
    clear r1 hl hcap hmax
    have hln := r2.len
    have hll : l'.length ≤ 600 := by omega
    have HLL := Go.Lib.hid hll
    have ba : Below w1.heap.size w1 (w1.alloc (.cells #[] 5)) := (Below.refl _ _).alloc (Nat.le_refl _) _
    have r3 := r2.below ba
    clear hln hll
    go_wp2_with (first
      | (at_builtin; refine wpList_append_fresh rfl (.tmp 22) (.tmp 23) 22 rfl 5 Try.underlying22 u8_info rfl rfl (Own.empty w1 5 (Nat.le_refl _)) r3 (by omega) ba.size w1 ba ?_; intro A5 c5 w5 o5 b5))
    have B5 := below_chain B1 b5
    refine (newReader_any _ _ _ _ _ o5.rd (by omega)).mono ?_
    rintro e w6 ⟨g, rfl, hg, hr6, hb6⟩
    have B6 := below_chain B5 hb6
    have hg' : w.heap.size ≤ g := Nat.le_trans B5.size hg
    have r6 := (r2.below b5).below hb6
    clear r2 r3 ba o5 b5 B5 hb6 B1 hg
    go_wp2_with fail
    refine (api.take g l' w6 hr6 (by have := HLL.out; omega)).mono ?_
    rintro e w7 ⟨T7, m7, c7, rfl, x1, HR, gg⟩
    have B7 := B6.grown gg B6.size (by rintro q ⟨rfl⟩; exact hg')
    have r7 := r6.grown gg hr6.no_byte
    have gl := hr6.lt
    have gl7 : g < w7.heap.size := Nat.lt_of_lt_of_le gl gg.size
    clear gg hr6 B6 r6 gl
    go_upto_region 8 with (fail)
    have al : Below w7.heap.size w7 (w7.alloc (.cells #[.slice T7 m7 c7] 25)) := (Below.refl _ _).alloc (Nat.le_refl _) _
    have E8 := QAt.new w7 (.slice T7 m7 c7)
    have B8 := below_chain B7 al
    have r8 := r7.below al
    have x1' := x1.below al
    have HR8 := Go.Lib.hid (fun h => (HR.out h).below al)
    have gl8 := Nat.lt_of_lt_of_le gl7 al.size
    generalize w7.alloc (.cells #[.slice T7 m7 c7] 25) = w8 at *
    generalize w7.heap.size = gx at *
    clear x1 HR B7 r7 al gl7
    have bc : Below w8.heap.size w8 (w8.alloc (.cells #[] 5)) := (Below.refl _ _).alloc (Nat.le_refl _) _
    have r9 := r8.below bc
    go_upto_region 9 with (at_builtin; refine wpList_append_fresh rfl (.tmp 33) (.tmp 34) 22 rfl 5 Try.underlying22 u8_info rfl rfl (Own.empty w8 5 (Nat.le_refl _)) r9 (by omega) bc.size w8 bc ?_; intro A9 c9 w9 o9 b9)
    have be : Below w9.heap.size w9 (w9.alloc (.cells #[.slice A9 n' c9, .bool false] 44)) := (Below.refl _ _).alloc (Nat.le_refl _) _
    have hy : Rdr (w9.alloc (.cells #[.slice A9 n' c9, .bool false] 44)) 44 w9.heap.size l' false := ⟨_, _, _, heap_alloc_new w9 _, o9.rd.below be, fun a h => by subst h; exact (World.ownsRow.lt o9 a.block rfl).2⟩
    have b810 := below_chain b9 be
    have s89 := b9.size
    generalize w9.alloc (.cells #[.slice A9 n' c9, .bool false] 44) = w10 at *
    generalize w9.heap.size = g2 at *
    clear o9 b9 r9 bc be
    go_wp2_with fail
    refine (refTakeQ_any g2 l' false w10 hy).mono ?_
    rintro e w11 ht
    obtain ⟨T11, m11, c11, rfl, y1, HY, gg⟩ := tk_one ht
    have b811 := b810.grown gg b810.size (by rintro q ⟨rfl⟩; exact s89)
    have B11 := below_chain B8 b811
    have r11 := r8.below b811
    have x11 := x1'.below b811
    have HR11 := Go.Lib.hid (fun h => (HR8.out h).below b811)
    have E11 := E8.below b811
    clear ht gg hy b810 b811 B8 r8 x1' HR8 E8
    have al : Below w11.heap.size w11 (w11.alloc (.cells #[.slice T11 m11 c11] 25)) := (Below.refl _ _).alloc (Nat.le_refl _) _
    have D12 := QAt.new w11 (.slice T11 m11 c11)
    have E12 := E11.below al
    have B12 := below_chain B11 al
    have r12 := r11.below al
    have x12 := x11.below al
    have y12 := y1.below al
    have HR12 := Go.Lib.hid (fun h => (HR11.out h).below al)
    have HY12 := Go.Lib.hid (fun h => (HY.out h).below al)
    go_upto_region 10 with (fail)
    generalize w11.alloc (.cells #[.slice T11 m11 c11] 25) = w12 at *
    generalize w11.heap.size = gy at *
    clear B11 r11 x11 HR11 E11 y1 HY al
    have bc : Below w12.heap.size w12 (w12.alloc (.cells #[] 5)) := (Below.refl _ _).alloc (Nat.le_refl _) _
    have r13 := r12.below bc
    go_wp2_with (at_builtin; refine wpList_append_fresh rfl (.tmp 44) (.tmp 45) 22 rfl 5 Try.underlying22 u8_info rfl rfl (Own.empty w12 5 (Nat.le_refl _)) r13 (by omega) bc.size w12 bc ?_; intro A13 c13 w13 o13 b13)
    refine (api.takeD A13 n' c13 l' w13 o13.rd (by have := HLL.out; omega)).mono ?_
    rintro e w14 ⟨P14, m14, q14, rfl, v14, b14⟩
    have b1214 := below_chain b13 b14
    have r14 := r12.below b1214
    clear o13 r13 bc b13 b14
    go_wp2_with fail
    refine (refTakeDs_any A' n' cap' l' w14 r14 (by have := HLL.out; omega)).mono ?_
    rintro e w15 ho
    obtain ⟨P15, m15, q15, rfl, v15, b15⟩ := td_one ho
    have b1215 := below_chain b1214 b15
    have v15' := v14.below b15
    have B15 := below_chain B12 b1215
    have E15 := E12.below b1215
    have D15 := D12.below b1215
    have x15 := x12.below b1215
    have y15 := y12.below b1215
    have HR15 := Go.Lib.hid (fun h => (HR12.out h).below b1215)
    have HY15 := Go.Lib.hid (fun h => (HY12.out h).below b1215)
    clear ho r14 b1214 b15 v14 b1215 E12 D12 x12 y12 HR12 HY12 B12 r12
    have k0 := E15.c0
    have j0 := D15.c0
    go_wp2_with fail
    refine (refSameQ_any _ _ (tkQ l') (tkQ l') w15 ⟨_, _, _, rfl, x15⟩ ⟨_, _, _, rfl, y15⟩).mono ?_
    rintro e w16 ⟨R1, hR1, rfl, b16⟩
    obtain rfl : R1 = true := hR1.2 rfl
    have B16 := below_chain B15 b16
    have v16 := v15.below b16
    have v16' := v15'.below b16
    have HR16 := Go.Lib.hid (fun h => (HR15.out h).below b16)
    have HY16 := Go.Lib.hid (fun h => (HY15.out h).below b16)
    clear hR1 k0 j0 E15 D15 x15 y15 b16 B15 v15 v15' HR15 HY15
    go_wp2_with fail
    refine (refSameDs_any P14 P15 m14 m15 q14 q15 (tdD l') (tdD l') w16 v16' v16).mono ?_
    rintro e w17 ⟨R, hR, rfl, b17⟩
    obtain rfl : R = true := hR.2 rfl
    have B17 := below_chain B16 b17
    have HR17 := Go.Lib.hid (fun h => (HR16.out h).below b17)
    have HY17 := Go.Lib.hid (fun h => (HY16.out h).below b17)
    clear b17 hR B16 v16 v16' HR16 HY16
    generalize tdC l' = ca at *
    by_cases h0 : tkC l' = 0
    · have ra := HR17.out h0
      have rb := HY17.out h0
      rw [h0]
      clear HR17 HY17 h0
      generalize tkL l' = tl at *
      obtain ⟨Az, nz, cz, hh, hrr, _⟩ := rb
      obtain ⟨z0, z1, _⟩ := two_cell hh
      have hlen := hrr.len
      have HLEN := Go.Lib.hid hlen
      clear hh hrr hlen
      go_wp2_with fail
      go_quiet (first | (go_at_call 25; exact still (left_n g tl false nz _ ra HLEN.out)))
      go_wp2_with fail
      go_ret
      exact ⟨by simp, bel_drewN B17 _⟩
    · have m0 : (tkC l' != 0) = true := by rw [bne_iff_ne]; exact h0
      clear HR17 HY17 h0
      generalize tkC l' = ct at *
      go_wp2_with fail
      go_quiet (fail)
      go_wp2_with fail
      go_ret
      exact ⟨by simp, bel_drewN B17 _⟩

section
variable {H : Type} {enc : TypeId × Value → H}
set_option maxRecDepth 100000 in
theorem takes_main' (api : CApi) (W : World) (base : Nat) (v0 : Value) {d0 : DataW H} {p0 : List MemPlace} (o0 : Value.okWide Try.prog W .any base 22 v0)
    (h0 : DataW.Trod enc Try.prog W 0 (fun _ => true) true 22 v0 d0 p0) :
    Calls Try.prog 4 #[v0] W fun e W' => e = .returned (.bool true) ∧ Below W.heap.size W W' := by
  obtain ⟨A, n, cap, l, rfl, hl⟩ := op_bytes Try.underlying22 Try.underlying5 (by kernel_rfl) o0 h0
  exact takes_walk api A n cap l W hl
end

end Go.Proofs.Ytjgddlnfjmdnnaa.QkLaw

/-
  QcodeTakes, its walk over the landed qcode.
-/
namespace Go.Proofs.Ytjgddlnfjmdnnaa.QkLaw
open Go.RowKit Go.WideShapes Go.ChangeShapes Go.Proofs.Ytjgddlnfjmdnnaa.MemRow Go.Proofs.Ytjgddlnfjmdnnaa.Ev Go.Proofs.Ytjgddlnfjmdnnaa.NameMath Go.Proofs.Ytjgddlnfjmdnnaa.NameWalk Go.Proofs.Ytjgddlnfjmdnnaa.EvWalk Go.Proofs.Ytjgddlnfjmdnnaa.NumMath Go.Proofs.Ytjgddlnfjmdnnaa.NumMem Go.Proofs.Ytjgddlnfjmdnnaa.NumWalk Go.Proofs.Ytjgddlnfjmdnnaa.Qu Go.Proofs.Ytjgddlnfjmdnnaa.QuWalk Go.Proofs.Ytjgddlnfjmdnnaa.QlLaw Go.Proofs.Ytjgddlnfjmdnnaa.QcWalk Go.Proofs.Ytjgddlnfjmdnnaa.Open
section
variable {H : Type} {enc : TypeId × Value → H}
set_option maxRecDepth 100000 in
theorem takes_main (W : World) (base : Nat) (v0 : Value) {d0 : DataW H} {p0 : List MemPlace} (o0 : Value.okWide Try.prog W .any base 22 v0)
    (h0 : DataW.Trod enc Try.prog W 0 (fun _ => true) true 22 v0 d0 p0) :
    Calls Try.prog 4 #[v0] W fun e W' => e = .returned (.bool true) ∧ Below W.heap.size W W' := takes_main' cApi W base v0 o0 h0
end

end Go.Proofs.Ytjgddlnfjmdnnaa.QkLaw

/-
  Walk of a statement of layer 7: QcodePuts.
-/
namespace Go.Proofs.Ytjgddlnfjmdnnaa.QkLaw
open Go.RowKit Go.WideShapes Go.ChangeShapes Go.Proofs.Ytjgddlnfjmdnnaa.MemRow Go.Proofs.Ytjgddlnfjmdnnaa.Ev Go.Proofs.Ytjgddlnfjmdnnaa.NameMath Go.Proofs.Ytjgddlnfjmdnnaa.NameWalk Go.Proofs.Ytjgddlnfjmdnnaa.EvWalk Go.Proofs.Ytjgddlnfjmdnnaa.NumMath Go.Proofs.Ytjgddlnfjmdnnaa.NumMem Go.Proofs.Ytjgddlnfjmdnnaa.NumWalk Go.Proofs.Ytjgddlnfjmdnnaa.Qu Go.Proofs.Ytjgddlnfjmdnnaa.QuWalk Go.Proofs.Ytjgddlnfjmdnnaa.QlLaw Go.Proofs.Ytjgddlnfjmdnnaa.QcWalk Go.Proofs.Ytjgddlnfjmdnnaa.Open

set_option maxHeartbeats 8000000 in
set_option maxRecDepth 100000 in
theorem puts_walk (api : CApi) (A : Option Addr) (n cap : Nat) (l : List UInt8) (v : Value) (q : List Cl) (C : Option Addr) (m cc : Nat) (ds : List Df) (w : World) (hl : Rd w A n cap l) (hv : IsQ w v q) (hok : QOk q) (hd : RdD w C m cc ds) (hdo : DsOk ds) :
    Calls Try.prog 3 #[.slice A n cap, v, .slice C m cc] w fun e w' => e = .returned (.bool true) ∧ Below w.heap.size w w' := by
  have hv0 := hv
  have hok' := fewQ_ok hok
  have hlim := fewQ_lim q
  have hcap := hl.le_cap
  have hmax := hl.2.2.1
  unfold maxLen at hmax
  have hmm := hd.le
  unfold maxLen at hmm
  obtain ⟨A0, n0, ca0, rfl, _⟩ := hv
  have st := QAt.new w (.slice A0 n0 ca0)
  have B1 : Below w.heap.size w (w.alloc (.cells #[.slice A0 n0 ca0] 25)) := (Below.refl _ _).alloc (Nat.le_refl _) _
  go_enter Try.func3, Try.ntmps3
  go_wp2_with fail
  generalize w.alloc (.cells #[.slice A0 n0 ca0] 25) = w1 at *
  refine (shown7_any api _).mono ?_
  rintro e w2 ⟨rfl, b2⟩
  have st2 := st.below b2
  have B2 := below_chain B1 b2
  have r2 := hl.below B2
  clear st b2 hl B1
  go_upto_if 20 with (fail)
  go_cut [0] (fun v wx => w2 = wx ∧ ∃ A' n' cap' l', v = .slice A' n' cap' ∧ n' ≤ 50 ∧ Rd w2 A' n' cap' l')
  case first =>
    go_wp2_with fail
    · go_meet
      exact ⟨rfl, _, _, _, _, rfl, by omega, r2.first (by omega)⟩
    · go_meet
      exact ⟨rfl, _, _, _, _, rfl, by omega, r2⟩
  case rest =>
    obtain ⟨rfl, A', n', cap', l', rfl, hn', r3⟩ := hcut
    clear r2 hcap hmax
    have hll : l'.length ≤ 1000 := by rw [r3.len]; omega
    have hll2 : l'.length ≤ 1000000 := by omega
    have HL3 := Go.Lib.hid r3.len
    have k0 := st2.c0
    have bd1 : Below w2.heap.size w2 (w2.alloc (.cells #[] 5)).drew := bel_drew ((Below.refl _ _).alloc (Nat.le_refl _) _)
    have ow1 : Own (w2.alloc (.cells #[] 5)).drew w2.heap.size 5 (some ⟨w2.heap.size, 0, none⟩) 0 0 [] := Own.empty w2 5 (Nat.le_refl _)
    have rd1 := r3.below bd1
    have s1 := st2.below bd1
    go_wp2_with fail
    go_region_held_law (fun w' => w'.cell? ⟨w.heap.size, 0, none⟩ = some (.slice A0 n0 ca0))
      (first | exact k0 | exact s1.c0 | exact s5.c0 | exact s6.c0 | exact s7.c0)
      (first
        | (refine step_append_fresh (by rfl) (.tmp 24) (.tmp 25) 22 rfl 5 Try.underlying22 u8_info rfl rfl ow1 rd1 (by omega) bd1.size w2 bd1 ?_; intro A5 c5 w5 o5 b5; have s5 := st2.below b5; have B5 := below_chain B2 b5; (try go_simp))
        | (go_simp; go_at_call 11; refine (fewQ7_any _ q w w5 hv0 B5).mono ?_; rintro e w6 ⟨A6, n6, c6, rfl, oq6, b6⟩; have s6 := s5.below b6; have o6 := o5.below b6; have B6 := below_chain B5 b6)
        | (go_simp; go_at_call 10; refine (api.put A5 n' c5 l' _ (fewQ q) w6 o6.rd hll (OwnQ.is_ oq6 B6) hok' hlim).mono ?_; rintro e w7 ⟨A7, m7, c7, x7, rfl, r7, H7, b7⟩; have s7 := s6.below b7))
    have r8 := r3.below (below_chain (below_chain b5 b6) b7)
    have B7 := below_chain B6 b7
    have k0 := s7.c0
    clear s1 s5 s6 o5 o6 b5 b6 b7 oq6 B5 B6 ow1 rd1 bd1 st2 r3
    go_wp2_with fail
    refine (fewQ7_any _ q w w7 hv0 B7).mono ?_
    rintro e w8 ⟨A8, n8, c8, rfl, oq8, b8⟩
    have B8 := below_chain B7 b8
    have r9 := r8.below b8
    have r7' := r7.below b8
    clear k0 s7 r8 r7 b8 B7
    go_wp2_with fail
    refine (refPutQ_any A' n' cap' l' _ (fewQ q) w8 r9 hll2 (OwnQ.is_ oq8 B8) hok').mono ?_
    rintro e w9 hp9
    obtain ⟨A9, m9, c9, x9, rfl, q9, H9, b9⟩ := put_one hp9
    have B9 := below_chain B8 b9
    have r7'' := r7'.below b9
    have hx : x9 = x7 := by rw [H9.out, H7.out]
    subst hx
    clear r9 hp9 r7' b9 H7 H9 oq8 B8
    generalize mayQ (fewQ q) = M at *
    have hd9 := hd.below B9
    have hso := someD_ok hdo
    have hsl := someD_lim ds
    go_wp2_with fail
    refine (some_any C m cc ds w9 hd9).mono ?_
    rintro e w10 ⟨C10, m10, c10, rfl, rd10, b10⟩
    have B10 := below_chain B9 b10
    have q10 := q9.below b10
    have p10 := r7''.below b10
    clear hd9 q9 r7'' b10 B9
    go_wp2_with fail
    refine (api.putD C10 m10 c10 (someD ds) w10 rd10 hso hsl).mono ?_
    rintro e w11 ⟨A11, m11, c11, x11, rfl, r11, H11, b11⟩
    have B11 := below_chain B10 b11
    have q11 := q10.below b11
    have p11 := p10.below b11
    clear q10 p10 rd10 b11 B10
    have hd11 := hd.below B11
    go_wp2_with fail
    refine (some_any C m cc ds w11 hd11).mono ?_
    rintro e w12 ⟨C12, m12, c12, rfl, rd12, b12⟩
    have B12 := below_chain B11 b12
    have q12 := q11.below b12
    have p12 := p11.below b12
    have r12 := r11.below b12
    clear hd11 q11 p11 r11 b12 B11
    go_wp2_with fail
    refine (refPutDs_any C12 m12 c12 (someD ds) w12 rd12 hso).mono ?_
    rintro e w13 hp13
    obtain ⟨A13, m13, c13, x13, rfl, r13, H13, b13⟩ := ds_one hp13
    have B13 := below_chain B12 b13
    have q13 := q12.below b13
    have p13 := p12.below b13
    have t13 := r12.below b13
    have hx : x13 = x11 := by rw [H13.out, H11.out]
    subst hx
    clear q12 p12 r12 rd12 b13 B12 hp13 H13 H11
    generalize mayDs (someD ds) = MD at *
    have HSO := Go.Lib.hid hso
    have HSL := Go.Lib.hid hsl
    have HSZ := Go.Lib.hid (someD_size ds)
    have HM := Go.Lib.hid hd.len
    clear hso hsl
    go_wp2_with fail
    go_loopw [16] (fun i wr => ∃ j : Nat, j ≤ m ∧ i = .int .i64 j ∧ Below w13.heap.size w13 wr) (fun i _ => m - (intOf i).toNat)
    case atStart => exact ⟨0, Nat.zero_le _, rfl, Below.refl _ _⟩
    case round =>
      obtain ⟨j, hj, rfl, bq⟩ := hrel
      by_cases hlt : j < m ∧ j < 6
      · obtain ⟨h1, h2⟩ := hlt
        have i1 : (j : Int) < m := by omega
        have i2 : (j : Int) < 6 := by omega
        have bw := below_chain B13 bq
        have hjs : j < (someD ds).length := by rw [HSZ.out, HM.out]; omega
        have hds := HSO.out _ (df_get hjs)
        have hdl := HSL.out.2 _ (df_get hjs)
        have HJS := Go.Lib.hid hjs
        clear hjs
        go_wp2_with fail
        refine (some_any C m cc ds wr (hd.below bw)).mono ?_
        rintro e w14 ⟨C14, m14, c14, rfl, rd14, b14⟩
        have hj14 : j < m14 := by rw [← rd14.len]; exact HJS.out
        obtain ⟨bt, ot, rfl, _, kt⟩ := rd14.at_ (by omega)
        obtain ⟨E, nE, cE, x0, x1, x2, rE⟩ := kt j hj14
        have bw14 := below_chain bw b14
        have bq14 := below_chain bq b14
        clear kt rd14 b14 bw bq
        have i3 : (j : Int) < m14 := by omega
        go_wp2_with fail
        refine (api.mayD _ _ w14 ⟨E, nE, cE, rfl, rE⟩ hds hdl).mono ?_
        rintro e w15 ⟨rfl, b15⟩
        obtain ⟨M1, hM1⟩ : ∃ M1, M1 = mayD ((someD ds).getD j noDf) := ⟨_, rfl⟩
        rw [← hM1]
        have HM1 := Go.Lib.hid hM1
        clear hM1
        have bw15 := below_chain bw14 b15
        have bq15 := below_chain bq14 b15
        clear x0 x1 x2 rE b15 bw14 bq14 i3 hj14
        go_wp2_with fail
        refine (some_any C m cc ds w15 (hd.below bw15)).mono ?_
        rintro e w16 ⟨C16, m16, c16, rfl, rd16, b16⟩
        have hj16 : j < m16 := by rw [← rd16.len]; exact HJS.out
        obtain ⟨bt, ot, rfl, _, kt⟩ := rd16.at_ (by omega)
        obtain ⟨E, nE, cE, x0, x1, x2, rE⟩ := kt j hj16
        have bq16 := below_chain bq15 b16
        clear kt rd16 b16 bw15 bq15
        have i3 : (j : Int) < m16 := by omega
        go_wp2_with fail
        refine (refMayD_any _ _ w16 ⟨E, nE, cE, rfl, rE⟩ hds).mono ?_
        rintro e w17 ⟨rfl, b17⟩
        have bq17 := below_chain bq16 b17
        clear x0 x1 x2 rE b17 bq16 i3 hj16 hds hdl HJS
        obtain ⟨M2, hM2⟩ : ∃ M2, M2 = mayD ((someD ds).getD j noDf) := ⟨_, rfl⟩
        rw [← hM2]
        have hne : (M1 != M2) = false := by rw [HM1.out, hM2]; simp
        clear hM2 HM1
        go_wp2_with fail
        go_roundw
        case rel => exact ⟨j + 1, by omega, by go_num, bq17⟩
        case measure => simp [intOf]; omega
      · have hway : ¬ (j : Int) < m ∨ ((j : Int) < m ∧ ¬ (j : Int) < 6) := by omega
        have B14 := below_chain B13 bq
        have sx := rd_str (q13.below bq)
        have sy := rd_str (p13.below bq)
        have tx := rd_str (t13.below bq)
        have ty := rd_str (r13.below bq)
        clear hlt q13 p13 t13 r13 hd bq B13
        rcases hway with i1 | ⟨i1, i2⟩
        all_goals
          go_wp2_with fail
          go_ret
          exact ⟨by simp, B14⟩

section
variable {H : Type} {enc : TypeId × Value → H}
set_option maxRecDepth 100000 in
theorem puts_main' (api : CApi) (W : World) (base : Nat) (v0 v1 v2 : Value) {d0 d1 d2 : DataW H} {p0 p1 p2 : List MemPlace} (o0 : Value.okWide Try.prog W .any base 22 v0) (o1 : Value.okWide Try.prog W .any base 25 v1) (o2 : Value.okWide Try.prog W .any base 26 v2)
    (h0 : DataW.Trod enc Try.prog W 0 (fun _ => true) true 22 v0 d0 p0) (h1 : DataW.Trod enc Try.prog W 0 (fun _ => true) true 25 v1 d1 p1) (h2 : DataW.Trod enc Try.prog W 0 (fun _ => true) true 26 v2 d2 p2) :
    Calls Try.prog 3 #[v0, v1, v2] W fun e W' => e = .returned (.bool true) ∧ Below W.heap.size W W' := by
  obtain ⟨A, n, cap, l, rfl, hl⟩ := op_bytes Try.underlying22 Try.underlying5 (by kernel_rfl) o0 h0
  obtain ⟨q, hv, okq⟩ := op_query o1 h1
  obtain ⟨C, m, cc, ds, rfl, hd, okd⟩ := op_defs o2 h2
  exact puts_walk api A n cap l v1 q C m cc ds W hl hv okq hd okd
end

end Go.Proofs.Ytjgddlnfjmdnnaa.QkLaw

/-
  QcodePuts, its walk over the landed qcode.
-/
namespace Go.Proofs.Ytjgddlnfjmdnnaa.QkLaw
open Go.RowKit Go.WideShapes Go.ChangeShapes Go.Proofs.Ytjgddlnfjmdnnaa.MemRow Go.Proofs.Ytjgddlnfjmdnnaa.Ev Go.Proofs.Ytjgddlnfjmdnnaa.NameMath Go.Proofs.Ytjgddlnfjmdnnaa.NameWalk Go.Proofs.Ytjgddlnfjmdnnaa.EvWalk Go.Proofs.Ytjgddlnfjmdnnaa.NumMath Go.Proofs.Ytjgddlnfjmdnnaa.NumMem Go.Proofs.Ytjgddlnfjmdnnaa.NumWalk Go.Proofs.Ytjgddlnfjmdnnaa.Qu Go.Proofs.Ytjgddlnfjmdnnaa.QuWalk Go.Proofs.Ytjgddlnfjmdnnaa.QlLaw Go.Proofs.Ytjgddlnfjmdnnaa.QcWalk Go.Proofs.Ytjgddlnfjmdnnaa.Open
section
variable {H : Type} {enc : TypeId × Value → H}
set_option maxRecDepth 100000 in
theorem puts_main (W : World) (base : Nat) (v0 v1 v2 : Value) {d0 d1 d2 : DataW H} {p0 p1 p2 : List MemPlace} (o0 : Value.okWide Try.prog W .any base 22 v0) (o1 : Value.okWide Try.prog W .any base 25 v1) (o2 : Value.okWide Try.prog W .any base 26 v2)
    (h0 : DataW.Trod enc Try.prog W 0 (fun _ => true) true 22 v0 d0 p0) (h1 : DataW.Trod enc Try.prog W 0 (fun _ => true) true 25 v1 d1 p1) (h2 : DataW.Trod enc Try.prog W 0 (fun _ => true) true 26 v2 d2 p2) :
    Calls Try.prog 3 #[v0, v1, v2] W fun e W' => e = .returned (.bool true) ∧ Below W.heap.size W W' := puts_main' cApi W base v0 v1 v2 o0 o1 o2 h0 h1 h2
end

end Go.Proofs.Ytjgddlnfjmdnnaa.QkLaw

/-
  Walk of a statement of layer 7: QcodeApart.
-/
namespace Go.Proofs.Ytjgddlnfjmdnnaa.QkLaw
open Go.RowKit Go.WideShapes Go.ChangeShapes Go.Proofs.Ytjgddlnfjmdnnaa.MemRow Go.Proofs.Ytjgddlnfjmdnnaa.Ev Go.Proofs.Ytjgddlnfjmdnnaa.NameMath Go.Proofs.Ytjgddlnfjmdnnaa.NameWalk Go.Proofs.Ytjgddlnfjmdnnaa.EvWalk Go.Proofs.Ytjgddlnfjmdnnaa.NumMath Go.Proofs.Ytjgddlnfjmdnnaa.NumMem Go.Proofs.Ytjgddlnfjmdnnaa.NumWalk Go.Proofs.Ytjgddlnfjmdnnaa.Qu Go.Proofs.Ytjgddlnfjmdnnaa.QuWalk Go.Proofs.Ytjgddlnfjmdnnaa.QlLaw Go.Proofs.Ytjgddlnfjmdnnaa.QcWalk Go.Proofs.Ytjgddlnfjmdnnaa.Open

theorem elem_bytes : Try.prog.elem 22 = 5 := by kernel_rfl
theorem run_size_u8 (W : World) : (sizeOf 5).run Try.prog W = .ok 1 W := by
  have hi := u8_size
  cases hq : Try.prog.info? 5 with
  | none => simp [hq] at hi
  | some i =>
    have hs : i.size = 1 := by simpa [hq] using hi
    simp [sizeOf, typeInfo, hq, hs]
set_option maxRecDepth 100000 in
/-- v[:m] of bytes. -/
theorem slice_upto (A : Option Addr) (n cap m : Nat) (hc : m ≤ cap) (W : World) :
    (Instr.slice 22 (.slice A n cap) none (some (.int .i64 (m : Int))) none).run Try.prog W = .ok (.slice A m cap) W := by
  have hu : Try.prog.underlying 22 = some (.slice (Try.prog.elem 22)) := by rw [elem_bytes]; exact Try.underlying22
  have e : A.map (·.add 0) = A := by cases A <;> simp [Addr.add]
  rw [run_slice_h (P := Try.prog) W 22 _ n cap hu .i64 (m : Int) (by omega) (by omega), elem_bytes, run_size_u8]
  simp only [Result.andThen, sliced, Int.toNat_natCast, Nat.zero_mul, e, Nat.sub_zero]
  congr 2
  split <;> rfl

/-- The box of two rows of projections. -/
def PairAt (w : World) (g : Nat) (v0 v1 : Value) : Prop := w.heap[g]? = some (.cells #[v0, v1] 54 (0, 0))
/-- The boxes of the statement's arguments. -/
structure ApAt (wr w : World) (a b c d : Value) : Prop where
  q0 : QAt wr w.heap.size a
  q1 : QAt wr (w.heap.size + 1) b
  t2 : PairAt wr (w.heap.size + 1 + 1) c d
  bel : Below w.heap.size w wr
section
variable {wr w w' : World} {a b c d : Value}
theorem PairAt.lt {g : Nat} (h : PairAt w g c d) : g < w.heap.size := (Array.getElem?_eq_some_iff.1 h).1
theorem PairAt.below {g : Nat} (h : PairAt w g c d) (hb : Below w.heap.size w w') : PairAt w' g c d := (hb.block g h.lt).trans h
theorem PairAt.c0 {g : Nat} (h : PairAt w g c d) : w.cell? ⟨g, 0, none⟩ = some c := by rw [cell_of_row w g 0 _ _ _ h]; rfl
theorem PairAt.c1 {g : Nat} (h : PairAt w g c d) : w.cell? ⟨g, 1, none⟩ = some d := by rw [cell_of_row w g 1 _ _ _ h]; rfl
theorem PairAt.far {g k i : Nat} (h : PairAt w g c d) (hne : g ≠ k) (x : Value) : PairAt (w.setCell ⟨k, i, none⟩ x) g c d := by
  unfold PairAt at h ⊢
  simp only [World.setCell, Array.getElem?_modify]
  rw [if_neg (fun e => hne e.symm)]
  exact h
theorem ApAt.below (h : ApAt wr w a b c d) (hb : Below wr.heap.size wr w') : ApAt w' w a b c d := ⟨h.q0.below hb, h.q1.below hb, h.t2.below hb, below_chain h.bel hb⟩
theorem ApAt.drewN (h : ApAt wr w a b c d) (n : Nat) : ApAt (wr.drewN n) w a b c d := ⟨h.q0, h.q1, h.t2, NameWalk.bel_drewN h.bel n⟩
theorem ApAt.set0 (h : ApAt wr w a b c d) (x : Value) : ApAt (wr.setCell ⟨w.heap.size, 0, none⟩ x) w x b c d := ⟨h.q0.set x, h.q1.far (by omega) x, h.t2.far (by omega) x, h.bel.setCell (Nat.le_refl _) x⟩
theorem ApAt.set1 (h : ApAt wr w a b c d) (x : Value) : ApAt (wr.setCell ⟨w.heap.size + 1, 0, none⟩ x) w a x c d := ⟨h.q0.far (by omega) x, h.q1.set x, h.t2.far (by omega) x, h.bel.setCell (by show w.heap.size ≤ w.heap.size + 1; omega) x⟩
theorem ApAt.new (w : World) (a b c d : Value) : ApAt (((w.alloc (.cells #[a] 25)).alloc (.cells #[b] 25)).alloc (.cells #[c, d] 54)) w a b c d := by
  have a1 := QAt.new w a
  have b1 : Below w.heap.size w (w.alloc (.cells #[a] 25)) := (Below.refl _ _).alloc (Nat.le_refl _) _
  generalize hw1 : w.alloc (.cells #[a] 25) = w1 at *
  have s1 : w1.heap.size = w.heap.size + 1 := by rw [← hw1]; simp
  have a2 := QAt.new w1 b
  have b2 : Below w1.heap.size w1 (w1.alloc (.cells #[b] 25)) := (Below.refl _ _).alloc (Nat.le_refl _) _
  generalize hw2 : w1.alloc (.cells #[b] 25) = w2 at *
  have s2 : w2.heap.size = w.heap.size + 1 + 1 := by rw [← hw2]; simp [s1]
  have a3 : PairAt (w2.alloc (.cells #[c, d] 54)) w2.heap.size c d := heap_alloc_new w2 _
  have b3 : Below w2.heap.size w2 (w2.alloc (.cells #[c, d] 54)) := (Below.refl _ _).alloc (Nat.le_refl _) _
  rw [s1] at a2
  rw [s2] at a3
  exact ⟨(a1.below b2).below b3, a2.below b3, a3, below_chain (below_chain b1 b2) b3⟩
end

set_option maxHeartbeats 8000000 in
set_option maxRecDepth 100000 in
theorem apart_walk (api : CApi) (v u : Value) (qa qb : List Cl) (C D : Option Addr) (m k cc cd : Nat) (ds es : List Df) (w : World) (hv : IsQ w v qa) (hu : IsQ w u qb) (oka : QOk qa) (okb : QOk qb) (hc : RdD w C m cc ds) (hd : RdD w D k cd es) (okc : DsOk ds) (okd : DsOk es) :
    Calls Try.prog 6 #[v, u, .agg #[.slice C m cc, .slice D k cd]] w fun e w' => e = .returned (.bool true) ∧ Below w.heap.size w w' := by
  have hv0 := hv
  have hu0 := hu
  have oka' := fewQ_ok oka
  have okb' := fewQ_ok okb
  have lima := fewQ_lim qa
  have limb := fewQ_lim qb
  obtain ⟨A0, n0, c0, rfl, _⟩ := hv
  obtain ⟨B0, m0, d0, rfl, _⟩ := hu
  have st := ApAt.new w (.slice A0 n0 c0) (.slice B0 m0 d0) (.slice C m cc) (.slice D k cd)
  go_enter Try.func6, Try.ntmps6
  go_wp2_with fail
  generalize ((w.alloc (.cells #[.slice A0 n0 c0] 25)).alloc (.cells #[.slice B0 m0 d0] 25)).alloc (.cells #[.slice C m cc, .slice D k cd] 54) = w1 at *
  refine (shown7_any api _).mono ?_
  rintro e w2 ⟨rfl, b2⟩
  have st2 := st.below b2
  have k0 := st2.q0.c0
  clear st b2
  go_wp2_with fail
  refine (fewQ7_any _ qa w w2 hv0 st2.bel).mono ?_
  rintro e w3 ⟨A3, n3, c3, rfl, o3, b3⟩
  have st3 := st2.below b3
  have hlt3 := st2.t2.lt
  have k0 := st3.q0.c0
  have z0 := st3.q0.frozen 0
  have k1 := st3.q1.c0
  have st4 := st3.set0 (.slice A3 n3 c3)
  have o4 := OwnQ.grown o3 (grownSet w3 w.heap.size 0 (.slice A3 n3 c3)) (by omega)
  have j1 := st4.q1.c0
  clear st2 b3 st3 o3
  go_wp2_with fail
  generalize w3.setCell ⟨w.heap.size, 0, none⟩ (.slice A3 n3 c3) = w4 at *
  clear k0 z0 k1 j1
  have hlt4 := st4.t2.lt
  refine (fewQ7_any _ qb w w4 hu0 st4.bel).mono ?_
  rintro e w5 ⟨B5, m5, d5, rfl, p5, b5⟩
  have st5 := st4.below b5
  have o5 := o4.below b5
  have k1 := st5.q1.c0
  have z1 := st5.q1.frozen 0
  have st6 := st5.set1 (.slice B5 m5 d5)
  have o6 := OwnQ.grown o5 (grownSet w5 (w.heap.size + 1) 0 (.slice B5 m5 d5)) (by omega)
  have p6 := OwnQ.grown p5 (grownSet w5 (w.heap.size + 1) 0 (.slice B5 m5 d5)) (by omega)
  clear st4 b5 st5 o4 o5 p5
  go_upto_region 4 with (fail)
  generalize w5.setCell ⟨w.heap.size + 1, 0, none⟩ (.slice B5 m5 d5) = w6 at *
  clear k1 z1
  generalize fewQ qa = fa at *
  generalize fewQ qb = fb at *
  have k0 := st6.q0.c0
  go_wp2_with fail
  refine (api.put none 0 0 [] _ fa w6 (Rd.nil _) (by decide) (OwnQ.is_ o6 st6.bel) oka' lima).mono ?_
  rintro e w7 ⟨A7, m7, c7, x7, rfl, r7, H7, b7⟩
  have st7 := st6.below b7
  have p7 := p6.below b7
  have o7 := o6.below b7
  clear k0 st6 b7 p6 o6 hlt3 hlt4
  have k1 := st7.q1.c0
  go_wp2_with fail
  refine (api.put none 0 0 [] _ fb w7 (Rd.nil _) (by decide) (OwnQ.is_ p7 st7.bel) okb' limb).mono ?_
  rintro e w8 ⟨A8, m8, c8, x8, rfl, r8, H8, b8⟩
  have st8 := st7.below b8
  have p8 := p7.below b8
  have o8 := o7.below b8
  have r7' := r7.below b8
  clear k1 st7 b8 p7 o7 r7
  go_upto_region 6 with (fail)
  go_cut [39] (fun c wx => c = .bool (decide (mayQ fa = 0 ∧ mayQ fb = 0)) ∧ w8 = wx)
  case first =>
    by_cases ha : mayQ fa = 0
    · by_cases hb : mayQ fb = 0
      · have e1 : (mayQ fa == 0) = true := by rw [beq_iff_eq]; exact ha
        have e2 : (mayQ fb == 0) = true := by rw [beq_iff_eq]; exact hb
        have HD := Go.Lib.hid (decide_eq_true (show mayQ fa = 0 ∧ mayQ fb = 0 from ⟨ha, hb⟩))
        clear ha hb
        generalize mayQ fa = MA at *
        generalize mayQ fb = MB at *
        go_wp2_with fail
        go_meet
        exact ⟨by rw [HD.out], rfl⟩
      · have e1 : (mayQ fa == 0) = true := by rw [beq_iff_eq]; exact ha
        have e2 : (mayQ fb == 0) = false := by rw [beq_eq_false_iff_ne]; exact hb
        have HD := Go.Lib.hid (decide_eq_false (show ¬ (mayQ fa = 0 ∧ mayQ fb = 0) from fun h => hb h.2))
        clear ha hb
        generalize mayQ fa = MA at *
        generalize mayQ fb = MB at *
        go_wp2_with fail
        go_meet
        exact ⟨by rw [HD.out], rfl⟩
    · have e1 : (mayQ fa == 0) = false := by rw [beq_eq_false_iff_ne]; exact ha
      have HD := Go.Lib.hid (decide_eq_false (show ¬ (mayQ fa = 0 ∧ mayQ fb = 0) from fun h => ha h.1))
      clear ha
      generalize mayQ fa = MA at *
      generalize mayQ fb = MB at *
      go_wp2_with fail
      go_meet
      exact ⟨by rw [HD.out], rfl⟩
  obtain ⟨rfl, rfl⟩ := hcut
  go_upto_if 39 with (fail)
  go_cut [7] (fun v wx => v = .bool true ∧ ApAt wx w (.slice A3 n3 c3) (.slice B5 m5 d5) (.slice C m cc) (.slice D k cd))
  case first =>
    by_cases hab : mayQ fa = 0 ∧ mayQ fb = 0
    · have hdec : decide (mayQ fa = 0 ∧ mayQ fb = 0) = true := decide_eq_true hab
      rw [hdec]
      clear hdec
      obtain ⟨ha, hb⟩ := hab
      · have hab := True.intro
        have hx7 : x7 = encQ fa := by rw [H7.out, if_pos ha]; rfl
        have hx8 : x8 = encQ fb := by rw [H8.out, if_pos hb]; rfl
        subst hx7 hx8
        have HA0 := Go.Lib.hid ha
        have HB0 := Go.Lib.hid hb
        clear H7 H8 ha hb hab
        obtain rfl := r7'.len
        obtain rfl := r8.len
        have k0 := st8.q0.c0
        have k1 := st8.q1.c0
        have va := OwnQ.is_ o8 st8.bel
        have vb := OwnQ.is_ p8 st8.bel
        clear o8 p8
        go_wp2_with fail
        refine (refSameQ_any _ _ fa fb w8 va vb).mono ?_
        rintro e w9 ⟨S, hS, rfl, b9⟩
        have st9 := st8.below b9
        have ra := r7'.below b9
        have rb := r8.below b9
        clear k0 k1 st8 r7' r8 b9 va vb
        have sa := fun n => rd_str (ra.drewN n)
        have sb := fun n => rd_str (rb.drewN n)
        have HBEG := Go.Lib.hid (fun r h => encQ_begin HA0.out HB0.out (r := r) h)
        have HSM := Go.Lib.hid hS
        clear hS
        cases S with
        | true =>
          obtain rfl := HSM.out.1 rfl
          clear HSM HBEG HA0 HB0 oka' okb' lima limb
          have qs := slice_upto A8 (encQ fa).length c8 (encQ fa).length rb.le_cap
          clear ra rb
          generalize encQ fa = x at *
          generalize x.length = n at *
          go_wp2_with fail
          go_quiet (fail)
          go_wp2_with fail
          go_meet
          exact ⟨rfl, st9.drewN _⟩
        | false =>
          have hne : fa ≠ fb := fun h => by have := HSM.out.2 h; cases this
          have hxy : encQ fa ≠ encQ fb := fun h => hne (HBEG.out [] (by rw [List.append_nil]; exact h.symm)).1
          have b1 := bytes_ne hxy
          by_cases hle : (encQ fa).length ≤ (encQ fb).length
          · have hxt : (encQ fb).take (encQ fa).length ≠ encQ fa := fun h => hne (HBEG.out ((encQ fb).drop (encQ fa).length) (by
              have h2 := List.take_append_drop (encQ fa).length (encQ fb)
              rw [h] at h2
              exact h2.symm)).1
            have b2 := bytes_ne hxt
            have rf := rb.first hle
            have s3 := fun n => rd_str (rf.drewN n)
            have qs := slice_upto A8 (encQ fb).length c8 (encQ fa).length (Nat.le_trans hle rb.le_cap)
            clear HSM HBEG HA0 HB0 oka' okb' lima limb hne hxy hxt ra rb rf
            generalize (encQ fb).take (encQ fa).length = yt at *
            generalize encQ fa = x at *
            generalize encQ fb = y at *
            generalize x.length = n at *
            generalize y.length = m at *
            go_wp2_with fail
            go_quiet (fail)
            go_wp2_with fail
            go_meet
            exact ⟨rfl, st9.drewN _⟩
          · clear HSM HBEG HA0 HB0 oka' okb' lima limb hne hxy ra rb
            generalize encQ fa = x at *
            generalize encQ fb = y at *
            generalize x.length = n at *
            generalize y.length = m at *
            go_wp2_with fail
            go_quiet (fail)
            go_wp2_with fail
            go_meet
            exact ⟨rfl, st9.drewN _⟩
    · have hdec : decide (mayQ fa = 0 ∧ mayQ fb = 0) = false := decide_eq_false hab
      rw [hdec]
      clear H7 H8 hdec hab
      generalize mayQ fa = MA at *
      generalize mayQ fb = MB at *
      go_wp2_with fail
      go_meet
      exact ⟨rfl, st8⟩
  case rest =>
    obtain ⟨rfl, s0⟩ := hcut
    have okx := someD_ok okc
    have oky := someD_ok okd
    have limx := someD_lim ds
    have limy := someD_lim es
    clear r7' r8 H7 H8 st8 o8 p8 oka' okb' lima limb
    have t0 := s0.t2.c0
    have hc0 := hc.below s0.bel
    go_wp2_with fail
    refine (some_any C m cc ds wc hc0).mono ?_
    rintro e w10 ⟨C10, m10, c10, rfl, rx10, b10⟩
    have s10 := s0.below b10
    clear t0 hc0 s0 b10
    go_wp2_with fail
    refine (api.putD C10 m10 c10 (someD ds) w10 rx10 okx limx).mono ?_
    rintro e w11 ⟨A11, m11, c11, x11, rfl, r11, H11, b11⟩
    have s11 := s10.below b11
    clear rx10 s10 b11
    have t1 := s11.t2.c1
    have hd1 := hd.below s11.bel
    go_wp2_with fail
    refine (some_any D k cd es w11 hd1).mono ?_
    rintro e w12 ⟨C12, m12, c12, rfl, ry12, b12⟩
    have s12 := s11.below b12
    have r12 := r11.below b12
    clear t1 hd1 s11 b12 r11
    go_wp2_with fail
    refine (api.putD C12 m12 c12 (someD es) w12 ry12 oky limy).mono ?_
    rintro e w13 ⟨A13, m13, c13, x13, rfl, r13, H13, b13⟩
    have s13 := s12.below b13
    have t13 := r12.below b13
    clear ry12 s12 b13 r12
    by_cases ha : mayDs (someD ds) = 0
    · by_cases hb : mayDs (someD es) = 0
      · have hx11 : x11 = encDs (someD ds) := by rw [H11.out, if_pos ha]
        have hx13 : x13 = encDs (someD es) := by rw [H13.out, if_pos hb]
        have HIN : Hid (x11 = x13 ↔ someD ds = someD es) := Go.Lib.hid (by
          rw [hx11, hx13]
          exact ⟨fun h => encDs_inj ha hb h, fun h => by rw [h]⟩)
        rw [ha, hb]
        clear H11 H13 ha hb hx11 hx13 okx oky limx limy
        have t0 := s13.t2.c0
        have t1 := s13.t2.c1
        have b0 : Below w13.heap.size w13 w13.drew := bel_drew (Below.refl _ _)
        have hc1 := (hc.below s13.bel).below b0
        have hd1 := (hd.below s13.bel).below b0
        go_wp2_with fail
        go_region_held (fun w' => w'.cell? ⟨w.heap.size + 1 + 1, 0, none⟩ = some (.slice C m cc) ∧ w'.cell? ⟨w.heap.size + 1 + 1, 1, none⟩ = some (.slice D k cd))
          (first | exact ⟨t0, t1⟩ | exact ⟨bcell b14 t0, bcell b14 t1⟩ | exact ⟨bcell b15 t0, bcell b15 t1⟩ | exact ⟨bcell b16 t0, bcell b16 t1⟩)
          (first
            | (go_at_call 24; refine (refSameDs_any _ _ _ _ _ _ (someD ds) (someD es) w15 (rx14.below bb15) ry15).mono ?_; rintro e w16 ⟨S, hS, rfl, bb⟩; have b16 := below_chain b15 bb)
            | (go_at_call 14; refine (some_any D k cd es w14 (hd1.below bb14)).mono ?_; rintro e w15 ⟨C15, m15, c15, rfl, ry15, bb15⟩; have b15 := below_chain b14 bb15)
            | (go_at_call 14; refine (some_any C m cc ds w13.drew hc1).mono ?_; rintro e w14 ⟨C14, m14, c14, rfl, rx14, bb14⟩; have b14 := below_chain b0 bb14))
        have B16 := below_chain s13.bel b16
        have sx := rd_str (t13.below b16)
        have sy := rd_str (r13.below b16)
        have HS := Go.Lib.hid hS
        clear hS t0 t1 b0 hc1 hd1 s13 t13 r13 b16 b15 b14 rx14 ry15
        cases S with
        | true =>
          have hxy : x11 = x13 := HIN.out.2 (HS.out.1 rfl)
          subst hxy
          clear HIN HS
          go_wp2_with fail
          go_ret
          exact ⟨by simp, B16⟩
        | false =>
          have hxy : x11 ≠ x13 := fun h => by have := HS.out.2 (HIN.out.1 h); cases this
          have b1 := bytes_ne hxy
          clear HIN HS hxy
          go_wp2_with fail
          go_ret
          exact ⟨by simp, B16⟩
      · have m1 : (mayDs (someD es) != 0) = true := by rw [bne_iff_ne]; exact hb
        have B13 := s13.bel
        rw [ha]
        clear H11 H13 hb
        generalize mayDs (someD es) = MB at *
        go_wp2_with fail
        go_ret
        exact ⟨rfl, B13⟩
    · have m1 : (mayDs (someD ds) != 0) = true := by rw [bne_iff_ne]; exact ha
      have B13 := s13.bel
      clear H11 H13 ha
      generalize mayDs (someD ds) = MA at *
      go_wp2_with fail
      go_ret
      exact ⟨rfl, B13⟩

section
variable {H : Type} {enc : TypeId × Value → H}
set_option maxRecDepth 100000 in
theorem apart_main' (api : CApi) (W : World) (base : Nat) (v0 v1 v2 : Value) {d0 d1 d2 : DataW H} {p0 p1 p2 : List MemPlace} (o0 : Value.okWide Try.prog W .any base 25 v0) (o1 : Value.okWide Try.prog W .any base 25 v1) (o2 : Value.okWide Try.prog W .any base 54 v2)
    (h0 : DataW.Trod enc Try.prog W 0 (fun _ => true) true 25 v0 d0 p0) (h1 : DataW.Trod enc Try.prog W 0 (fun _ => true) true 25 v1 d1 p1) (h2 : DataW.Trod enc Try.prog W 0 (fun _ => true) true 54 v2 d2 p2) :
    Calls Try.prog 6 #[v0, v1, v2] W fun e W' => e = .returned (.bool true) ∧ Below W.heap.size W W' := by
  obtain ⟨q, hv, okq⟩ := op_query o0 h0
  obtain ⟨r, hu, okr⟩ := op_query o1 h1
  obtain ⟨C, m, cc, ds, D, k, cd, es, rfl, hc, okc, hd, okd⟩ := op_two o2 h2
  exact apart_walk api v0 v1 q r C D m k cc cd ds es W hv hu okq okr hc hd okc okd
end

end Go.Proofs.Ytjgddlnfjmdnnaa.QkLaw

/-
  QcodeApart, its walk over the landed qcode.
-/
namespace Go.Proofs.Ytjgddlnfjmdnnaa.QkLaw
open Go.RowKit Go.WideShapes Go.ChangeShapes Go.Proofs.Ytjgddlnfjmdnnaa.MemRow Go.Proofs.Ytjgddlnfjmdnnaa.Ev Go.Proofs.Ytjgddlnfjmdnnaa.NameMath Go.Proofs.Ytjgddlnfjmdnnaa.NameWalk Go.Proofs.Ytjgddlnfjmdnnaa.EvWalk Go.Proofs.Ytjgddlnfjmdnnaa.NumMath Go.Proofs.Ytjgddlnfjmdnnaa.NumMem Go.Proofs.Ytjgddlnfjmdnnaa.NumWalk Go.Proofs.Ytjgddlnfjmdnnaa.Qu Go.Proofs.Ytjgddlnfjmdnnaa.QuWalk Go.Proofs.Ytjgddlnfjmdnnaa.QlLaw Go.Proofs.Ytjgddlnfjmdnnaa.QcWalk Go.Proofs.Ytjgddlnfjmdnnaa.Open
section
variable {H : Type} {enc : TypeId × Value → H}
set_option maxRecDepth 100000 in
theorem apart_main (W : World) (base : Nat) (v0 v1 v2 : Value) {d0 d1 d2 : DataW H} {p0 p1 p2 : List MemPlace} (o0 : Value.okWide Try.prog W .any base 25 v0) (o1 : Value.okWide Try.prog W .any base 25 v1) (o2 : Value.okWide Try.prog W .any base 54 v2)
    (h0 : DataW.Trod enc Try.prog W 0 (fun _ => true) true 25 v0 d0 p0) (h1 : DataW.Trod enc Try.prog W 0 (fun _ => true) true 25 v1 d1 p1) (h2 : DataW.Trod enc Try.prog W 0 (fun _ => true) true 54 v2 d2 p2) :
    Calls Try.prog 6 #[v0, v1, v2] W fun e W' => e = .returned (.bool true) ∧ Below W.heap.size W W' := apart_main' cApi W base v0 v1 v2 o0 o1 o2 h0 h1 h2
end

end Go.Proofs.Ytjgddlnfjmdnnaa.QkLaw

/-
  Walk of a statement of layer 7: QcodeBack.
-/
namespace Go.Proofs.Ytjgddlnfjmdnnaa.QkLaw
open Go.RowKit Go.WideShapes Go.ChangeShapes Go.Proofs.Ytjgddlnfjmdnnaa.MemRow Go.Proofs.Ytjgddlnfjmdnnaa.Ev Go.Proofs.Ytjgddlnfjmdnnaa.NameMath Go.Proofs.Ytjgddlnfjmdnnaa.NameWalk Go.Proofs.Ytjgddlnfjmdnnaa.EvWalk Go.Proofs.Ytjgddlnfjmdnnaa.NumMath Go.Proofs.Ytjgddlnfjmdnnaa.NumMem Go.Proofs.Ytjgddlnfjmdnnaa.NumWalk Go.Proofs.Ytjgddlnfjmdnnaa.Qu Go.Proofs.Ytjgddlnfjmdnnaa.QuWalk Go.Proofs.Ytjgddlnfjmdnnaa.QlLaw Go.Proofs.Ytjgddlnfjmdnnaa.QcWalk Go.Proofs.Ytjgddlnfjmdnnaa.Open

theorem tk_encQ {q : List Cl} (h : mayQ q = 0) (r : List UInt8) : tkQ (encQ q ++ r) = q ∧ tkC (encQ q ++ r) = 0 ∧ tkL (encQ q ++ r) = r := tk_some (takeQ_encQ h r)
theorem td_encDs {ds : List Df} (h : mayDs ds = 0) : tdD (encDs ds) = ds ∧ tdC (encDs ds) = 0 := td_some ((takeDs_iff _ _).2 ⟨h, rfl⟩)

set_option maxHeartbeats 8000000 in
set_option maxRecDepth 100000 in
theorem back_walk (api : CApi) (v : Value) (q : List Cl) (C : Option Addr) (m cc : Nat) (ds : List Df) (w : World) (hv : IsQ w v q) (hok : QOk q) (hd : RdD w C m cc ds) (hdo : DsOk ds) :
    Calls Try.prog 5 #[v, .slice C m cc] w fun e w' => e = .returned (.bool true) ∧ Below w.heap.size w w' := by
  have hv0 := hv
  have hok' := fewQ_ok hok
  have hlim := fewQ_lim q
  obtain ⟨A0, n0, ca0, rfl, _⟩ := hv
  have st := QAt.new w (.slice A0 n0 ca0)
  have B1 : Below w.heap.size w (w.alloc (.cells #[.slice A0 n0 ca0] 25)) := (Below.refl _ _).alloc (Nat.le_refl _) _
  go_enter Try.func5, Try.ntmps5
  go_wp2_with fail
  generalize w.alloc (.cells #[.slice A0 n0 ca0] 25) = w1 at *
  refine (shown7_any api _).mono ?_
  rintro e w2 ⟨rfl, b2⟩
  have st2 := st.below b2
  have B2 := below_chain B1 b2
  have k0 := st2.c0
  clear st b2 B1
  go_wp2_with fail
  refine (fewQ7_any _ q w w2 hv0 B2).mono ?_
  rintro e w3 ⟨A3, n3, c3, rfl, o3, b3⟩
  have st3 := st2.below b3
  have B3 := below_chain B2 b3
  clear k0 st2 b3 B2
  go_wp2_with fail
  refine (api.put none 0 0 [] _ (fewQ q) w3 (Rd.nil _) (by decide) (OwnQ.is_ o3 B3) hok' hlim).mono ?_
  rintro e w4 ⟨A4, m4, c4, x4, rfl, r4, H4, b4⟩
  have st4 := st3.below b4
  have B4 := below_chain B3 b4
  clear o3 st3 b4 B3
  go_upto_if 25 with (fail)
  go_cut [5] (fun v wx => v = .bool true ∧ Below w.heap.size w wx)
  case first =>
    by_cases h0 : mayQ (fewQ q) = 0
    · have hx : x4 = encQ (fewQ q) := by rw [H4.out, if_pos h0]; rfl
      obtain ⟨e1, e2, e3⟩ := tk_encQ h0 []
      rw [List.append_nil, ← hx] at e1 e2 e3
      have hlen : x4.length ≤ 100000 := by
        have := encQ_le (may_few h0)
        rw [hx]
        omega
      have E1 := Go.Lib.hid e1
      have E2 := Go.Lib.hid e2
      have E3 := Go.Lib.hid e3
      have HLEN := Go.Lib.hid hlen
      have hm : m4 ≤ 281474976710656 := by rw [← r4.len]; omega
      have glt := st4.lt
      have m0 : (mayQ (fewQ q) == 0) = true := by rw [beq_iff_eq]; exact h0
      clear H4 h0 hx e1 e2 e3 hlen
      generalize mayQ (fewQ q) = M at *
      go_wp2_with fail
      refine (newReader_any _ _ _ _ _ r4 hm).mono ?_
      rintro e w6 ⟨g, rfl, hg, hr6, hb6⟩
      have B6 := below_chain B4 hb6
      have st6 := st4.below hb6
      have hg' : w.heap.size ≤ g := by omega
      have hgne : w.heap.size ≠ g := by omega
      clear r4 st4 B4 hb6 hg glt
      go_wp2_with fail
      refine (api.take g x4 w6 hr6 HLEN.out).mono ?_
      rintro e w7 ⟨T7, m7, c7, rfl, x7, HR, gg⟩
      have B7 := B6.grown gg B6.size (by rintro q ⟨rfl⟩; exact hg')
      have st7 := st6.grown gg (by simpa using hgne)
      have hR7 := HR.out E2.out
      rw [E3.out] at hR7
      rw [E2.out]
      rw [E1.out] at x7
      clear HR gg st6 B6 hr6 E1 E2 E3 HLEN
      have al : Below w7.heap.size w7 (w7.alloc (.cells #[.slice T7 m7 c7] 25)) := (Below.refl _ _).alloc (Nat.le_refl _) _
      have q8 := QAt.new w7 (.slice T7 m7 c7)
      have st8 := st7.below al
      have x8 := x7.below al
      have r8 := hR7.below al
      have B8 := below_chain B7 al
      go_upto_region 8 with (fail)
      generalize w7.alloc (.cells #[.slice T7 m7 c7] 25) = w8 at *
      generalize w7.heap.size = gx at *
      clear al st7 x7 hR7 B7
      have k0 := q8.c0
      have k1 := st8.c0
      have b0 : Below w8.heap.size w8 w8.drew := bel_drew (Below.refl _ _)
      have B80 := below_chain B8 b0
      have x80 := x8.below b0
      go_region_held (fun w' => w'.cell? ⟨gx, 0, none⟩ = some (.slice T7 m7 c7) ∧ w'.cell? ⟨w.heap.size, 0, none⟩ = some (.slice A0 n0 ca0))
        (first | exact ⟨k0, k1⟩ | exact ⟨bcell b9 k0, bcell b9 k1⟩ | exact ⟨bcell b10 k0, bcell b10 k1⟩)
        (first
          | (go_at_call 23; refine (refSameQ_any _ _ (fewQ q) (fewQ q) w9 ⟨_, _, _, rfl, x80.below bb9⟩ (OwnQ.is_ o9 (below_chain B80 bb9))).mono ?_; rintro e w10 ⟨R, hR, rfl, bb⟩; obtain rfl : R = true := hR.2 rfl; have b10 := below_chain b9 bb)
          | (go_at_call 11; refine (fewQ7_any _ q w w8.drew hv0 B80).mono ?_; rintro e w9 ⟨A9, n9, c9, rfl, o9, bb9⟩; have b9 := below_chain b0 bb9))
      have r10 := r8.below b10
      have B10 := below_chain B8 b10
      clear k0 k1 b0 B80 x80 q8 st8 x8 r8 B8 b9 b10 bb9 o9 hR
      go_wp2_with fail
      refine (left_n g [] false 0 w10 r10 rfl).mono ?_
      rintro e w11 ⟨rfl, rfl⟩
      go_wp2_with fail
      go_meet
      exact ⟨rfl, B10⟩
    · have m0 : (mayQ (fewQ q) == 0) = false := by rw [beq_eq_false_iff_ne]; exact h0
      clear H4 h0
      generalize mayQ (fewQ q) = M at *
      go_wp2_with fail
      go_meet
      exact ⟨rfl, B4⟩
  case rest =>
    obtain ⟨rfl, Bc⟩ := hcut
    have okx := someD_ok hdo
    have limx := someD_lim ds
    clear r4 H4 st4 B4 hok' hlim
    have hc0 := hd.below Bc
    go_wp2_with fail
    refine (some_any C m cc ds wc hc0).mono ?_
    rintro e w10 ⟨C10, m10, c10, rfl, rx10, b10⟩
    have B10 := below_chain Bc b10
    clear hc0 b10 Bc
    go_wp2_with fail
    refine (api.putD C10 m10 c10 (someD ds) w10 rx10 okx limx).mono ?_
    rintro e w11 ⟨A11, m11, c11, x11, rfl, r11, H11, b11⟩
    have B11 := below_chain B10 b11
    clear rx10 B10 b11
    by_cases h0 : mayDs (someD ds) = 0
    · have hx : x11 = encDs (someD ds) := by rw [H11.out, if_pos h0]
      obtain ⟨e1, e2⟩ := td_encDs h0
      rw [← hx] at e1 e2
      have hlen : x11.length ≤ 200000 := by
        have := encDs_le h0
        rw [hx]
        omega
      have E1 := Go.Lib.hid e1
      have E2 := Go.Lib.hid e2
      rw [h0]
      clear H11 h0 hx e1 e2
      go_wp2_with fail
      refine (api.takeD A11 m11 c11 x11 w11 r11 hlen).mono ?_
      rintro e w12 ⟨A12, m12, c12, rfl, r12, b12⟩
      rw [E2.out]
      rw [E1.out] at r12
      have B12 := below_chain B11 b12
      have hd12 := hd.below B12
      clear E1 E2 r11 b12 B11
      go_wp2_with fail
      refine (some_any C m cc ds w12 hd12).mono ?_
      rintro e w13 ⟨C13, m13, c13, rfl, r13, b13⟩
      have B13 := below_chain B12 b13
      have r12' := r12.below b13
      clear r12 hd12 b13 B12
      go_wp2_with fail
      refine (refSameDs_any _ _ _ _ _ _ (someD ds) (someD ds) w13 r12' r13).mono ?_
      rintro e w14 ⟨R, hR, rfl, b14⟩
      obtain rfl : R = true := hR.2 rfl
      have B14 := below_chain B13 b14
      clear r12' r13 b14 hR
      go_wp2_with fail
      go_ret
      exact ⟨rfl, B14⟩
    · have hx : x11 = [] := by rw [H11.out, if_neg h0]
      subst hx
      obtain rfl : 0 = m11 := r11.len
      have m0 : (mayDs (someD ds) != 0) = true := by rw [bne_iff_ne]; exact h0
      clear H11 h0 r11
      generalize mayDs (someD ds) = M at *
      go_wp2_with fail
      go_ret
      exact ⟨rfl, B11⟩

section
variable {H : Type} {enc : TypeId × Value → H}
set_option maxRecDepth 100000 in
theorem back_main' (api : CApi) (W : World) (base : Nat) (v0 v1 : Value) {d0 d1 : DataW H} {p0 p1 : List MemPlace} (o0 : Value.okWide Try.prog W .any base 25 v0) (o1 : Value.okWide Try.prog W .any base 26 v1)
    (h0 : DataW.Trod enc Try.prog W 0 (fun _ => true) true 25 v0 d0 p0) (h1 : DataW.Trod enc Try.prog W 0 (fun _ => true) true 26 v1 d1 p1) :
    Calls Try.prog 5 #[v0, v1] W fun e W' => e = .returned (.bool true) ∧ Below W.heap.size W W' := by
  obtain ⟨q, hv, okq⟩ := op_query o0 h0
  obtain ⟨C, m, cc, ds, rfl, hd, okd⟩ := op_defs o1 h1
  exact back_walk api v0 q C m cc ds W hv okq hd okd
end

end Go.Proofs.Ytjgddlnfjmdnnaa.QkLaw

/-
  QcodeBack, its walk over the landed qcode.
-/
namespace Go.Proofs.Ytjgddlnfjmdnnaa.QkLaw
open Go.RowKit Go.WideShapes Go.ChangeShapes Go.Proofs.Ytjgddlnfjmdnnaa.MemRow Go.Proofs.Ytjgddlnfjmdnnaa.Ev Go.Proofs.Ytjgddlnfjmdnnaa.NameMath Go.Proofs.Ytjgddlnfjmdnnaa.NameWalk Go.Proofs.Ytjgddlnfjmdnnaa.EvWalk Go.Proofs.Ytjgddlnfjmdnnaa.NumMath Go.Proofs.Ytjgddlnfjmdnnaa.NumMem Go.Proofs.Ytjgddlnfjmdnnaa.NumWalk Go.Proofs.Ytjgddlnfjmdnnaa.Qu Go.Proofs.Ytjgddlnfjmdnnaa.QuWalk Go.Proofs.Ytjgddlnfjmdnnaa.QlLaw Go.Proofs.Ytjgddlnfjmdnnaa.QcWalk Go.Proofs.Ytjgddlnfjmdnnaa.Open
section
variable {H : Type} {enc : TypeId × Value → H}
set_option maxRecDepth 100000 in
theorem back_main (W : World) (base : Nat) (v0 v1 : Value) {d0 d1 : DataW H} {p0 p1 : List MemPlace} (o0 : Value.okWide Try.prog W .any base 25 v0) (o1 : Value.okWide Try.prog W .any base 26 v1)
    (h0 : DataW.Trod enc Try.prog W 0 (fun _ => true) true 25 v0 d0 p0) (h1 : DataW.Trod enc Try.prog W 0 (fun _ => true) true 26 v1 d1 p1) :
    Calls Try.prog 5 #[v0, v1] W fun e W' => e = .returned (.bool true) ∧ Below W.heap.size W W' := back_main' cApi W base v0 v1 o0 o1 h0 h1
end

end Go.Proofs.Ytjgddlnfjmdnnaa.QkLaw

/-
  Walk of a statement of layer 7: QcodeMore.
-/
namespace Go.Proofs.Ytjgddlnfjmdnnaa.QkLaw
open Go.RowKit Go.WideShapes Go.ChangeShapes Go.Proofs.Ytjgddlnfjmdnnaa.MemRow Go.Proofs.Ytjgddlnfjmdnnaa.Ev Go.Proofs.Ytjgddlnfjmdnnaa.NameMath Go.Proofs.Ytjgddlnfjmdnnaa.NameWalk Go.Proofs.Ytjgddlnfjmdnnaa.EvWalk Go.Proofs.Ytjgddlnfjmdnnaa.NumMath Go.Proofs.Ytjgddlnfjmdnnaa.NumMem Go.Proofs.Ytjgddlnfjmdnnaa.NumWalk Go.Proofs.Ytjgddlnfjmdnnaa.Qu Go.Proofs.Ytjgddlnfjmdnnaa.QuWalk Go.Proofs.Ytjgddlnfjmdnnaa.QlLaw Go.Proofs.Ytjgddlnfjmdnnaa.QcWalk Go.Proofs.Ytjgddlnfjmdnnaa.Open

set_option maxHeartbeats 8000000 in
set_option maxRecDepth 100000 in
theorem more_walk (api : CApi) (v : Value) (q : List Cl) (A : Option Addr) (n cap : Nat) (l : List UInt8) (C : Option Addr) (m cc : Nat) (ds : List Df) (w : World) (hv : IsQ w v q) (hok : QOk q) (hl : Rd w A n cap l) (hd : RdD w C m cc ds) (hdo : DsOk ds) :
    Calls Try.prog 8 #[v, .slice A n cap, .slice C m cc] w fun e w' => e = .returned (.bool true) ∧ Below w.heap.size w w' := by
  have hv0 := hv
  have hok' := fewQ_ok hok
  have hlim := fewQ_lim q
  have hcap := hl.le_cap
  have hmax := hl.2.2.1
  unfold maxLen at hmax
  obtain ⟨A0, n0, ca0, rfl, _⟩ := hv
  have st := QAt.new w (.slice A0 n0 ca0)
  have B1 : Below w.heap.size w (w.alloc (.cells #[.slice A0 n0 ca0] 25)) := (Below.refl _ _).alloc (Nat.le_refl _) _
  go_enter Try.func8, Try.ntmps8
  go_wp2_with fail
  generalize w.alloc (.cells #[.slice A0 n0 ca0] 25) = w1 at *
  refine (shown7_any api _).mono ?_
  rintro e w2 ⟨rfl, b2⟩
  have st2 := st.below b2
  have B2 := below_chain B1 b2
  have r2 := hl.below B2
  clear st b2 B1 hl
  go_upto_if 22 with (fail)
  go_cut [1] (fun v wx => w2 = wx ∧ ∃ A' n' cap' l', v = .slice A' n' cap' ∧ n' ≤ 50 ∧ Rd w2 A' n' cap' l')
  case first =>
    go_wp2_with fail
    · go_meet
      exact ⟨rfl, _, _, _, _, rfl, by omega, r2.first (by omega)⟩
    · go_meet
      exact ⟨rfl, _, _, _, _, rfl, by omega, r2⟩
  obtain ⟨rfl, A', n', cap', l', rfl, hn', r3⟩ := hcut
  clear r2 hcap hmax
  have k0 := st2.c0
  go_wp2_with fail
  refine (fewQ7_any _ q w w2 hv0 B2).mono ?_
  rintro e w3 ⟨A3, n3, c3, rfl, o3, b3⟩
  have B3 := below_chain B2 b3
  have r4 := r3.below b3
  clear k0 st2 b3 B2 r3
  go_wp2_with fail
  refine (api.put none 0 0 [] _ (fewQ q) w3 (Rd.nil _) (by decide) (OwnQ.is_ o3 B3) hok' hlim).mono ?_
  rintro e w4 ⟨A4, m4, c4, x4, rfl, p4, H4, b4⟩
  have B4 := below_chain B3 b4
  have r5 := r4.below b4
  clear o3 b4 B3 r4
  go_upto_if 32 with (fail)
  go_cut [7] (fun v wx => v = .bool true ∧ Below w.heap.size w wx)
  case first =>
    by_cases h0 : mayQ (fewQ q) = 0
    · have hx : x4 = encQ (fewQ q) := by rw [H4.out, if_pos h0]; rfl
      obtain ⟨_, e2, e3⟩ := tk_encQ h0 l'
      rw [← hx] at e2 e3
      have hlen : x4.length ≤ 32500 := by
        have := encQ_le (may_few h0)
        rw [hx]
        omega
      have hl2 := r5.len
      have hl3 : (x4 ++ l').length ≤ 100000 := by rw [List.length_append]; omega
      have E2 := Go.Lib.hid e2
      have E3 := Go.Lib.hid e3
      have HL2 := Go.Lib.hid hl2
      have HL3 := Go.Lib.hid hl3
      have hm : m4 ≤ 32500 := by rw [← p4.len]; exact hlen
      have m0 : (mayQ (fewQ q) == 0) = true := by rw [beq_iff_eq]; exact h0
      clear H4 h0 hx e2 e3 hlen hl2 hl3
      generalize mayQ (fewQ q) = M at *
      have ba : Below w4.heap.size w4 (w4.alloc (.cells #[] 5)) := (Below.refl _ _).alloc (Nat.le_refl _) _
      have p5 := p4.below ba
      go_wp2_with (first
        | (at_builtin; refine wpList_append_fresh rfl (.tmp 33) (.tmp 34) 22 rfl 5 Try.underlying22 u8_info rfl rfl (Own.empty w4 5 (Nat.le_refl _)) p5 (by omega) ba.size w4 ba ?_; intro A5 c5 w5 o5 b5)
        | (at_builtin; refine wpList_append_more rfl (.tmp 35) (.tmp 36) 22 rfl 5 Try.underlying22 u8_info rfl rfl o5 (r5.below b5) (by omega) b5.size w4 b5 ?_; intro A6 c6 w6 o6 b6))
      have B6 := below_chain B4 b6
      have r6 := r5.below b6
      clear p5 ba p4 o5 b5 b6 r5 B4
      refine (newReader_any _ _ _ _ _ o6.rd (by omega)).mono ?_
      rintro e w7 ⟨g, rfl, hg, hr7, hb7⟩
      have B7 := below_chain B6 hb7
      have hg' : w.heap.size ≤ g := Nat.le_trans B6.size hg
      clear r6 o6 B6 hb7 hg
      go_wp2_with fail
      refine (api.take g _ w7 hr7 HL3.out).mono ?_
      rintro e w8 ⟨T8, m8, c8, rfl, _, HR, gg⟩
      have B8 := B7.grown gg B7.size (by rintro q ⟨rfl⟩; exact hg')
      have r8 := HR.out E2.out
      rw [E3.out] at r8
      rw [E2.out]
      clear HR gg B7 hr7 E2 E3 HL3
      have al : Below w8.heap.size w8 (w8.alloc (.cells #[.slice T8 m8 c8] 25)) := (Below.refl _ _).alloc (Nat.le_refl _) _
      have r9 := r8.below al
      have B9 := below_chain B8 al
      go_upto_region 10 with (fail)
      generalize w8.alloc (.cells #[.slice T8 m8 c8] 25) = w9 at *
      generalize w8.heap.size = gx at *
      clear al r8 B8
      go_wp2_with fail
      refine (left_n g l' false n' w9 r9 HL2.out).mono ?_
      rintro e w10 ⟨rfl, rfl⟩
      have i0 : ((n' : Int) != (n' : Int)) = false := by simp
      go_wp2_with fail
      go_meet
      exact ⟨rfl, B9⟩
    · have m0 : (mayQ (fewQ q) == 0) = false := by rw [beq_eq_false_iff_ne]; exact h0
      clear H4 h0
      generalize mayQ (fewQ q) = M at *
      go_wp2_with fail
      go_meet
      exact ⟨rfl, B4⟩
  obtain ⟨rfl, Bc⟩ := hcut
  have okx := someD_ok hdo
  have limx := someD_lim ds
  clear p4 H4 r5 B4 hok' hlim
  have hc0 := hd.below Bc
  go_wp2_with fail
  refine (some_any C m cc ds wc hc0).mono ?_
  rintro e w10 ⟨C10, m10, c10, rfl, rx10, b10⟩
  have B10 := below_chain Bc b10
  clear hc0 b10 Bc
  go_wp2_with fail
  refine (api.putD C10 m10 c10 (someD ds) w10 rx10 okx limx).mono ?_
  rintro e w11 ⟨A11, m11, c11, x11, rfl, r11, H11, b11⟩
  have B11 := below_chain B10 b11
  clear rx10 B10 b11
  by_cases h0 : mayDs (someD ds) = 0
  · have hx : x11 = encDs (someD ds) := by rw [H11.out, if_pos h0]
    have hlen : x11.length ≤ 140000 := by rw [hx]; exact encDs_le h0
    have hpos : 0 < x11.length := by
      rw [hx, encDs, List.length_append]
      have := enc_pos ((someD ds).length : Int)
      omega
    have hm := r11.len
    have hm11 : m11 ≤ 140000 := by omega
    have hm0 : 0 < m11 := by omega
    have t1 : takeDs (x11.take (m11 - 1)) = none := by rw [hx]; exact takeDs_cut h0 (by rw [← hx]; omega)
    have t2 : takeDs (x11 ++ [0]) = none := by rw [hx]; exact takeDs_more h0 (by simp)
    have T1 := Go.Lib.hid (td_none t1).2
    have T2 := Go.Lib.hid (td_none t2).2
    have HL := Go.Lib.hid hlen
    have hne : (m11 : Int) ≠ 0 := by omega
    have e1 : (m11 : Int) - 1 = ((m11 - 1 : Nat) : Int) := by omega
    have hcc : m11 ≤ c11 + 1 := by have := r11.le_cap; omega
    have rf := r11.first (k := m11 - 1) (by omega)
    have qs := slice_upto A11 m11 c11 (m11 - 1) (Nat.le_trans (Nat.sub_le _ _) r11.le_cap)
    rw [← e1] at qs
    have hlt : (x11.take (m11 - 1)).length ≤ 200000 := by rw [List.length_take]; omega
    rw [h0]
    clear H11 h0 hx hlen hpos hm t1 t2 hm0
    go_wp2_with fail
    refine (api.takeD A11 (m11 - 1) c11 _ w11 rf hlt).mono ?_
    rintro e w12 ⟨A12, m12, c12, rfl, _, b12⟩
    rw [T1.out]
    have B12 := below_chain B11 b12
    have r12 := r11.below b12
    clear T1 rf qs hlt r11 b12 B11 e1
    have ba : Below w12.heap.size w12 (w12.alloc (.cells #[] 5)) := (Below.refl _ _).alloc (Nat.le_refl _) _
    have p5 := r12.below ba
    go_upto_region 17 with (first
      | (at_builtin; refine wpList_append_fresh rfl (.tmp 83) (.tmp 84) 22 rfl 5 Try.underlying22 u8_info rfl rfl (Own.empty w12 5 (Nat.le_refl _)) p5 (by omega) ba.size w12 ba ?_; intro A5 c5 w5 o5 b5; have bz : Below w5.heap.size w5 (w5.alloc (.cells #[.int .u8 0] 5)) := (Below.refl _ _).alloc (Nat.le_refl _) _; have o5' := o5.below bz; have b5' := below_chain b5 bz; have rz := rd_one w5 5 0 0 rfl)
      | (at_builtin; refine wpList_append_more rfl (.tmp 85) (.tmp 86) 22 rfl 5 Try.underlying22 u8_info rfl rfl o5' rz (by omega) b5'.size w12 b5' ?_; intro A6 c6 w6 o6 b6)
      | (go_at_call 21; refine (api.takeD A6 (m11 + 1) c6 (x11 ++ [0]) w6 o6.rd (by have := HL.out; rw [List.length_append, List.length_singleton]; omega)).mono ?_; rintro e w13 ⟨A13, m13, c13, rfl, _, b13⟩; rw [T2.out]))
    have B13 := below_chain (below_chain B12 b6) b13
    go_wp2_with fail
    go_ret
    exact ⟨rfl, B13⟩
  · have hx : x11 = [] := by rw [H11.out, if_neg h0]
    subst hx
    obtain rfl : 0 = m11 := r11.len
    have m0 : (mayDs (someD ds) != 0) = true := by rw [bne_iff_ne]; exact h0
    clear H11 h0 r11
    generalize mayDs (someD ds) = M at *
    go_wp2_with fail
    go_ret
    exact ⟨rfl, B11⟩

section
variable {H : Type} {enc : TypeId × Value → H}
set_option maxRecDepth 100000 in
theorem more_main' (api : CApi) (W : World) (base : Nat) (v0 v1 v2 : Value) {d0 d1 d2 : DataW H} {p0 p1 p2 : List MemPlace} (o0 : Value.okWide Try.prog W .any base 25 v0) (o1 : Value.okWide Try.prog W .any base 22 v1) (o2 : Value.okWide Try.prog W .any base 26 v2)
    (h0 : DataW.Trod enc Try.prog W 0 (fun _ => true) true 25 v0 d0 p0) (h1 : DataW.Trod enc Try.prog W 0 (fun _ => true) true 22 v1 d1 p1) (h2 : DataW.Trod enc Try.prog W 0 (fun _ => true) true 26 v2 d2 p2) :
    Calls Try.prog 8 #[v0, v1, v2] W fun e W' => e = .returned (.bool true) ∧ Below W.heap.size W W' := by
  obtain ⟨q, hv, okq⟩ := op_query o0 h0
  obtain ⟨A, n, cap, l, rfl, hl⟩ := op_bytes Try.underlying22 Try.underlying5 (by kernel_rfl) o1 h1
  obtain ⟨C, m, cc, ds, rfl, hd, okd⟩ := op_defs o2 h2
  exact more_walk api v0 q A n cap l C m cc ds W hv okq hl hd okd
end

end Go.Proofs.Ytjgddlnfjmdnnaa.QkLaw

/-
  QcodeMore, its walk over the landed qcode.
-/
namespace Go.Proofs.Ytjgddlnfjmdnnaa.QkLaw
open Go.RowKit Go.WideShapes Go.ChangeShapes Go.Proofs.Ytjgddlnfjmdnnaa.MemRow Go.Proofs.Ytjgddlnfjmdnnaa.Ev Go.Proofs.Ytjgddlnfjmdnnaa.NameMath Go.Proofs.Ytjgddlnfjmdnnaa.NameWalk Go.Proofs.Ytjgddlnfjmdnnaa.EvWalk Go.Proofs.Ytjgddlnfjmdnnaa.NumMath Go.Proofs.Ytjgddlnfjmdnnaa.NumMem Go.Proofs.Ytjgddlnfjmdnnaa.NumWalk Go.Proofs.Ytjgddlnfjmdnnaa.Qu Go.Proofs.Ytjgddlnfjmdnnaa.QuWalk Go.Proofs.Ytjgddlnfjmdnnaa.QlLaw Go.Proofs.Ytjgddlnfjmdnnaa.QcWalk Go.Proofs.Ytjgddlnfjmdnnaa.Open
section
variable {H : Type} {enc : TypeId × Value → H}
set_option maxRecDepth 100000 in
theorem more_main (W : World) (base : Nat) (v0 v1 v2 : Value) {d0 d1 d2 : DataW H} {p0 p1 p2 : List MemPlace} (o0 : Value.okWide Try.prog W .any base 25 v0) (o1 : Value.okWide Try.prog W .any base 22 v1) (o2 : Value.okWide Try.prog W .any base 26 v2)
    (h0 : DataW.Trod enc Try.prog W 0 (fun _ => true) true 25 v0 d0 p0) (h1 : DataW.Trod enc Try.prog W 0 (fun _ => true) true 22 v1 d1 p1) (h2 : DataW.Trod enc Try.prog W 0 (fun _ => true) true 26 v2 d2 p2) :
    Calls Try.prog 8 #[v0, v1, v2] W fun e W' => e = .returned (.bool true) ∧ Below W.heap.size W W' := more_main' cApi W base v0 v1 v2 o0 o1 o2 h0 h1 h2
end

end Go.Proofs.Ytjgddlnfjmdnnaa.QkLaw

