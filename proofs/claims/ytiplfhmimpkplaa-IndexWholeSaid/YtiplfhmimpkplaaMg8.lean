/-
  Contracts of layer 4: May, and what it asks.
-/
import Derived.Test.YtiplfhmimpkplaaMg7
namespace Go.Proofs.Ytiplfhmimpkplaa.EvWalk
open Go.RowKit Go.Proofs.Ytiplfhmimpkplaa.MemRow Go.Proofs.Ytiplfhmimpkplaa.Ev Go.Proofs.Ytiplfhmimpkplaa.NameMath Go.Proofs.Ytiplfhmimpkplaa.NameWalk

theorem any_not {α : Type} (l : List α) (p : α → Bool) : (!(l.any fun x => !p x)) = l.all p := by
  induction l with
  | nil => rfl
  | cons a l ih => simp only [List.any_cons, List.all_cons, ← ih, Bool.not_or, Bool.not_not]

theorem name_told {s : ByteArray} (hs : s.size ≤ maxLen) (w : World) :
    Calls Try.prog 62 #[.string s] w fun e w' => e = .returned (.bool (nameB s)) ∧ Below w.heap.size w w' := by
  unfold maxLen at hs
  exact may_any s w (by omega)

/-! ### Tags -/
set_option maxHeartbeats 2000000 in
set_option maxRecDepth 100000 in
theorem notTag_any (s : ByteArray) (w : World) (hs : s.size ≤ maxLen) :
    Calls Try.prog 89 #[.string s] w fun e w' => e = .returned (.bool (!tagB s)) ∧ Below w.heap.size w w' := by
  unfold maxLen at hs
  have c0 : Calls Try.prog 90 #[.string s] w fun e w' => e = .returned (.bool (tagB s)) ∧ Below w.heap.size w w' := mayTag_any s w (by omega)
  have c := Go.Lib.hid c0
  clear c0
  generalize tagB s = b at *
  go_enter Try.func89, Try.ntmps89
  go_wp2_with (refine (c.out).mono ?_; rintro e w' ⟨rfl, b1⟩)
  go_ret
  exact ⟨rfl, b1⟩

set_option maxHeartbeats 2000000 in
set_option maxRecDepth 100000 in
theorem areTags_any (A : Option Addr) (n ca : Nat) (ss : List ByteArray) (w : World) (ha : RdS w A n ca ss) (hz : ∀ x ∈ ss, x.size ≤ maxLen) :
    Calls Try.prog 63 #[.slice A n ca] w fun e w' => e = .returned (.bool (ss.all tagB)) ∧ Below w.heap.size w w' := by
  have c := Go.Lib.hid (hasFuncS_any A n ca ss 89 (fun s => !tagB s) w ha (enters_of Try.func89 (by kernel_rfl) rfl) (fun W _ x hx => notTag_any x W (hz x hx)))
  have h := any_not ss tagB
  rw [← h]
  clear ha hz h
  generalize ss.any (fun s => !tagB s) = R at c ⊢
  go_enter Try.func63, Try.ntmps63
  go_wp2_with (refine (c.out).mono ?_; rintro e w' ⟨rfl, b1⟩)
  go_ret
  exact ⟨rfl, b1⟩

/-! ### Names and numbers of fields -/
set_option maxHeartbeats 2000000 in
set_option maxRecDepth 100000 in
theorem notNamed_any (f : ByteArray × Int) (w : World) (hs : f.1.size ≤ maxLen) :
    Calls Try.prog 92 #[.agg #[.string f.1, .int .i64 f.2]] w fun e w' => e = .returned (.bool (!nameB f.1)) ∧ Below w.heap.size w w' := by
  obtain ⟨s, z⟩ := f
  simp only at hs ⊢
  have b0 : Below w.heap.size w (w.alloc (.cells #[.string s, .int .i64 z] 86)) := (Below.refl _ _).alloc (Nat.le_refl _) _
  have c := Go.Lib.hid (name_told hs (w.alloc (.cells #[.string s, .int .i64 z] 86)))
  generalize nameB s = b at *
  go_enter Try.func92, Try.ntmps92
  go_wp2_with (refine (c.out).mono ?_; rintro e w' ⟨rfl, b1⟩)
  go_ret
  exact ⟨rfl, below_chain b0 b1⟩

set_option maxHeartbeats 2000000 in
set_option maxRecDepth 100000 in
theorem areNamed_any (A : Option Addr) (n ca : Nat) (fs : List (ByteArray × Int)) (w : World) (ha : RdF w A n ca fs) (hz : ∀ x ∈ fs, x.1.size ≤ maxLen) :
    Calls Try.prog 64 #[.slice A n ca] w fun e w' => e = .returned (.bool (fs.all fun f => nameB f.1)) ∧ Below w.heap.size w w' := by
  have c := Go.Lib.hid (hasFuncF_any A n ca fs 92 (fun f => !nameB f.1) w ha (enters_of Try.func92 (by kernel_rfl) rfl) (fun W _ x hx => notNamed_any x W (hz x hx)))
  have h := any_not fs (fun f => nameB f.1)
  rw [← h]
  clear ha hz h
  generalize fs.any (fun f => !nameB f.1) = R at c ⊢
  go_enter Try.func64, Try.ntmps64
  go_wp2_with (refine (c.out).mono ?_; rintro e w' ⟨rfl, b1⟩)
  go_ret
  exact ⟨rfl, b1⟩

set_option maxHeartbeats 2000000 in
set_option maxRecDepth 100000 in
theorem notFit_any (f : ByteArray × Int) (w : World) :
    Calls Try.prog 96 #[.agg #[.string f.1, .int .i64 f.2]] w fun e w' => e = .returned (.bool (!fitB f)) ∧ Below w.heap.size w w' := by
  obtain ⟨s, z⟩ := f
  have b0 : Below w.heap.size w (w.alloc (.cells #[.string s, .int .i64 z] 86)) := (Below.refl _ _).alloc (Nat.le_refl _) _
  generalize hR : (!fitB (s, z)) = R
  unfold fitB at hR
  simp only at hR ⊢
  by_cases h1 : z < -1099511627776
  · have hR : R = true := by rw [← hR, decide_eq_false (by omega)]; rfl
    subst hR
    go_enter Try.func96, Try.ntmps96
    go_wp2_with fail
    go_ret
    exact ⟨rfl, b0⟩
  · by_cases h2 : 1099511627776 < z
    · have hR : R = true := by rw [← hR, decide_eq_false (by omega)]; rfl
      subst hR
      go_enter Try.func96, Try.ntmps96
      go_wp2_with fail
      go_ret
      exact ⟨rfl, b0⟩
    · have hR : R = false := by rw [← hR, decide_eq_true (by omega)]; rfl
      subst hR
      go_enter Try.func96, Try.ntmps96
      go_wp2_with fail
      go_ret
      exact ⟨rfl, b0⟩

set_option maxHeartbeats 2000000 in
set_option maxRecDepth 100000 in
theorem areFit_any (A : Option Addr) (n ca : Nat) (fs : List (ByteArray × Int)) (w : World) (ha : RdF w A n ca fs) :
    Calls Try.prog 67 #[.slice A n ca] w fun e w' => e = .returned (.bool (fs.all fitB)) ∧ Below w.heap.size w w' := by
  have c := Go.Lib.hid (hasFuncF_any A n ca fs 96 (fun f => !fitB f) w ha (enters_of Try.func96 (by kernel_rfl) rfl) (fun W _ x _ => notFit_any x W))
  have h := any_not fs fitB
  rw [← h]
  clear ha h
  generalize fs.any (fun f => !fitB f) = R at c ⊢
  go_enter Try.func67, Try.ntmps67
  go_wp2_with (refine (c.out).mono ?_; rintro e w' ⟨rfl, b1⟩)
  go_ret
  exact ⟨rfl, b1⟩

/-! ### Order -/
set_option maxHeartbeats 4000000 in
set_option maxRecDepth 100000 in
theorem rise_any (n : Nat) (ss : List ByteArray) (g : Nat) (p : Value) (w : World) (la : ss.length = n) (hn : n ≤ maxLen) (eg : ∀ args w, (callFunc g args).run Try.prog w = .ok (.enter g args) w)
    (hk : ∀ W, Below w.heap.size w W → ∀ i : Nat, i < n → Calls Try.prog g #[.int .i64 (i : Int), p] W fun e W' => e = .returned (.string (ss.getD i ByteArray.empty)) ∧ Below W.heap.size W W') :
    Calls Try.prog 93 #[.int .i64 (n : Int), .func (.func g) #[] #[p]] w fun e w' => e = .returned (.bool (riseB ss)) ∧ Below w.heap.size w w' := by
  unfold maxLen at hn
  generalize hR : riseB ss = R
  have HR := Go.Lib.hid hR
  have LA := Go.Lib.hid la
  have HK := Go.Lib.hid hk
  clear hR la hk
  go_enter Try.func93, Try.ntmps93
  go_wp2_with fail
  go_loopw [5] (fun i wr => ∃ j : Nat, j + 1 ≤ max n 1 ∧ i = .int .i64 ((j + 1 : Nat) : Int) ∧ riseB (ss.take (j + 1)) = true ∧ Below w.heap.size w wr) (fun i _ => n - (intOf i).toNat)
  case atStart =>
    refine ⟨0, by omega, rfl, ?_, Below.refl _ _⟩
    cases ss with
    | nil => rfl
    | cons a l => simp [riseB]
  case round =>
    obtain ⟨j, hj, rfl, hq, hb⟩ := hrel
    have HQ := Go.Lib.hid hq
    clear hq
    have e1 : ((j + 1 : Nat) : Int) = (j : Int) + 1 := by omega
    by_cases hlt : j + 1 < n
    · have i1 : (j : Int) + 1 < n := by omega
      have c1 := HK.out wr hb j (by omega)
      have c2 : ∀ W, Below w.heap.size w W → Calls Try.prog g #[.int .i64 ((j : Int) + 1), p] W fun e W' => e = .returned (.string (ss.getD (j + 1) ByteArray.empty)) ∧ Below W.heap.size W W' := fun W h => by
        have := HK.out W h (j + 1) hlt
        rwa [e1] at this
      have ta := take_two ss j (by rw [LA.out]; exact hlt)
      have tb := take_get ss j (by rw [LA.out]; omega)
      have TA := Go.Lib.hid ta
      have TB := Go.Lib.hid tb
      clear ta tb
      generalize hx : ss.getD j ByteArray.empty = x at *
      generalize hy : ss.getD (j + 1) ByteArray.empty = y at *
      have C1 := Go.Lib.hid c1
      have C2 := Go.Lib.hid c2
      clear hx hy c1 c2
      have ts := rise_snoc (ss.take j) x y
      have TS := Go.Lib.hid ts
      clear ts
      by_cases hl : less x y = true
      · have hbl : Op.bytesLess x.toList y.toList = true := hl
        go_wp2_with (first | (refine (C1.out).mono ?_; rintro e w1 ⟨rfl, b1⟩) | (refine (C2.out _ (below_chain hb b1)).mono ?_; rintro e w2 ⟨rfl, b2⟩))
        go_roundw
        case rel => exact ⟨j + 1, by omega, by go_num, by rw [TA.out, TS.out, ← TB.out, HQ.out, hl]; rfl, below_chain (below_chain hb b1) b2⟩
        case measure => simp [intOf]; omega
      · have hbl : Op.bytesLess x.toList y.toList = false := by simpa [less] using hl
        have hR : R = false := by
          rw [← HR.out]
          cases h : riseB ss with
          | false => rfl
          | true =>
            exfalso
            rw [← List.take_append_drop (j + 2) ss] at h
            have h2 := rise_prefix _ _ h
            rw [TA.out, TS.out, Bool.and_eq_true] at h2
            exact hl h2.2
        subst hR
        go_wp2_with (first | (refine (C1.out).mono ?_; rintro e w1 ⟨rfl, b1⟩) | (refine (C2.out _ (below_chain hb b1)).mono ?_; rintro e w2 ⟨rfl, b2⟩))
        go_ret
        exact ⟨rfl, below_chain (below_chain hb b1) b2⟩
    · have hR : R = true := by
        rw [← HR.out]
        have h1 := HQ.out
        rwa [List.take_of_length_le (by rw [LA.out]; omega)] at h1
      subst hR
      have i1 : ¬ (j : Int) + 1 < n := by omega
      go_wp2_with fail
      go_ret
      exact ⟨rfl, hb⟩

set_option maxHeartbeats 2000000 in
set_option maxRecDepth 100000 in
theorem tagKey_any (B : Nat) (A : Option Addr) (n ca : Nat) (ss : List ByteArray) (i : Nat) (w : World) (hc : w.cell? ⟨B, 0, none⟩ = some (.slice A n ca)) (ha : RdS w A n ca ss) (hi : i < n) :
    Calls Try.prog 94 #[.int .i64 (i : Int), .pointer (some ⟨B, 0, none⟩)] w fun e w' => e = .returned (.string (ss.getD i ByteArray.empty)) ∧ Below w.heap.size w w' := by
  obtain ⟨ba, oa, rfl, _, ka⟩ := RdS.at_ ha (by omega)
  have ka1 := ka i hi
  have i1 : (i : Int) < n := by omega
  clear ka ha
  generalize ss.getD i ByteArray.empty = x at *
  go_enter Try.func94, Try.ntmps94
  go_wp2_with fail
  go_ret
  exact ⟨rfl, Below.refl _ _⟩

set_option maxHeartbeats 2000000 in
set_option maxRecDepth 100000 in
theorem fieldKey_any (B : Nat) (A : Option Addr) (n ca : Nat) (fs : List (ByteArray × Int)) (i : Nat) (w : World) (hc : w.cell? ⟨B, 0, none⟩ = some (.slice A n ca)) (ha : RdF w A n ca fs) (hi : i < n) :
    Calls Try.prog 95 #[.int .i64 (i : Int), .pointer (some ⟨B, 0, none⟩)] w fun e w' => e = .returned (.string (fs.getD i (ByteArray.empty, 0)).1) ∧ Below w.heap.size w w' := by
  obtain ⟨ba, oa, rfl, _, ka⟩ := RdF.at_ ha (by omega)
  obtain ⟨ka1, ka2⟩ := ka i hi
  have i1 : (i : Int) < n := by omega
  clear ka ha
  generalize fs.getD i (ByteArray.empty, 0) = x at *
  obtain ⟨x, z⟩ := x
  simp only at ka1 ka2 ⊢
  go_enter Try.func95, Try.ntmps95
  go_wp2_with fail
  go_ret
  exact ⟨rfl, Below.refl _ _⟩

theorem box_cell (w : World) (v : Value) (t : TypeId) : (w.alloc (.cells #[v] t)).cell? ⟨w.heap.size, 0, none⟩ = some v := by
  rw [cell_of_row _ w.heap.size 0 _ _ _ (heap_alloc_new w _)]
  rfl

set_option maxHeartbeats 2000000 in
set_option maxRecDepth 100000 in
theorem tagsRise_any (A : Option Addr) (n ca : Nat) (ss : List ByteArray) (w : World) (ha : RdS w A n ca ss) :
    Calls Try.prog 65 #[.slice A n ca] w fun e w' => e = .returned (.bool (riseB ss)) ∧ Below w.heap.size w w' := by
  have b0 : Below w.heap.size w (w.alloc (.cells #[.slice A n ca] 44)) := (Below.refl _ _).alloc (Nat.le_refl _) _
  have k0 := box_cell w (.slice A n ca) 44
  have a0 := RdC.below ha b0
  have c := Go.Lib.hid (rise_any n ss 94 (.pointer (some ⟨w.heap.size, 0, none⟩)) (w.alloc (.cells #[.slice A n ca] 44)) ha.len (RdC.le ha) (enters_of Try.func94 (by kernel_rfl) rfl)
    (fun W hW i hi => tagKey_any w.heap.size A n ca ss i W (bcell hW k0) (RdC.below a0 hW) hi))
  clear ha a0
  generalize riseB ss = R at c ⊢
  go_enter Try.func65, Try.ntmps65
  go_wp2_with (refine (c.out).mono ?_; rintro e w' ⟨rfl, b1⟩)
  go_ret
  exact ⟨rfl, below_chain b0 b1⟩

set_option maxHeartbeats 2000000 in
set_option maxRecDepth 100000 in
theorem fieldsRise_any (A : Option Addr) (n ca : Nat) (fs : List (ByteArray × Int)) (w : World) (ha : RdF w A n ca fs) :
    Calls Try.prog 66 #[.slice A n ca] w fun e w' => e = .returned (.bool (riseB (fs.map (·.1)))) ∧ Below w.heap.size w w' := by
  have b0 : Below w.heap.size w (w.alloc (.cells #[.slice A n ca] 45)) := (Below.refl _ _).alloc (Nat.le_refl _) _
  have k0 := box_cell w (.slice A n ca) 45
  have a0 := RdC.below ha b0
  have hl := ha.len
  have c := Go.Lib.hid (rise_any n (fs.map (·.1)) 95 (.pointer (some ⟨w.heap.size, 0, none⟩)) (w.alloc (.cells #[.slice A n ca] 45)) (by rw [List.length_map, hl]) (RdC.le ha) (enters_of Try.func95 (by kernel_rfl) rfl)
    (fun W hW i hi => by
      have h := fieldKey_any w.heap.size A n ca fs i W (bcell hW k0) (RdC.below a0 hW) hi
      have e : (fs.map (·.1)).getD i ByteArray.empty = (fs.getD i (ByteArray.empty, 0)).1 := by
        have hi' : i < fs.length := by omega
        simp [List.getD, List.getElem?_eq_getElem hi']
      rw [e]
      exact h))
  clear ha a0 hl
  generalize riseB (fs.map (·.1)) = R at c ⊢
  go_enter Try.func66, Try.ntmps66
  go_wp2_with (refine (c.out).mono ?_; rintro e w' ⟨rfl, b1⟩)
  go_ret
  exact ⟨rfl, below_chain b0 b1⟩

set_option maxHeartbeats 8000000 in
set_option maxRecDepth 100000 in
theorem evMay_any (v : Value) (ev : Ev) (w : World) (hv : IsEv w v ev) (hok : EvOk ev) :
    Calls Try.prog 42 #[v] w fun e w' => e = .returned (.int .i64 (mayE ev)) ∧ Below w.heap.size w w' := by
  obtain ⟨A, n, ca, B, m, cb, rfl, ha, hb⟩ := hv
  obtain ⟨s, t, ts, fs⟩ := ev
  obtain ⟨ks, kt, ktags, knames, knums⟩ := hok
  simp only at ha hb ks kt ktags knames knums
  have hn := RdC.le ha
  have hm := RdC.le hb
  unfold maxLen at hn hm
  have la := ha.len
  have lb := hb.len
  generalize hR : mayE ⟨s, t, ts, fs⟩ = R
  unfold mayE at hR
  simp only at hR
  rw [la, lb] at hR
  have HR := Go.Lib.hid hR
  clear hR la lb
  have KT := Go.Lib.hid ktags
  have KN := Go.Lib.hid knames
  clear ktags knames knums
  have B1 : Below w.heap.size w (w.alloc (.cells #[.string s, .string t, .slice A n ca, .slice B m cb] 47)) := (Below.refl _ _).alloc (Nat.le_refl _) _
  have E1 := EvAt.new w (.string s) (.string t) (.slice A n ca) (.slice B m cb)
  have a1 := RdC.below ha B1
  have r1 := RdC.below hb B1
  have p0 := E1.c0
  go_enter Try.func42, Try.ntmps42
  go_wp2_with fail
  generalize w.alloc (.cells #[.string s, .string t, .slice A n ca, .slice B m cb] 47) = w1 at *
  clear ha hb
  refine (name_told (s := s) ks _).mono ?_
  rintro e w2 ⟨rfl, b2⟩
  have E2 := E1.below b2 E1.lt
  have a2 := RdC.below a1 b2
  have r2 := RdC.below r1 b2
  have B2 := below_chain B1 b2
  have p1 := E2.c1
  clear E1 a1 r1 B1 b2 p0
  cases hs : nameB s
  · have hR : R = 5 := by rw [← HR.out, hs, Bool.false_and, if_pos rfl]
    subst hR
    go_wp2_with fail
    go_ret
    exact ⟨rfl, B2⟩
  go_wp2_with fail
  refine (name_told (s := t) kt _).mono ?_
  rintro e w3 ⟨rfl, b3⟩
  have E3 := E2.below b3 E2.lt
  have a3 := RdC.below a2 b3
  have r3 := RdC.below r2 b3
  have B3 := below_chain B2 b3
  have p2 := E3.c2
  have p3 := E3.c3
  clear E2 a2 r2 B2 b3 p1
  cases ht : nameB t
  · have hR : R = 5 := by rw [← HR.out, ht, Bool.and_false, if_pos rfl]
    subst hR
    go_wp2_with fail
    go_ret
    exact ⟨rfl, B3⟩
  by_cases h6 : 6 < n
  · have hR : R = 3 := by rw [← HR.out, hs, ht, if_neg (by decide), if_pos (.inl h6)]
    subst hR
    have i1 : (6 : Int) < n := by omega
    go_wp2_with fail
    go_ret
    exact ⟨rfl, B3⟩
  by_cases h4 : 4 < m
  · have hR : R = 3 := by rw [← HR.out, hs, ht, if_neg (by decide), if_pos (.inr h4)]
    subst hR
    have i1 : ¬ (6 : Int) < n := by omega
    have i2 : (4 : Int) < m := by omega
    go_wp2_with fail
    go_ret
    exact ⟨rfl, B3⟩
  have hr2 : (if ((fs.all fun f => nameB f.1) && ts.all tagB) = false then 5 else if (fs.all fitB && (riseB ts && riseB (fs.map (·.1)))) = false then 1 else 0 : Int) = R := by
    have := HR.out
    rwa [hs, ht, if_neg (by decide), if_neg (by omega)] at this
  have HR2 := Go.Lib.hid hr2
  clear HR hs ht hr2
  have i1 : ¬ (6 : Int) < n := by omega
  have i2 : ¬ (4 : Int) < m := by omega
  go_wp2_with fail
  refine (areTags_any A n ca ts _ a3 KT.out).mono ?_
  rintro e w4 ⟨rfl, b4⟩
  have E4 := E3.below b4 E3.lt
  have a4 := RdC.below a3 b4
  have r4 := RdC.below r3 b4
  have B4 := below_chain B3 b4
  have q2 := E4.c2
  have q3 := E4.c3
  clear E3 a3 r3 B3 b4 p2 p3
  cases h5 : ts.all tagB
  · have hR : R = 5 := by rw [← HR2.out, h5, Bool.and_false, if_pos rfl]
    subst hR
    go_wp2_with fail
    go_ret
    exact ⟨rfl, B4⟩
  go_wp2_with fail
  refine (areNamed_any B m cb fs _ r4 KN.out).mono ?_
  rintro e w5 ⟨rfl, b5⟩
  have E5 := E4.below b5 E4.lt
  have a5 := RdC.below a4 b5
  have r5 := RdC.below r4 b5
  have B5 := below_chain B4 b5
  have p2 := E5.c2
  have p3 := E5.c3
  clear E4 a4 r4 B4 b5 q2 q3
  cases h7 : fs.all fun f => nameB f.1
  · have hR : R = 5 := by rw [← HR2.out, h7, Bool.false_and, if_pos rfl]
    subst hR
    go_wp2_with fail
    go_ret
    exact ⟨rfl, B5⟩
  have hr3 : (if (fs.all fitB && (riseB ts && riseB (fs.map (·.1)))) = false then 1 else 0 : Int) = R := by
    have := HR2.out
    rwa [h5, h7, if_neg (by decide)] at this
  have HR3 := Go.Lib.hid hr3
  clear HR2 h5 h7 hr3
  go_wp2_with fail
  refine (tagsRise_any A n ca ts _ a5).mono ?_
  rintro e w6 ⟨rfl, b6⟩
  have E6 := E5.below b6 E5.lt
  have r6 := RdC.below r5 b6
  have B6 := below_chain B5 b6
  have q3 := E6.c3
  clear E5 a5 r5 B5 b6 p2 p3
  cases h8 : riseB ts
  · have hR : R = 1 := by rw [← HR3.out, h8, Bool.false_and, Bool.and_false, if_pos rfl]
    subst hR
    go_wp2_with fail
    go_ret
    exact ⟨rfl, B6⟩
  go_wp2_with fail
  refine (fieldsRise_any B m cb fs _ r6).mono ?_
  rintro e w7 ⟨rfl, b7⟩
  have E7 := E6.below b7 E6.lt
  have r7 := RdC.below r6 b7
  have B7 := below_chain B6 b7
  have p3 := E7.c3
  clear E6 r6 B6 b7 q3
  cases h9 : riseB (fs.map (·.1))
  · have hR : R = 1 := by rw [← HR3.out, h9, Bool.and_false, Bool.and_false, if_pos rfl]
    subst hR
    go_wp2_with fail
    go_ret
    exact ⟨rfl, B7⟩
  go_wp2_with fail
  refine (areFit_any B m cb fs _ r7).mono ?_
  rintro e w8 ⟨rfl, b8⟩
  have B8 := below_chain B7 b8
  clear E7 r7 B7 b8 p3
  cases h0 : fs.all fitB
  · have hR : R = 1 := by rw [← HR3.out, h0, Bool.false_and, if_pos rfl]
    subst hR
    go_wp2_with fail
    go_ret
    exact ⟨rfl, B8⟩
  have hR : R = 0 := by rw [← HR3.out, h0, h8, h9, if_neg (by decide)]
  subst hR
  go_wp2_with fail
  go_ret
  exact ⟨rfl, B8⟩

end Go.Proofs.Ytiplfhmimpkplaa.EvWalk

/-
  Contracts of layer 10: May.
-/
namespace Go.Proofs.Ytiplfhmimpkplaa.BtWalk
open Go.RowKit Go.Proofs.Ytiplfhmimpkplaa.MemRow Go.Proofs.Ytiplfhmimpkplaa.Ev Go.Proofs.Ytiplfhmimpkplaa.NameMath Go.Proofs.Ytiplfhmimpkplaa.NameWalk Go.Proofs.Ytiplfhmimpkplaa.EvWalk Go.Proofs.Ytiplfhmimpkplaa.NumMem
set_option maxHeartbeats 4000000 in
set_option maxRecDepth 100000 in
theorem may10_any (v : Value) (x : Bat) (w : World) (hv : IsB w v x) (hok : BOk x) :
    Calls Try.prog 26 #[v] w fun e w' => e = .returned (.int .i64 (mayX x)) ∧ Below w.heap.size w w' := by
  obtain ⟨A, n, ca, rfl, rE⟩ := hv
  obtain ⟨a, es⟩ := x
  simp only at rE
  have oke := hok.evs
  have oka := hok.a
  simp only at oke oka
  have LE := Go.Lib.hid rE.len
  have hn := rE.le
  unfold maxLen at hn
  have s1 := BoxB.new w (.int .i64 a) (.slice A n ca)
  have H1 := Go.Lib.hid (fun h => mayX_none (a := a) (es := es) h)
  have H2 := Go.Lib.hid (fun h => mayX_big (a := a) (es := es) h)
  have HX := Go.Lib.hid (fun h0 h16 hm => mayX_pos (a := a) LE.out h0 h16 hm)
  have HE := Go.Lib.hid (fun h0 h16 hm => mayX_ev (a := a) (es := es) h0 h16 hm)
  clear hok
  generalize mayX ⟨a, es⟩ = M at *
  go_enter Try.func26, Try.ntmps26
  go_upto_region 1 with (fail)
  generalize w.alloc (.cells #[.int .i64 a, .slice A n ca] 33) = w1 at *
  have k1 := s1.eq.c1
  by_cases h0 : n = 0
  · subst h0
    obtain rfl : M = 22 := H1.out LE.out
    clear H1 H2 HX HE
    go_wp2_with fail
    go_ret
    exact ⟨rfl, s1.bel⟩
  have i0 : ((n : Int) == 0) = false := by rw [beq_eq_false_iff_ne]; omega
  by_cases h16 : 16 < n
  · obtain rfl : M = 3 := H2.out (by rw [LE.out]; exact h16)
    clear H1 H2 HX HE
    have i1 : (16 : Int) < n := by omega
    go_wp2_with fail
    go_ret
    exact ⟨rfl, s1.bel⟩
  have i1 : ¬ (16 : Int) < n := by omega
  have H0 := Go.Lib.hid h0
  replace HX := Go.Lib.hid (fun hm => HX.out h0 h16 hm)
  replace HE := Go.Lib.hid (fun hm => HE.out (by rw [LE.out]; exact h0) (by rw [LE.out]; exact h16) hm)
  clear h0 H1 H2
  go_wp2_with fail
  go_loopw [5, 6, 19] (fun _ _ i wr => ∃ j : Nat, j ≤ n ∧ i = .int .i64 j ∧ Hid (mayEs (es.take j) = 0) ∧ BoxB wr w (.int .i64 a) (.slice A n ca)) (fun _ _ i _ => n - (intOf i).toNat)
  case atStart => exact ⟨0, Nat.zero_le _, rfl, Go.Lib.hid (by simp [mayEs]), s1⟩
  case round =>
    obtain ⟨j, hj, rfl, HJ, sr⟩ := hrel
    clear s1 k1
    have k0 := sr.eq.c0
    by_cases hlt : j < n
    · obtain ⟨b, o, rfl, _, kt⟩ := rE.at_ (by omega)
      obtain ⟨A1, n1, c1, B1, m1, d1, x0, x1, x2, x3, r1, r2⟩ := (kt j hlt).below sr.bel
      have i2 : (j : Int) < n := by omega
      have hjl : j < es.length := by rw [LE.out]; exact hlt
      have hoe := oke _ (evsGet hjl)
      have HA := Go.Lib.hid (mayEs_at es j HJ.out hjl)
      have HT := Go.Lib.hid (mayEs_take es j HJ.out hjl)
      clear kt hjl
      generalize es.getD j noEv = ev at *
      go_upto_region 9 with (fail)
      have al : Below wr.heap.size wr (wr.alloc (.cells #[.string ev.s, .string ev.t, .slice A1 n1 c1, .slice B1 m1 d1] 47)) := (Below.refl _ _).alloc (Nat.le_refl _) _
      have e3 := EvAt.new wr (.string ev.s) (.string ev.t) (.slice A1 n1 c1) (.slice B1 m1 d1)
      have s3 := sr.below al
      have iv : IsEv (wr.alloc (.cells #[.string ev.s, .string ev.t, .slice A1 n1 c1, .slice B1 m1 d1] 47)) (.agg #[.string ev.s, .string ev.t, .slice A1 n1 c1, .slice B1 m1 d1]) ev := ⟨_, _, _, _, _, _, rfl, RdC.below r1 al, RdC.below r2 al⟩
      generalize wr.alloc (.cells #[.string ev.s, .string ev.t, .slice A1 n1 c1, .slice B1 m1 d1] 47) = w3 at *
      have q0 := e3.c0
      have q1 := e3.c1
      have q2 := e3.c2
      have q3 := e3.c3
      clear x0 x1 x2 x3 r1 r2 k0 sr al e3
      go_wp2_with fail
      refine (evMay_any _ ev w3 iv hoe).mono ?_
      rintro e w6 ⟨rfl, b6⟩
      have s6 := s3.below b6
      clear q0 q1 q2 q3 iv s3 b6
      by_cases he : mayE ev = 0
      · have HT2 := Go.Lib.hid (HT.out he)
        rw [he]
        clear he HT HA
        go_wp2_with fail
        go_roundw
        case rel => exact ⟨j + 1, by omega, by go_num, HT2, s6⟩
        case measure => simp [intOf]; omega
      · have hb : (mayE ev != 0) = true := by rw [bne_iff_ne]; exact he
        have hme := HA.out he
        have hM : M = mayE ev := by rw [HE.out (by rw [hme]; exact he), hme]
        rw [← hM] at hb ⊢
        clear HA HT HE HX hme he hM
        go_wp2_with fail
        go_ret
        exact ⟨rfl, s6.bel⟩
    · obtain rfl : n = j := by omega
      have hes : es.take n = es := List.take_of_length_le (by rw [LE.out]; exact Nat.le_refl _)
      have HM := Go.Lib.hid (HX.out (by rw [← hes]; exact HJ.out))
      clear hes HX HE HJ
      by_cases ha : a < 0
      · obtain rfl : M = 1 := by rw [HM.out, if_pos (.inl ha)]
        clear HM
        go_wp2_with fail
        go_ret
        exact ⟨rfl, sr.bel⟩
      · by_cases hb : 1048576 - (n : Int) < a
        · obtain rfl : M = 1 := by rw [HM.out, if_pos (.inr hb)]
          clear HM
          go_wp2_with fail
          go_ret
          exact ⟨rfl, sr.bel⟩
        · obtain rfl : M = 0 := by rw [HM.out, if_neg (by omega)]
          clear HM
          go_wp2_with fail
          go_ret
          exact ⟨rfl, sr.bel⟩


end Go.Proofs.Ytiplfhmimpkplaa.BtWalk

/-
  Contracts of the landed index: Add.
-/
namespace Go.Proofs.Ytiplfhmimpkplaa.IxWalk
open Go.RowKit Go.Maps Go.Proofs.Ytiplfhmimpkplaa.MemRow Go.Proofs.Ytiplfhmimpkplaa.Ev Go.Proofs.Ytiplfhmimpkplaa.NameMath Go.Proofs.Ytiplfhmimpkplaa.NameWalk Go.Proofs.Ytiplfhmimpkplaa.EvWalk Go.Proofs.Ytiplfhmimpkplaa.NumMem Go.Proofs.Ytiplfhmimpkplaa.Qu Go.Proofs.Ytiplfhmimpkplaa.QuWalk Go.Proofs.Ytiplfhmimpkplaa.BtWalk Go.Proofs.Ytiplfhmimpkplaa.DkWalk Go.Proofs.Ytiplfhmimpkplaa.InWalk
open Go.Proofs.Ytiplfhmimpkplaa.PnWalk (LnC GrewC mapAt LBx find14_any add14p_any clone14p_any)

/-! ### What may be is of a size that a machine has -/
set_option maxRecDepth 100000 in
theorem may_fit {e : Ev} (h : mayE e = 0) : e.s.size ≤ maxLen ∧ e.tags.length ≤ 6 ∧ e.fs.length ≤ 4 := by
  obtain ⟨h1, _, h2, h3, _⟩ := (mayE_zero e).1 h
  refine ⟨?_, h2, h3⟩
  unfold nameB may at h1
  simp only [Bool.and_eq_true, decide_eq_true_eq] at h1
  have h4 : e.s.data.toList.length ≤ 24 := h1.1.2
  have h5 : e.s.size = e.s.data.toList.length := by
    show e.s.data.size = _
    rw [Array.length_toList]
  unfold maxLen
  omega
set_option maxRecDepth 100000 in
theorem logOk_fit {es : List Ev} (h : LogOk es) : RcsFit (recF es) := fun r hr => by
  have hm : r.e ∈ es := by
    unfold recF at hr
    obtain ⟨i, hi, e⟩ := List.mem_mapIdx.1 hr
    rw [← e]
    exact List.getElem_mem hi
  have := may_fit (h.2 r.e hm)
  exact ⟨by omega, by omega⟩
theorem logOk_size {es : List Ev} (h : LogOk es) : ∀ x ∈ es, x.s.size ≤ maxLen := fun x hx => (may_fit (h.2 x hx)).1

section
variable {w w' : World} {F : Nat → Prop} {n ca : Nat} {l : List Ev}
set_option maxRecDepth 100000 in
/-- What reads the same whatever is done to the blocks of F lies in none of them. -/
theorem not_wr {b o : Nat} (hb : b < w.heap.size) (hv : ∀ w', Ch F w w' → RdE w' (some ⟨b, o, none⟩) n ca l) (hn : 0 < n) : ¬ F b := fun hF => by
  have hc : Ch F w { w with heap := w.heap.setIfInBounds b (.map #[] 0) } := ⟨rfl, rfl, rfl, by simp, fun k _ hk => by
    have : b ≠ k := fun e => hk (by rw [← e]; exact hF)
    simp [this]⟩
  obtain ⟨b2, o2, e, _, kc⟩ := (hv _ hc).at_ hn
  injection e with e
  injection e with e1 e2
  subst e1 e2
  obtain ⟨A, nA, cA, B, m, cb, x0, _⟩ := kc 0 hn
  have hz : ({ w with heap := w.heap.setIfInBounds b (.map #[] 0) } : World).heap[b]? = some (.map #[] 0) := by simp [hb]
  simp [World.cell?, hz] at x0
set_option maxRecDepth 100000 in
/-- The rows of an event that lies in memory, whatever is done to the blocks of F. -/
theorem ev_all {b o j : Nat} {T Y : Option Addr} {nT cT nY cY : Nat} (hv : ∀ w', Ch F w w' → RdE w' (some ⟨b, o, none⟩) n ca l) (hlt : b < w.heap.size) (hj : j < n) (x2 : w.cell? ⟨b, o + j * 4 + 2, none⟩ = some (.slice T nT cT)) (x3 : w.cell? ⟨b, o + j * 4 + 3, none⟩ = some (.slice Y nY cY)) :
    ∀ w', Ch F w w' → RdS w' T nT cT (l.getD j noEv).tags ∧ RdF w' Y nY cY (l.getD j noEv).fs := fun w' c => by
  have nF := not_wr hlt hv (by omega)
  obtain ⟨b2, o2, e, _, kc⟩ := (hv w' c).at_ (by omega)
  injection e with e
  injection e with e1 e2
  subst e1 e2
  obtain ⟨A, nA, cA, B, m, cb, _, _, y2, y3, rA, rB⟩ := kc j hj
  have hb := c.block b hlt nF
  have z2 := (World.cell?_of_block (w := w) (a := ⟨b, o + j * 4 + 2, none⟩) hb).trans x2
  have z3 := (World.cell?_of_block (w := w) (a := ⟨b, o + j * 4 + 3, none⟩) hb).trans x3
  rw [y2] at z2
  rw [y3] at z3
  injection z2 with z2
  injection z2 with a1 a2 a3
  injection z3 with z3
  injection z3 with b1 b2 b3
  subst a1 a2 a3 b1 b2 b3
  exact ⟨rA, rB⟩
end

section
variable {w : World} {g : Nat} {S : Sets} {d : Dat} {es : List Ev}
/-- What Add comes to: the log behind it, then the records for the caller. -/
def AddOut (w w' : World) (g : Nat) (S : Sets) (d : Dat) (es : List Ev) (x : Bat) (r : Ending) : Prop :=
  ∃ B m c wm S1 d1, r = .returned (.tuple #[.slice B m c, .int .i64 (addB es x).1]) ∧ Step w wm g S d es S1 d1 (addB es x).2.2 ∧ Below wm.heap.size wm w' ∧ RoT B m c (addB es x).2.1 w' (fun k => wm.heap.size ≤ k ∧ k < w'.heap.size)
theorem roT_none (w : World) {G : Nat → Prop} (h : ∀ k, G k → k < w.heap.size) : RoT none 0 0 [] w G := ⟨fun _ => False, fun _ => False, ⟨rfl, Nat.le_refl _, Nat.zero_le _, fun h => absurd h (Nat.lt_irrefl _)⟩, fun _ h => h.elim, fun _ h => h.elim, fun _ h => h.elim, h⟩
set_option maxHeartbeats 8000000 in
set_option maxRecDepth 100000 in
theorem addX_any (h : IdR w g S d es) (lo : LogOk es) {v : Value} {x : Bat} (hl : es.length + x.es.length ≤ 400) (hv : ∀ w', Ch (S.wr g) w w' → IsB w' v x) (hok : BOk x) :
    Calls Try.prog 12 #[.pointer (some ⟨g, 0, none⟩), v] w fun r w' => AddOut w w' g S d es x r := by
  obtain ⟨A, n, ca, rfl, _⟩ := hv w (Ch.refl _ _)
  have hv : ∀ w', Ch (S.wr g) w w' → RdE w' A n ca x.es := fun w' c => by
    obtain ⟨A2, n2, ca2, e, r⟩ := hv w' c
    injection e with e
    simp only [Array.mk.injEq, List.cons.injEq, Value.slice.injEq, and_true, true_and] at e
    obtain ⟨rfl, rfl, rfl⟩ := e
    exact r
  obtain ⟨xa, bes⟩ := x
  simp only at hl hv
  have b1 : Below w.heap.size w (w.alloc (.cells #[.int .i64 xa, .slice A n ca] 33)) := (Below.refl _ _).alloc (Nat.le_refl _) _
  have x1 := BxAt.new w (.int .i64 xa) (.slice A n ca)
  have r1 := hv _ (Ch.of_below b1)
  have hn := r1.le
  unfold maxLen at hn
  have HLN := Go.Lib.hid r1.len
  have H := Go.Lib.hid h
  have LO := Go.Lib.hid lo
  have HV := Go.Lib.hid hv
  have HOK := Go.Lib.hid hok
  have MY := Go.Lib.hid (may10_any (.agg #[.int .i64 xa, .slice A n ca]) ⟨xa, bes⟩ _ ⟨A, n, ca, rfl, r1⟩ hok)
  have k0 := x1.c0
  have k1 := x1.c1
  clear h lo hv hok r1
  go_enter Try.func12, Try.ntmps12
  go_upto_region 1 with (fail)
  generalize w.alloc (.cells #[.int .i64 xa, .slice A n ca] 33) = w1 at *
  have X1 := Go.Lib.hid x1
  have B1 := Go.Lib.hid b1
  clear x1 b1
  go_upto_region 2 with (first | (go_at_call 26; refine (MY.out).mono ?_; rintro r w2 ⟨rfl, b2⟩))
  have B2 := Go.Lib.hid (B1.out.trans (b2.mono B1.out.size))
  have x2 := X1.out.below b2
  have X2 := Go.Lib.hid x2
  have ST0 := Go.Lib.hid (Step.below H.out B2.out)
  clear MY k0 k1 b2
  by_cases hm : mayX ⟨xa, bes⟩ = 0
  · rw [hm]
    have k0 := x2.c0
    have k1 := x2.c1
    have bd : ∀ q, Below w2.heap.size w2 (w2.drewN q) := fun q => ⟨rfl, rfl, rfl, Nat.le_refl _, fun _ _ => rfl⟩
    have hlq : ∀ q, Calls Try.prog 11 #[.pointer (some ⟨g, 0, none⟩)] (w2.drewN q) fun e w' => e = .returned (.int .i64 (es.length : Nat)) ∧ ∃ k, w' = w2.drewN k := fun q => (last14_any (w := w2.drewN q) (ST0.out.id.below (bd q)).bx (ST0.out.id.below (bd q)).rl).mono fun e w' h => ⟨h.1, q, h.2⟩
    clear x2
    by_cases ha : xa = es.length
    · have HY := Go.Lib.hid (addB_yes hm ha)
      have HM := Go.Lib.hid hm
      subst ha
      have i1 : ((es.length : Int) != (es.length : Int)) = false := by simp
      clear hm
      go_upto_region 4 with (fail)
      go_cut [18] (fun v wx => v = .bool false ∧ ∃ q, wx = w2.drewN q)
      case first =>
        generalize es.length = ne at *
        go_quiet (first | (go_at_call 11; exact hlq _))
        go_wp2_with fail
        go_meet
        exact ⟨rfl, _, rfl⟩
      case rest =>
        obtain ⟨rfl, q, rfl⟩ := hcut
        have x3 := X2.out.below (bd q)
        have B3 := Go.Lib.hid (B2.out.trans ((bd q).mono B2.out.size))
        have hgt : w.heap.size < (w2.drewN q).heap.size := x3.lt
        have HNW := Go.Lib.hid (show ¬ S.wr g w.heap.size from fun hf => Nat.lt_irrefl _ (H.out.lt _ (H.out.wra _ hf)))
        clear hlq bd k0 k1 i1 ST0 X2 X1 B1
        generalize w2.drewN q = w3 at *
        have k1 := x3.c1
        have X3 := Go.Lib.hid x3
        have H3 := Go.Lib.hid (H.out.below B3.out)
        have HV3 := Go.Lib.hid (fun w' (c : Ch (S.wr g) w3 w') => HV.out w' ((Ch.of_below B3.out).trans (c.wide fun _ hk => .inl hk)))
        have S0 := Go.Lib.hid (show ∃ Sj dj, Step w3 w3 g S d es Sj dj (es ++ bes.take 0) from ⟨S, d, by rw [List.take_zero, List.append_nil]; exact Step.below H3.out (Below.refl _ _)⟩)
        clear x3 hv
        go_upto_region 6 with (fail)
        go_wp2_with fail
        go_loopw [22] (fun i wr => ∃ j : Nat, i = .int .i64 (j : Int) ∧ j ≤ n ∧ Hid (∃ Sj dj, Step w3 wr g S d es Sj dj (es ++ bes.take j))) (fun i _ => n - (intOf i).toNat)
        case atStart => exact ⟨0, rfl, Nat.zero_le _, S0⟩
        case round =>
          obtain ⟨j, rfl, hj, HS⟩ := hrel
          clear S0 k1
          obtain ⟨Sj, dj, st⟩ := HS.out
          have ST := Go.Lib.hid st
          clear HS
          by_cases hlt : j < n
          · have hj2 : j < bes.length := by rw [HLN.out]; exact hlt
            obtain ⟨b, o, rfl, hltb, kc⟩ := (HV3.out wr st.ch).at_ (by omega)
            obtain ⟨T, nT, cT, Y, nY, cY, x0, x1, x2, x3, rT, rY⟩ := kc j hlt
            have hev := ev_all (fun w' (c : Ch (Sj.wr g) wr w') => HV3.out w' (st.ch.trans (c.wide fun k hk => st.fw k hk))) hltb hlt x2 x3
            have hmem := evsGet hj2
            have he0 := (mayEs_zero bes).1 (by
              have := (mayX_zero _).1 HM.out
              exact (mayEs_zero bes).2 this.2.2.1) _ hmem
            have hfit := may_fit he0
            have heo := HOK.out.evs _ hmem
            have htk := evsTake bes j hj2
            have hle2 : (es ++ bes.take j).length < 400 := by rw [List.length_append, List.length_take]; omega
            have hsz : ∀ x ∈ es ++ bes.take j, x.s.size ≤ maxLen := fun x hx => by
              rcases List.mem_append.1 hx with hx | hx
              · exact logOk_size LO.out x hx
              · exact (may_fit ((mayEs_zero bes).1 ((mayEs_zero bes).2 ((mayX_zero _).1 HM.out).2.2.1) x (List.mem_of_mem_take hx))).1
            generalize bes.getD j noEv = ev at *
            have al : Below wr.heap.size wr (wr.alloc (.cells #[.string ev.s, .string ev.t, .slice T nT cT, .slice Y nY cY] 47)) := (Below.refl _ _).alloc (Nat.le_refl _) _
            have x4 := EvAt.new wr (.string ev.s) (.string ev.t) (.slice T nT cT) (.slice Y nY cY)
            have i1 : (j : Int) < n := by omega
            have CA := Go.Lib.hid (add1_any (st.id.below al) hle2 hsz (fun w' c => hev w' ((Ch.of_below al).trans (c.wide fun _ hk => .inl hk))) heo (by omega) (by omega))
            have AL := Go.Lib.hid al
            have HTK := Go.Lib.hid htk
            clear kc rT rY hev hmem he0 hfit heo htk hle2 hsz al st
            go_upto_region 9 with (fail)
            generalize wr.alloc (.cells #[.string ev.s, .string ev.t, .slice T nT cT, .slice Y nY cY] 47) = w4 at *
            have y0 := x4.c0
            have y1 := x4.c1
            have y2 := x4.c2
            have y3 := x4.c3
            clear x0 x1 x2 x3 x4
            go_wp2_with (first | (go_at_call 27; refine (CA.out).mono ?_; rintro r w5 ⟨rfl, S5, d5, st5⟩; have ST5 := Go.Lib.hid st5; clear st5))
            go_roundw
            case rel => exact ⟨j + 1, by go_num, by omega, Go.Lib.hid ⟨S5, d5, by rw [HTK.out, ← List.append_assoc]; exact ST.out.trans ((Step.below ST.out.id AL.out).trans ST5.out)⟩⟩
            case measure => simp [intOf]; omega
          · obtain rfl : n = j := by omega
            have i1 : ¬ (n : Int) < n := by omega
            have he : bes.take n = bes := List.take_of_length_le (by rw [HLN.out]; exact Nat.le_refl _)
            rw [he] at st ST
            have hlen : (es ++ bes).length = es.length + bes.length := List.length_append
            have x5 := (st.ch.block _ hgt HNW.out).trans X3.out
            obtain ⟨A2, n2, c2, e2, r2, _⟩ := st.id.rl.rd
            have hn2 := st.id.rl.len e2
            have bx := st.id.bx
            rw [e2] at bx
            have hle : es.length ≤ n2 := by omega
            have qs := slice_loR A2 (c := c2) hle
            have r3 := r2.cut hle
            have hdrop : (recF (es ++ bes)).drop es.length = newR es bes := by
              rw [rec_more, ← rec_len es, List.drop_left]
            rw [hdrop] at r3
            have hmz := (mayX_zero _).1 HM.out
            have hfit : RcsFit (newR es bes) := fun r hr => by
              have hlo : LogOk (es ++ bes) := ⟨by omega, fun x hx => by
                rcases List.mem_append.1 hx with hx | hx
                · exact LO.out.2 x hx
                · exact hmz.2.2.1 x hx⟩
              exact logOk_fit hlo r (by rw [rec_more]; exact List.mem_append_right _ hr)
            have hb16 : n2 - es.length ≤ 1000 := by have := hmz.2.1; simp only at this; omega
            have bq : ∀ q, Below wr.heap.size wr (wr.drewN q) := fun q => ⟨rfl, rfl, rfl, Nat.le_refl _, fun _ _ => rfl⟩
            have CC := Go.Lib.hid (fun q => copies_any _ (n2 - es.length) (c2 - es.length) (newR es bes) (wr.drewN q) (r3.drewN q) hb16 hfit)
            have BQ := Go.Lib.hid bq
            have kR := bx.c0
            have kQ : ∀ q, (wr.drewN q).cell? ⟨g, 0, none⟩ = some (.slice A2 n2 c2) := fun q => bx.c0
            have kA : wr.cell? ⟨w.heap.size, 0, none⟩ = some (.int .i64 (es.length : Nat)) := by rw [cell_of_row wr _ 0 _ _ _ x5]; rfl
            have kB : ∀ q, (wr.drewN q).cell? ⟨w.heap.size, 0, none⟩ = some (.int .i64 (es.length : Nat)) := fun q => kA
            have HX := Go.Lib.hid bx
            have X5 := Go.Lib.hid x5
            clear bx x5 e2 r2 hn2 r3 hdrop hfit hb16 bq hlen st hlt hj he
            generalize (if c2 = es.length then A2 else A2.map (·.add (es.length * 6))) = A3 at *
            have HES := Go.Lib.hid (show ∃ z, z = es.length from ⟨_, rfl⟩)
            go_wp2_with fail
            go_upto_region 11 with (fail)
            go_region_held (fun w' => w'.cell? ⟨g, 0, none⟩ = some (.slice A2 n2 c2) ∧ w'.cell? ⟨w.heap.size, 0, none⟩ = some (.int .i64 (es.length : Nat)))
              (first | exact ⟨kR, kA⟩ | exact ⟨kQ _, kB _⟩ | exact ⟨y6, z6⟩)
              (first | (go_at_call 28; refine (CC.out _).mono ?_; rintro e w6 HE; obtain ⟨g6, n6, rfl, h6⟩ := id HE; have b7 := (BQ.out _).trans h6.2.2.2; have y6 := (HX.out.below b7).c0; have z6 := bcell b7 kA; have HEH := Go.Lib.hid HE; have B7 := Go.Lib.hid b7; clear h6 HE b7))
            all_goals
              go_wp2_with fail
              go_ret2
              obtain ⟨B, m, c, e1, th, _⟩ := HEH.out.thing
              injection e1 with e1
              injection e1 with a1 a2 a3
              subst a1 a2 a3
              exact ⟨_, _, _, wr, Sj, dj, by rw [HY.out]; rfl, by rw [HY.out]; exact (Step.below H.out B3.out).trans ST.out, B7.out, by rw [HY.out]; exact th⟩
    · have HY := Go.Lib.hid (addB_no hm ha)
      have i1 : (xa != (es.length : Int)) = true := by rw [bne_iff_ne]; exact ha
      have HE := Go.Lib.hid (fun q => show AddOut w (w2.drewN q) g S d es ⟨xa, bes⟩ (.returned (.tuple #[.slice none 0 0, .int .i64 1])) by
        refine ⟨none, 0, 0, w2, S, d, by rw [HY.out], by rw [HY.out]; exact ST0.out, bd q, by rw [HY.out]; exact roT_none _ fun k hk => hk.2⟩)
      clear HY hm ha bd
      generalize es.length = ne at *
      go_upto_region 4 with (fail)
      go_quiet (first | (go_at_call 11; exact hlq _))
      go_wp2_with fail
      go_ret2
      exact HE.out _
  · have HY := Go.Lib.hid (addB_bad (es := es) hm)
    have HE := Go.Lib.hid (show AddOut w w2 g S d es ⟨xa, bes⟩ (.returned (.tuple #[.slice none 0 0, .int .i64 (mayX ⟨xa, bes⟩)])) by
      refine ⟨none, 0, 0, w2, S, d, by rw [HY.out], by rw [HY.out]; exact ST0.out, Below.refl _ _, by rw [HY.out]; exact roT_none _ fun k hk => hk.2⟩)
    clear HY x2
    generalize mayX ⟨xa, bes⟩ = M at *
    go_wp2_with fail
    go_ret2
    exact HE.out
end

end Go.Proofs.Ytiplfhmimpkplaa.IxWalk

/-
  Contracts of the landed index: New, Stream, Query, Version.
-/
namespace Go.Proofs.Ytiplfhmimpkplaa.IxWalk
open Go.RowKit Go.Maps Go.Proofs.Ytiplfhmimpkplaa.MemRow Go.Proofs.Ytiplfhmimpkplaa.Ev Go.Proofs.Ytiplfhmimpkplaa.NameMath Go.Proofs.Ytiplfhmimpkplaa.NameWalk Go.Proofs.Ytiplfhmimpkplaa.EvWalk Go.Proofs.Ytiplfhmimpkplaa.NumMem Go.Proofs.Ytiplfhmimpkplaa.Qu Go.Proofs.Ytiplfhmimpkplaa.QuWalk Go.Proofs.Ytiplfhmimpkplaa.BtWalk Go.Proofs.Ytiplfhmimpkplaa.DkWalk Go.Proofs.Ytiplfhmimpkplaa.InWalk
open Go.Proofs.Ytiplfhmimpkplaa.SmWalk (Tb seqT TOk addF lastP seq_last posF RdI nums allP verN posF_ver)
open Go.Proofs.Ytiplfhmimpkplaa.PnWalk (Dt DOf HdT KinC LnC GrewC mapAt LBx find14_any add14p_any clone14p_any)
open Go.Proofs.Ytiplfhmimpkplaa.PoWalk (findP)

theorem CopOut.from {w w1 w' : World} {rs : List Rc} {e : Ending} (h : CopOut w1 w' rs e) (hb : Below w.heap.size w w1) : CopOut w w' rs e := by
  obtain ⟨g, n, rfl, h1, h2, h3, h4⟩ := h
  exact ⟨g, n, rfl, Nat.le_trans hb.size h1, h2, h3, below_chain hb h4⟩
def noSets : Sets := ⟨fun _ => False, fun _ => False, fun _ => False, fun _ => False, fun _ => False, fun _ => False, fun _ => False⟩
def noDat : Dat := ⟨none, .map [], fun _ => ⟨0, 0, 0⟩, ⟨[], fun _ => []⟩, none, fun _ => .map [], fun _ => none, none⟩
set_option maxHeartbeats 2000000 in
set_option maxRecDepth 100000 in
theorem new14_any (w : World) : Calls Try.prog 9 #[] w fun e w' => e = .returned (.pointer (some ⟨w.heap.size, 0, none⟩)) ∧ IdR w' w.heap.size noSets noDat [] ∧ Below w.heap.size w w' := by
  have b1 : Below w.heap.size w (w.alloc (.cells #[.slice none 0 0, .map none, .int .i64 0, .slice none 0 0, .map none, .map none] 74)) := (Below.refl _ _).alloc (Nat.le_refl _) _
  have x1 := XBx.new w (.slice none 0 0) (.map none) (.int .i64 0) (.slice none 0 0) (.map none) (.map none)
  have HI := Go.Lib.hid (show IdR (w.alloc (.cells #[.slice none 0 0, .map none, .int .i64 0, .slice none 0 0, .map none, .map none] 74)) w.heap.size noSets noDat [] from
    ⟨x1, TbC.empty _ _, LnC.empty _, DOf.nil, .inr ⟨rfl, rfl⟩, fun _ h => h, fun _ h => h.elim, fun _ h => h.elim, fun _ h => h.elim, fun _ h => h.elim, fun _ h => h.elim, fun _ h => h.elim, fun _ h => h.elim, fun _ h => h.elim, fun h => h, fun h => h, fun h => h, fun h => h⟩)
  have B1 := Go.Lib.hid b1
  clear b1 x1
  go_enter Try.func9, Try.ntmps9
  go_wp2_with fail
  go_ret
  exact ⟨rfl, HI.out, B1.out⟩
section
variable {w : World} {g : Nat} {S : Sets} {d : Dat} {es : List Ev}
set_option maxHeartbeats 4000000 in
set_option maxRecDepth 100000 in
theorem ver14_any (h : IdR w g S d es) (lo : LogOk es) {s : ByteArray} (hs : s.size ≤ maxLen) (u : Int) :
    Calls Try.prog 20 #[.pointer (some ⟨g, 0, none⟩), .string s, .int .i64 u] w fun e w' => e = .returned (.int .i64 ((strF es s u).length : Nat)) ∧ ∃ q, w' = w.drewN q := by
  have ok := tab_ok lo.1 (logOk_size lo)
  have CV := Go.Lib.hid (ver14s_any h.bx h.st ok hs u)
  have HL := Go.Lib.hid (show verN (allP (seqT (strs es)) s) u = (strF es s u).length by rw [str_len, posF_ver ok.rise])
  clear h lo ok
  generalize verN (allP (seqT (strs es)) s) u = a at *
  generalize (strF es s u).length = b at *
  obtain rfl := HL.out
  go_enter Try.func20, Try.ntmps20
  go_wp2_with (first | (go_at_call 38; refine (CV.out).mono ?_; rintro e w2 ⟨rfl, q, rfl⟩))
  go_ret
  exact ⟨rfl, _, rfl⟩
set_option maxHeartbeats 4000000 in
set_option maxRecDepth 100000 in
theorem str14_any (h : IdR w g S d es) (lo : LogOk es) {s : ByteArray} (hs : s.size ≤ maxLen) (u : Int) :
    Calls Try.prog 14 #[.pointer (some ⟨g, 0, none⟩), .string s, .int .i64 u] w fun e w' => CopOut w w' (strF es s u) e := by
  have ok := tab_ok lo.1 (logOk_size lo)
  have CP := Go.Lib.hid (pos14s_any h.bx h.st ok hs u)
  have hlen : (posF (seqT (strs es)) s u).length ≤ 400 := by rw [← str_len]; exact Nat.le_trans (tell_len _ _ _) lo.1
  have CA := Go.Lib.hid (fun (w2 : World) (B : Option Addr) (m c : Nat) (b2 : Below w.heap.size w w2) (r : RdI w2 B m c (posF (seqT (strs es)) s u)) => at_any B m c _ w2 (h.below b2).bx (h.below b2).rl r (fun p hp => str_in hp) (by have := RdI.len r; omega) (Nat.le_trans lo.1 (by decide)) (logOk_fit lo))
  rw [← str_by] at CA
  clear h lo ok hlen
  go_enter Try.func14, Try.ntmps14
  go_wp2_with (first
    | (go_at_call 30; refine (CP.out).mono ?_; rintro e w2 ⟨B, m, c, rfl, r2, _, b2⟩; have CA2 := Go.Lib.hid (CA.out w2 B m c b2 r2); clear r2)
    | (go_at_call 29; refine (CA2.out).mono ?_; rintro e w3 HE; obtain ⟨g6, n6, rfl, h6⟩ := id HE; have HEH := Go.Lib.hid HE; clear h6 HE))
  go_ret
  exact HEH.out.from b2
set_option maxHeartbeats 4000000 in
set_option maxRecDepth 100000 in
theorem qry14_any (h : IdR w g S d es) (lo : LogOk es) {v : Value} {q : List Cl} (hq : IsQ w v q) (hf : QFew q) (u : Int) :
    Calls Try.prog 15 #[.pointer (some ⟨g, 0, none⟩), v, .int .i64 u] w fun e w' => CopOut w w' (qryF es q u) e := by
  obtain ⟨C, nq, cq, rfl, rq⟩ := hq
  have b1 : Below w.heap.size w (w.alloc (.cells #[.slice C nq cq] 25)) := (Below.refl _ _).alloc (Nat.le_refl _) _
  have x1 := heap_alloc_new w (.cells #[.slice C nq cq] 25)
  have h1 := h.below b1
  have rq1 := rq.below b1
  have k0 : (w.alloc (.cells #[.slice C nq cq] 25)).cell? ⟨w.heap.size, 0, none⟩ = some (.slice C nq cq) := by rw [cell_of_row _ _ 0 _ _ _ x1]; rfl
  have B1 := Go.Lib.hid b1
  clear h rq b1 x1
  go_enter Try.func15, Try.ntmps15
  go_upto_region 1 with (fail)
  generalize w.alloc (.cells #[.slice C nq cq] 25) = w1 at *
  have bq : ∀ k, Below w1.heap.size w1 (w1.drewN k) := fun k => ⟨rfl, rfl, rfl, Nat.le_refl _, fun _ _ => rfl⟩
  have hlen : (findP (logL es) q u).length ≤ 400 := by rw [← qry_pos, List.length_map]; exact Nat.le_trans (tell_len _ _ _) lo.1
  have CF := Go.Lib.hid (fun k => find14_any (h1.below (bq k)).bx (h1.below (bq k)).ln h1.dof (logL_ok lo.1) (v := .agg #[.slice C nq cq]) ⟨C, nq, cq, rfl, rq1.below (bq k)⟩ hf.1 hf.2.2 u)
  have CA := Go.Lib.hid (fun (w2 : World) (B : Option Addr) (m c : Nat) (b2 : Below w1.heap.size w1 w2) (r : RdI w2 B m c (findP (logL es) q u)) => at_any B m c _ w2 (h1.below b2).bx (h1.below b2).rl r (fun p hp => qry_in hp) (by have := RdI.len r; omega) (Nat.le_trans lo.1 (by decide)) (logOk_fit lo))
  rw [← qry_by] at CA
  have kq : ∀ k, (w1.drewN k).cell? ⟨w.heap.size, 0, none⟩ = some (.slice C nq cq) := fun k => k0
  have BQ := Go.Lib.hid bq
  clear h1 rq1 bq hlen
  go_region_held (fun w' => w'.cell? ⟨w.heap.size, 0, none⟩ = some (.slice C nq cq))
    (first | exact k0 | exact kq _ | exact y2 | exact y3)
    (first
      | (go_at_call 31; refine (CF.out _).mono ?_; rintro e w2 ⟨B, m, c, rfl, o2, b2⟩; have b3 := (BQ.out _).trans b2; have y2 := bcell b3 k0; have CA2 := Go.Lib.hid (CA.out w2 B m c b3 (OwnC.rd o2)); have B3 := Go.Lib.hid b3; clear o2 b2 b3)
      | (go_at_call 29; refine (CA2.out).mono ?_; rintro e w3 HE; obtain ⟨g6, n6, rfl, h6⟩ := id HE; have y3 := bcell h6.2.2.2 y2; have HEH := Go.Lib.hid HE; clear h6 HE))
  all_goals
    go_wp2_with fail
    go_ret
    exact HEH.out.from (below_chain B1.out B3.out)
end

end Go.Proofs.Ytiplfhmimpkplaa.IxWalk

/-
  Contracts of the landed index: Clone.
-/
namespace Go.Proofs.Ytiplfhmimpkplaa.IxWalk
open Go.RowKit Go.Maps Go.Proofs.Ytiplfhmimpkplaa.MemRow Go.Proofs.Ytiplfhmimpkplaa.Ev Go.Proofs.Ytiplfhmimpkplaa.NameMath Go.Proofs.Ytiplfhmimpkplaa.NameWalk Go.Proofs.Ytiplfhmimpkplaa.EvWalk Go.Proofs.Ytiplfhmimpkplaa.NumMem Go.Proofs.Ytiplfhmimpkplaa.Qu Go.Proofs.Ytiplfhmimpkplaa.QuWalk Go.Proofs.Ytiplfhmimpkplaa.BtWalk Go.Proofs.Ytiplfhmimpkplaa.DkWalk Go.Proofs.Ytiplfhmimpkplaa.InWalk Go.Proofs.Ytiplfhmimpkplaa.HeldAt
open Go.Proofs.Ytiplfhmimpkplaa.SmWalk (Tb seqT TOk addF lastP seq_last fullH)
open Go.Proofs.Ytiplfhmimpkplaa.PnWalk (Dt DOf HdT KinC fullO full_room LnC GrewC mapAt LBx find14_any add14p_any clone14p_any)

/-- A list without room. -/
def fullX : Option Hx → Option Hx
  | some h => some ⟨h.b, h.n, h.n⟩
  | none => none
set_option maxRecDepth 100000 in
/-- v[:n:n] -/
theorem slice_fullX (A : Option Addr) (n c : Nat) (hc : n ≤ c) (hA : A = none → n = 0) (h0 : ∀ a, A = some a → a = ⟨a.block, 0, none⟩) (W : World) : (Instr.slice 36 (.slice A n c) none (some (.int .i64 (n : Int))) (some (.int .i64 (n : Int)))).run Try.prog W = .ok (.slice A n n) W := by
  have hu : Try.prog.underlying 36 = some (.slice (Try.prog.elem 36)) := by rw [elem_recs]; exact Try.underlying36
  rw [run_slice_hm (P := Try.prog) W 36 _ n c hu .i64 .i64 (n : Int) (n : Int) (by omega) (by omega) (by omega), elem_recs, run_size (k := 6) (by kernel_rfl)]
  simp only [Result.andThen, sliced, Int.toNat_natCast, Nat.zero_mul, Nat.sub_zero]
  cases A with
  | none => simp
  | some a =>
    have e := h0 a rfl
    rw [e]
    simp only [Option.map_some, Addr.add]
    congr 2
    split <;> rfl
set_option maxRecDepth 100000 in
theorem OldR.full {w : World} {F G W : Nat → Prop} {old : Option Hx} {rs : List Rc} (o : OldR w F G W old rs) : ∃ A n c, mkX old = .slice A n c ∧ mkX (fullX old) = .slice A n n ∧ n ≤ c ∧ (A = none → n = 0) ∧ (∀ a, A = some a → a = ⟨a.block, 0, none⟩) := by
  rcases o with ⟨h, rfl, r⟩ | ⟨rfl, rfl⟩
  · exact ⟨_, _, _, rfl, rfl, r.le, (fun e => by cases e), (fun a e => by injection e with e; rw [← e])⟩
  · exact ⟨none, 0, 0, rfl, rfl, Nat.le_refl _, (fun _ => rfl), (fun a e => by cases e)⟩
set_option maxRecDepth 100000 in
theorem OldR.fullr {w : World} {F F' G W : Nat → Prop} {old : Option Hx} {rs : List Rc} (o : OldR w F G W old rs) : OldR w F' G W (fullX old) rs := by
  rcases o with ⟨h, rfl, r⟩ | ⟨rfl, rfl⟩
  · obtain ⟨cur, e1, e2⟩ := r.ex
    have := r.le
    have := r.cap
    exact .inl ⟨_, rfl, ⟨⟨cur, e1, by simp only; omega⟩, r.rc, r.len, r.pos, Nat.le_refl _, by simp only; omega, fun hx => absurd hx (Nat.lt_irrefl _), r.gb⟩⟩
  · exact .inr ⟨rfl, rfl⟩
set_option maxRecDepth 100000 in
theorem dof_les {D : Dt} {es : List Ev} (d : DOf D (logL es)) (h : es.length ≤ 400) (b : Bool) : (D.t b).length ≤ 1000000 := by
  have hl := logL_len es
  cases b
  · have := d.tl
    omega
  · have := d.yl
    omega
/-- The blocks that came between two worlds. -/
abbrev btw (a b : World) (k : Nat) : Prop := a.heap.size ≤ k ∧ k < b.heap.size
/-- An index and its copy. -/
def CloneOut (w w' : World) (g : Nat) (S : Sets) (d : Dat) (es : List Ev) (e : Ending) : Prop :=
  ∃ g2 S1 S2 d2, e = .returned (.pointer (some ⟨g2, 0, none⟩)) ∧ Below w.heap.size w w' ∧ w.heap.size ≤ g2 ∧ IdR w' g S1 d es ∧ IdR w' g2 S2 d2 es ∧ Rel S1 d es S2 d2 es ∧ (∀ k, S1.all g k → up (S.all g) w w' k) ∧ (∀ k, S2.all g2 k → up (S.all g) w w' k)
section
variable {w wa wb wc wd wf : World} {g g2 mb2 : Nat} {S : Sets} {d : Dat} {es : List Ev} {M2 : DataW SmWalk.Hr} {f2 : Bool → Nat} {Mp2 : Bool → DataW PnWalk.Hr}
set_option maxRecDepth 100000 in
set_option maxHeartbeats 2000000 in
theorem clone_of (h : IdR w g S d es) (ba : Below w.heap.size w wa) (bab : Below wa.heap.size wa wb) (bbf : Below wb.heap.size wb wf) (bc : Below w.heap.size w wc) (bcd : Below wc.heap.size wc wd) (bdf : Below wd.heap.size wd wf) (dis : wb.heap.size ≤ wc.heap.size ∨ wd.heap.size ≤ wa.heap.size)
    (st : TbC wb (btw wa wb) (up S.Gs wa wb) (seqT (strs es)) (some mb2) M2 (fullH d.hd)) (ln : LnC wd (btw wc wd) (up S.Gp wc wd) d.D (some f2) Mp2 (fun k => fullO (d.hp k)))
    (hg1 : wb.heap.size ≤ g2) (hg2 : wd.heap.size ≤ g2) (bx : XBx wf g2 (mkX (fullX d.old)) (.map (some mb2)) (.int .i64 (es.length : Nat)) (PnWalk.mkL (fullO (d.hp none))) (.map (some (f2 false))) (.map (some (f2 true)))) :
    CloneOut w wf g S d es (.returned (.pointer (some ⟨g2, 0, none⟩))) := by
  have hb := (ba.trans (bab.mono ba.size)).trans (bbf.mono (Nat.le_trans ba.size bab.size))
  have z1 := ba.size
  have z2 := bab.size
  have z3 := bbf.size
  have z4 := bc.size
  have z5 := bcd.size
  have z6 := bdf.size
  have hw := h.below hb
  have lts := h.st.lt
  have ltp := h.ln.lt
  have ltr := h.ltr
  have ltw := h.ltw
  have gl := h.bx.lt
  have g2l := bx.lt
  have sp : ∀ k, up S.Gs wa wb k → ¬ up S.Gp wc wd k := fun k hk hk2 => by
    rcases hk with hk | hk <;> rcases hk2 with hk2 | hk2
    · exact h.sp k hk hk2
    · have := lts k hk; omega
    · have := ltp k hk2; omega
    · omega
  have sr : ∀ k, up S.Gs wa wb k → ¬ S.Gr k := fun k hk hk2 => by
    rcases hk with hk | hk
    · exact h.sr k hk hk2
    · have := ltr k hk2; omega
  have sw : ∀ k, up S.Gs wa wb k → ¬ S.W k := fun k hk hk2 => by
    rcases hk with hk | hk
    · exact h.sw k hk hk2
    · have := ltw k hk2; omega
  have pr : ∀ k, up S.Gp wc wd k → ¬ S.Gr k := fun k hk hk2 => by
    rcases hk with hk | hk
    · exact h.pr k hk hk2
    · have := ltr k hk2; omega
  have pw : ∀ k, up S.Gp wc wd k → ¬ S.W k := fun k hk hk2 => by
    rcases hk with hk | hk
    · exact h.pw k hk hk2
    · have := ltw k hk2; omega
  have gsl : ∀ k, up S.Gs wa wb k → k < wf.heap.size := fun k hk => by rcases hk with hk | hk; (have := lts k hk; omega); (have := hk.2; omega)
  have gpl : ∀ k, up S.Gp wc wd k → k < wf.heap.size := fun k hk => by rcases hk with hk | hk; (have := ltp k hk; omega); (have := hk.2; omega)
  refine ⟨g2, ⟨S.Fs, up S.Gs wa wb, S.Fp, up S.Gp wc wd, S.Fr, S.Gr, S.W⟩, ⟨btw wa wb, up S.Gs wa wb, btw wc wd, up S.Gp wc wd, fun _ => False, S.Gr, S.W⟩, ⟨some mb2, M2, fullH d.hd, d.D, some f2, Mp2, fun k => fullO (d.hp k), fullX d.old⟩, rfl, hb, by omega, ?_, ?_, ?_, fun k hk => ?_, fun k hk => ?_⟩
  · exact ⟨hw.bx, hw.st.wide (fun _ h => h) (fun _ h => .inl h) (fun k hk => .inl (h.st.fG k hk)) gsl, hw.ln.wide (fun _ h => h) (fun _ h => .inl h) (fun k hk => .inl (h.ln.fG k hk)) gpl, h.dof, hw.rl, h.frg, hw.ltr, hw.ltw, sp, sr, sw, pr, pw, h.rw_,
      fun hk => by rcases hk with hk | hk; exact h.ns hk; omega, fun hk => by rcases hk with hk | hk; exact h.np hk; omega, h.nr, h.nw⟩
  · exact ⟨bx, st.below bbf, ln.below bdf, h.dof, hw.rl.fullr, fun _ h => h.elim, hw.ltr, hw.ltw, sp, sr, sw, pr, pw, h.rw_,
      fun hk => by rcases hk with hk | hk; (have := lts _ hk; omega); omega, fun hk => by rcases hk with hk | hk; (have := ltp _ hk; omega); omega, fun hk => by have := ltr _ hk; omega, fun hk => by have := ltw _ hk; omega⟩
  · refine ⟨rfl, rfl, rfl, rfl, fun k hk hf => by have := lts k (h.st.fG k hk); have := hf.1; omega, fun k hk hf => by have := ltp k (h.ln.fG k hk); have := hf.1; omega, fun _ _ hf => hf, fun s hs t ht hsp e => ?_, fun s hs t ht hsp e => absurd hsp (Nat.lt_irrefl _), fun k k' x x' e1 e2 hsp e => ?_, fun k k' x x' e1 _ hsp _ => absurd hsp (full_room e1), fun x x' e1 e2 hsp e => ?_, fun x x' e1 e2 hsp e => ?_⟩
    · by_cases est : t = s
      · subst est
        exact Nat.le_refl _
      · exact absurd e (h.st.apart s hs t ht est hsp)
    · have e2 : fullO (d.hp k') = some x' := e2
      cases hk' : d.hp k' with
      | none => rw [hk'] at e2; cases e2
      | some y =>
        rw [hk'] at e2
        injection e2 with e2
        subst e2
        by_cases ek : k' = k
        · subst ek
          rw [hk'] at e1
          injection e1 with e1
          subst e1
          exact Nat.le_refl _
        · exact absurd e (h.ln.co.apart k k' x y ek e1 hk' hsp)
    · have e2 : fullX d.old = some x' := e2
      have e1 : d.old = some x := e1
      rw [e1] at e2
      injection e2 with e2
      subst e2
      exact Nat.le_refl _
    · have e1 : fullX d.old = some x := e1
      cases hk' : d.old with
      | none => rw [hk'] at e1; cases e1
      | some y =>
        rw [hk'] at e1
        injection e1 with e1
        subst e1
        exact absurd hsp (Nat.lt_irrefl _)
  · rcases hk with hk | hk | hk | hk | hk
    · exact .inl (.inl hk)
    · rcases hk with hk | hk
      · exact .inl (.inr (.inl hk))
      · exact .inr ⟨by omega, by have := hk.2; omega⟩
    · rcases hk with hk | hk
      · exact .inl (.inr (.inr (.inl hk)))
      · exact .inr ⟨by omega, by have := hk.2; omega⟩
    · exact .inl (.inr (.inr (.inr (.inl hk))))
    · exact .inl (.inr (.inr (.inr (.inr hk))))
  · rcases hk with hk | hk | hk | hk | hk
    · exact .inr ⟨by omega, by omega⟩
    · rcases hk with hk | hk
      · exact .inl (.inr (.inl hk))
      · exact .inr ⟨by omega, by have := hk.2; omega⟩
    · rcases hk with hk | hk
      · exact .inl (.inr (.inr (.inl hk)))
      · exact .inr ⟨by omega, by have := hk.2; omega⟩
    · exact .inl (.inr (.inr (.inr (.inl hk))))
    · exact .inl (.inr (.inr (.inr (.inr hk))))
end

section
variable {w : World} {g : Nat} {S : Sets} {d : Dat} {es : List Ev}
set_option maxHeartbeats 8000000 in
set_option maxRecDepth 100000 in
theorem clone14_any (h : IdR w g S d es) (lo : LogOk es) :
    Calls Try.prog 25 #[.pointer (some ⟨g, 0, none⟩)] w fun e w' => CloneOut w w' g S d es e := by
  obtain ⟨A2, n2, c2, e2, e3, hle, hA, h0⟩ := h.rl.full
  have qs := slice_fullX A2 n2 c2 hle hA h0
  have ok := tab_ok lo.1 (logOk_size lo)
  have CS := Go.Lib.hid (fun W (b : Below w.heap.size w W) => clone14s_any (h.below b).last (h.below b).st ok)
  have CP := Go.Lib.hid (fun W (b : Below w.heap.size w W) => clone14p_any (h.below b).bx (h.below b).ln (dof_les h.dof lo.1))
  have hlast : lastP (seqT (strs es)) = (es.length : Int) := by rw [seq_last, List.length_map]
  rw [hlast] at CS
  have hx := h.bx
  rw [e2] at hx
  have k0 := hx.c0
  have bd : Below w.heap.size w w.drew := ⟨rfl, rfl, rfl, Nat.le_refl _, fun _ _ => rfl⟩
  have FIN := Go.Lib.hid (fun (wa wb wc wd wf : World) (g2 mb2 : Nat) (M2 : DataW SmWalk.Hr) (f2 : Bool → Nat) (Mp2 : Bool → DataW PnWalk.Hr) (ba : Below w.heap.size w wa) (bab : Below wa.heap.size wa wb) (bbf : Below wb.heap.size wb wf) (bc : Below w.heap.size w wc) (bcd : Below wc.heap.size wc wd) (bdf : Below wd.heap.size wd wf) (dis : wb.heap.size ≤ wc.heap.size ∨ wd.heap.size ≤ wa.heap.size) st ln hg1 hg2 (bx : XBx wf g2 (.slice A2 n2 n2) (.map (some mb2)) (.int .i64 (es.length : Nat)) (PnWalk.mkL (fullO (d.hp none))) (.map (some (f2 false))) (.map (some (f2 true)))) => clone_of (g2 := g2) (mb2 := mb2) (M2 := M2) (f2 := f2) (Mp2 := Mp2) h ba bab bbf bc bcd bdf dis st ln hg1 hg2 (by rw [e3]; exact bx))
  have BD := Go.Lib.hid bd
  clear h lo ok hlast hx e2 e3 hle hA h0 bd
  generalize hvl : PnWalk.mkL (fullO (d.hp none)) = vl at *
  generalize es.length = ne at *
  go_enter Try.func25, Try.ntmps25
  go_upto_region 2 with (fail)
  refine wp_region_held_drew (S := (fun w' => w'.cell? ⟨g, 0, none⟩ = some (.slice A2 n2 c2))) (by kernel_rfl) ?_ (fun hHeld => ?_)
  · exact k0
  refine take_at (i := 0) (d := 9) (v := ?_) rfl rfl (by kernel_rfl) (by kernel_rfl) (by kernel_rfl) (fun _ _ _ h => h) (Or.inl ⟨by rfl, ?hy⟩) (by assumption) ?_
  case hy => (intro wS hSw; (try dsimp only at hSw); first | (go_simp; done) | (go_simp; with_reducible rfl))
  simp only [Act.put, List.setIfInBounds_toArray, List.set_cons_zero, List.set_cons_succ]
  refine take_at (i := 1) (d := 10) (v := ?_) rfl rfl (by kernel_rfl) (by kernel_rfl) (by kernel_rfl) (fun _ _ _ h => h) (Or.inl ⟨by rfl, ?hy⟩) (by assumption) ?_
  case hy => (intro wS hSw; (try dsimp only at hSw); first | (go_simp; done) | (go_simp; with_reducible rfl))
  simp only [Act.put, List.setIfInBounds_toArray, List.set_cons_zero, List.set_cons_succ]
  refine take_at (i := 2) (d := 11) (v := ?_) rfl rfl (by kernel_rfl) (by kernel_rfl) (by kernel_rfl) (fun _ _ _ h => h) (Or.inl ⟨by rfl, ?hy⟩) (by assumption) ?_
  case hy => (intro wS hSw; (try dsimp only at hSw); first | (go_simp; done) | (go_simp; with_reducible rfl))
  simp only [Act.put, List.setIfInBounds_toArray, List.set_cons_zero, List.set_cons_succ]
  refine take_at (i := 3) (d := 12) (v := ?_) rfl rfl (by kernel_rfl) (by kernel_rfl) (by kernel_rfl) (fun _ _ _ h => h) (Or.inl ⟨by rfl, ?hy⟩) (by assumption) ?_
  case hy => (intro wS hSw; (try dsimp only at hSw); first | (go_simp; done) | (go_simp; with_reducible rfl))
  simp only [Act.put, List.setIfInBounds_toArray, List.set_cons_zero, List.set_cons_succ]
  refine take_at (i := 4) (d := 13) (v := ?_) rfl rfl (by kernel_rfl) (by kernel_rfl) (by kernel_rfl) (fun _ _ _ h => h) (Or.inl ⟨by rfl, ?hy⟩) (by assumption) ?_
  case hy => (intro wS hSw; (try dsimp only at hSw); first | (go_simp; done) | (go_simp; with_reducible rfl))
  simp only [Act.put, List.setIfInBounds_toArray, List.set_cons_zero, List.set_cons_succ]
  refine take_at (i := 5) (d := 14) (v := ?_) rfl rfl (by kernel_rfl) (by kernel_rfl) (by kernel_rfl) (fun _ _ _ h => h) (Or.inl ⟨by rfl, ?hy⟩) (by assumption) ?_
  case hy => (intro wS hSw; (try dsimp only at hSw); first | (go_simp; done) | (go_simp; with_reducible rfl))
  simp only [Act.put, List.setIfInBounds_toArray, List.set_cons_zero, List.set_cons_succ]
  refine take_at (i := 6) (d := 15) (v := ?_) rfl rfl (by kernel_rfl) (by kernel_rfl) (by kernel_rfl) (fun _ _ _ h => h) (Or.inl ⟨by rfl, ?hy⟩) (by assumption) ?_
  case hy => (intro wS hSw; (try dsimp only at hSw); first | (go_simp; done) | (go_simp; with_reducible rfl))
  simp only [Act.put, List.setIfInBounds_toArray, List.set_cons_zero, List.set_cons_succ]
  refine take_at (i := 7) (d := 16) (v := ?_) rfl rfl (by kernel_rfl) (by kernel_rfl) (by kernel_rfl) (fun _ _ _ h => h) (Or.inl ⟨by rfl, ?hy⟩) (by assumption) ?_
  case hy => (intro wS hSw; (try dsimp only at hSw); first | (go_simp; done) | (go_simp; with_reducible rfl))
  simp only [Act.put, List.setIfInBounds_toArray, List.set_cons_zero, List.set_cons_succ]
  refine take_at (i := 8) (d := 17) (v := ?_) rfl rfl (by kernel_rfl) (by kernel_rfl) (by kernel_rfl) (fun _ _ _ h => h) (Or.inl ⟨by rfl, ?hy⟩) (by assumption) ?_
  case hy => (intro wS hSw; (try dsimp only at hSw); first | (go_simp; done) | (go_simp; with_reducible rfl))
  simp only [Act.put, List.setIfInBounds_toArray, List.set_cons_zero, List.set_cons_succ]
  refine take_at (i := 9) (d := 18) (v := ?_) rfl rfl (by kernel_rfl) (by kernel_rfl) (by kernel_rfl) (fun _ _ _ h => h) (Or.inl ⟨by rfl, ?hy⟩) (by assumption) ?_
  case hy => (intro wS hSw; (try dsimp only at hSw); first | (go_simp; done) | (go_simp; with_reducible rfl))
  simp only [Act.put, List.setIfInBounds_toArray, List.set_cons_zero, List.set_cons_succ]
  refine take_at (i := 13) (d := 22) (v := ?_) rfl rfl (by kernel_rfl) (by kernel_rfl) (by kernel_rfl) (fun _ _ _ h => h) (Or.inl ⟨by rfl, ?hy⟩) (by assumption) ?_
  case hy => (intro wS hSw; (try dsimp only at hSw); first | (go_simp; done) | (go_simp; with_reducible rfl))
  simp only [Act.put, List.setIfInBounds_toArray, List.set_cons_zero, List.set_cons_succ]
  refine take_at (i := 14) (d := 23) (v := ?_) rfl rfl (by kernel_rfl) (by kernel_rfl) (by kernel_rfl) (fun _ _ _ h => h) (Or.inl ⟨by rfl, ?hy⟩) (by assumption) ?_
  case hy => (intro wS hSw; (try dsimp only at hSw); first | (go_simp; done) | (go_simp; with_reducible rfl))
  simp only [Act.put, List.setIfInBounds_toArray, List.set_cons_zero, List.set_cons_succ]
  refine take_at (i := 15) (d := 24) (v := ?_) rfl rfl (by kernel_rfl) (by kernel_rfl) (by kernel_rfl) (fun _ _ _ h => h) (Or.inl ⟨by rfl, ?hy⟩) (by assumption) ?_
  case hy => (intro wS hSw; (try dsimp only at hSw); first | (go_simp; done) | (go_simp; with_reducible rfl))
  simp only [Act.put, List.setIfInBounds_toArray, List.set_cons_zero, List.set_cons_succ]
  -- THE WAYS
  refine wpAnyH_ready (rs := [10]) (by kernel_rfl) (by simp) ?_
  refine AllReadyH.cons rfl (fun Ks hKs => ?_) AllReadyH.nil
  go_simp
  go_wp2_with (first | (go_at_call 40; refine (CS.out _ BD.out).mono ?_; rintro e w5 ⟨gs, rfl, b5, mb2, M2, hgs, st5⟩))
  have BS := Go.Lib.hid (below_chain BD.out b5)
  have ys := bcell BS.out k0
  have s0 : w5.cell? ⟨gs, 0, none⟩ = some (.map (some mb2)) := by rw [cell_of_row w5 gs 0 _ _ _ hgs]; rfl
  have s1 : w5.cell? ⟨gs, 1, none⟩ = some (.int .i64 (ne : Nat)) := by rw [cell_of_row w5 gs 1 _ _ _ hgs]; rfl
  have ST5 := Go.Lib.hid (And.intro b5 st5)
  refine hKs.out _ _ ?_ (fun hH => ?_)
  · exact ys
  clear hKs Ks st5 hH
  refine wpAnyH_more (S' := (fun (w' : World) => (w'.cell? ⟨g, 0, none⟩ = some (.slice A2 n2 c2)) ∧ w'.cell? ⟨gs, 0, none⟩ = some (.map (some mb2)) ∧ w'.cell? ⟨gs, 1, none⟩ = some (.int .i64 (ne : Nat)))) (fun _ h => h.1) ?_
  have hStrs : (fun (w' : World) => (w'.cell? ⟨g, 0, none⟩ = some (.slice A2 n2 c2)) ∧ w'.cell? ⟨gs, 0, none⟩ = some (.map (some mb2)) ∧ w'.cell? ⟨gs, 1, none⟩ = some (.int .i64 (ne : Nat))) w5 := ⟨ys, s0, s1⟩
  refine take_at (i := 11) (d := 20) (v := ?_) rfl rfl (by kernel_rfl) (by kernel_rfl) (by kernel_rfl) (fun _ _ _ h => h) (Or.inl ⟨by rfl, ?hy⟩) (by assumption) ?_
  case hy => (intro wS hSw; (try dsimp only at hSw); first | (go_simp; done) | (go_simp; with_reducible rfl))
  simp only [Act.put, List.setIfInBounds_toArray, List.set_cons_zero, List.set_cons_succ]
  refine take_at (i := 12) (d := 21) (v := ?_) rfl rfl (by kernel_rfl) (by kernel_rfl) (by kernel_rfl) (fun _ _ _ h => h) (Or.inl ⟨by rfl, ?hy⟩) (by assumption) ?_
  case hy => (intro wS hSw; (try dsimp only at hSw); first | (go_simp; done) | (go_simp; with_reducible rfl))
  simp only [Act.put, List.setIfInBounds_toArray, List.set_cons_zero, List.set_cons_succ]
  refine wpAnyH_ready (rs := [16]) (by kernel_rfl) (by simp) ?_
  refine AllReadyH.cons rfl (fun Kp hKp => ?_) AllReadyH.nil
  go_simp
  go_wp2_with (first | (go_at_call 41; refine (CP.out _ BS.out).mono ?_; rintro e w6 ⟨gp, rfl, b6, f2, Mp2, hgp, ln6⟩))
  have BP := Go.Lib.hid (below_chain BS.out b6)
  have yp := bcell BP.out k0
  have p0 : w6.cell? ⟨gp, 0, none⟩ = some vl := by rw [cell_of_row w6 gp 0 _ _ _ hgp]; rfl
  have p1 : w6.cell? ⟨gp, 1, none⟩ = some (.map (some (f2 false))) := by rw [cell_of_row w6 gp 1 _ _ _ hgp]; rfl
  have p2 : w6.cell? ⟨gp, 2, none⟩ = some (.map (some (f2 true))) := by rw [cell_of_row w6 gp 2 _ _ _ hgp]; rfl
  have LN6 := Go.Lib.hid (And.intro b6 ln6)
  refine hKp.out _ _ ?_ (fun hH => ?_)
  · exact ⟨yp, bcell b6 s0, bcell b6 s1⟩
  clear hKp Kp ln6 hH
  refine wpAnyH_more (S' := (fun (w' : World) => (w'.cell? ⟨g, 0, none⟩ = some (.slice A2 n2 c2) ∧ w'.cell? ⟨gs, 0, none⟩ = some (.map (some mb2)) ∧ w'.cell? ⟨gs, 1, none⟩ = some (.int .i64 (ne : Nat))) ∧ w'.cell? ⟨gp, 0, none⟩ = some vl ∧ w'.cell? ⟨gp, 1, none⟩ = some (.map (some (f2 false))) ∧ w'.cell? ⟨gp, 2, none⟩ = some (.map (some (f2 true))))) (fun _ h => h.1) ?_
  have hStrp : (fun (w' : World) => (w'.cell? ⟨g, 0, none⟩ = some (.slice A2 n2 c2) ∧ w'.cell? ⟨gs, 0, none⟩ = some (.map (some mb2)) ∧ w'.cell? ⟨gs, 1, none⟩ = some (.int .i64 (ne : Nat))) ∧ w'.cell? ⟨gp, 0, none⟩ = some vl ∧ w'.cell? ⟨gp, 1, none⟩ = some (.map (some (f2 false))) ∧ w'.cell? ⟨gp, 2, none⟩ = some (.map (some (f2 true)))) w6 := ⟨⟨yp, bcell b6 s0, bcell b6 s1⟩, p0, p1, p2⟩
  refine take_at (i := 17) (d := 26) (v := ?_) rfl rfl (by kernel_rfl) (by kernel_rfl) (by kernel_rfl) (fun _ _ _ h => h) (Or.inl ⟨by rfl, ?hy⟩) (by assumption) ?_
  case hy => (intro wS hSw; (try dsimp only at hSw); first | (go_simp; done) | (go_simp; with_reducible rfl))
  simp only [Act.put, List.setIfInBounds_toArray, List.set_cons_zero, List.set_cons_succ]
  refine take_at (i := 18) (d := 27) (v := ?_) rfl rfl (by kernel_rfl) (by kernel_rfl) (by kernel_rfl) (fun _ _ _ h => h) (Or.inl ⟨by rfl, ?hy⟩) (by assumption) ?_
  case hy => (intro wS hSw; (try dsimp only at hSw); first | (go_simp; done) | (go_simp; with_reducible rfl))
  simp only [Act.put, List.setIfInBounds_toArray, List.set_cons_zero, List.set_cons_succ]
  refine take_at (i := 19) (d := 28) (v := ?_) rfl rfl (by kernel_rfl) (by kernel_rfl) (by kernel_rfl) (fun _ _ _ h => h) (Or.inl ⟨by rfl, ?hy⟩) (by assumption) ?_
  case hy => (intro wS hSw; (try dsimp only at hSw); first | (go_simp; done) | (go_simp; with_reducible rfl))
  simp only [Act.put, List.setIfInBounds_toArray, List.set_cons_zero, List.set_cons_succ]
  have al := (Below.refl w6.heap.size w6).alloc (Nat.le_refl _) (.cells #[.slice A2 n2 n2, .map (some mb2), .int .i64 (ne : Nat), vl, .map (some (f2 false)), .map (some (f2 true))] 74)
  have xn := XBx.new w6 (.slice A2 n2 n2) (.map (some mb2)) (.int .i64 (ne : Nat)) vl (.map (some (f2 false))) (.map (some (f2 true)))
  refine wpAnyH_ready (rs := [20]) (by kernel_rfl) (by simp) ?_
  refine AllReadyH.cons rfl (fun KB hKB => ?_) AllReadyH.nil
  go_simp
  refine hKB.out _ _ ?_ (fun hHB => ?_)
  · exact ⟨⟨bcell al yp, bcell al (bcell b6 s0), bcell al (bcell b6 s1)⟩, bcell al p0, bcell al p1, bcell al p2⟩
  clear hKB KB
  refine take_at (i := 21) (d := 2) (v := ?_) rfl rfl (by kernel_rfl) (by kernel_rfl) (by kernel_rfl) (fun _ _ _ h => h) (Or.inl ⟨by rfl, ?hy⟩) (by assumption) ?_
  case hy => (intro wS hSw; (try dsimp only at hSw); first | (go_simp; done) | (go_simp; with_reducible rfl))
  simp only [Act.put, List.setIfInBounds_toArray, List.set_cons_zero, List.set_cons_succ]
  refine wpAnyH_done (by kernel_rfl) ?_ _
  go_wp2_with fail
  go_ret
  exact FIN.out w.drew w5 w5 w6 _ _ _ M2 f2 Mp2 BD.out b5 (below_chain b6 al) BS.out b6 al (.inl (Nat.le_refl _)) ST5.out.2 LN6.out.2 b6.size (Nat.le_refl _) xn
end

end Go.Proofs.Ytiplfhmimpkplaa.IxWalk

/-
  The landed index is as it is asked to be.
-/
namespace Go.Proofs.Ytiplfhmimpkplaa.IxWalk
open Go.RowKit Go.Maps Go.Proofs.Ytiplfhmimpkplaa.MemRow Go.Proofs.Ytiplfhmimpkplaa.Ev Go.Proofs.Ytiplfhmimpkplaa.NameMath Go.Proofs.Ytiplfhmimpkplaa.NameWalk Go.Proofs.Ytiplfhmimpkplaa.EvWalk Go.Proofs.Ytiplfhmimpkplaa.NumMem Go.Proofs.Ytiplfhmimpkplaa.Qu Go.Proofs.Ytiplfhmimpkplaa.QuWalk Go.Proofs.Ytiplfhmimpkplaa.BtWalk Go.Proofs.Ytiplfhmimpkplaa.DkWalk Go.Proofs.Ytiplfhmimpkplaa.InWalk

def IxT (g : Nat) (es : List Ev) : Thing := fun w G => ∃ S d, IdR w g S d es ∧ (∀ k, S.all g k → G k) ∧ ∀ k, G k → k < w.heap.size
/-- Two that may share lists. -/
def ItT (g : Nat) (es : List Ev) (g' : Nat) (es' : List Ev) : Thing := fun w G => ∃ S d S' d', IdR w g S d es ∧ IdR w g' S' d' es' ∧ g' ≠ g ∧ Rel S d es S' d' es' ∧ (∀ k, S.all g k → G k) ∧ (∀ k, S'.all g' k → G k) ∧ ∀ k, G k → k < w.heap.size
theorem ixT_keeps (g : Nat) (es : List Ev) : Keeps (IxT g es) := ⟨fun ⟨S, d, h, i, l⟩ hs hk => ⟨S, d, h.keep hs fun k hk2 => hk k (i k hk2), i, fun k hg => Nat.lt_of_lt_of_le (l k hg) hs⟩, fun ⟨_, _, _, _, l⟩ => l⟩
theorem itT_keeps (g : Nat) (es : List Ev) (g' : Nat) (es' : List Ev) : Keeps (ItT g es g' es') := ⟨fun ⟨S, d, S', d', h, h', hne, r, i, i', l⟩ hs hk => ⟨S, d, S', d', h.keep hs fun k hk2 => hk k (i k hk2), h'.keep hs fun k hk2 => hk k (i' k hk2), hne, r, i, i', fun k hg => Nat.lt_of_lt_of_le (l k hg) hs⟩, fun ⟨_, _, _, _, _, _, _, _, _, _, l⟩ => l⟩
theorem itT_swap (g : Nat) (es : List Ev) (g' : Nat) (es' : List Ev) : Imp (ItT g es g' es') (ItT g' es' g es) := fun _ _ ⟨S, d, S', d', h, h', hne, r, i, i', l⟩ => ⟨S', d', S, d, h', h, hne.symm, r.swap, i', i, l⟩
theorem itT_fst (g : Nat) (es : List Ev) (g' : Nat) (es' : List Ev) : Imp (ItT g es g' es') (IxT g es) := fun _ _ ⟨S, d, _, _, h, _, _, _, i, _, l⟩ => ⟨S, d, h, i, l⟩
theorem dn_below (w : World) (q : Nat) : Below w.heap.size w (w.drewN q) := ⟨rfl, rfl, rfl, Nat.le_refl _, fun _ _ => rfl⟩
section
variable {base : Nat} {w : World} {g : Nat} {es : List Ev} {P Q : Thing}
set_option maxRecDepth 100000 in
/-- The index that a thing holds. -/
theorem of_ix (pr : Pair base w P Q) (i : Imp P (IxT g es)) : ∃ S d, IdR w g S d es := by
  obtain ⟨F, _, hp, _⟩ := pr
  obtain ⟨S, d, h, _⟩ := i w F hp
  exact ⟨S, d, h⟩
set_option maxRecDepth 100000 in
/-- What a call that tells gives. -/
theorem told14 {w' : World} {rs : List Rc} {e : Ending} (pr : Pair base w P Q) (kp : Keeps P) (kq : Keeps Q) (hb : base ≤ w.heap.size) (h : CopOut w w' rs e) : ∃ B m c, e = .returned (.slice B m c) ∧ Pair base w' P (With Q (RoT B m c rs)) ∧ Below w.heap.size w w' := by
  obtain ⟨B, m, c, rfl, th, b⟩ := h.thing
  exact ⟨B, m, c, rfl, pair_more pr kp kq hb b th, b⟩
set_option maxRecDepth 100000 in
/-- Add, beside another thing. -/
theorem add_in {v : Value} {x : Bat} {F G : Nat → Prop} {S : Sets} {d : Dat} (h : IdR w g S d es) (hF : ∀ k, S.all g k → F k) (hq : Q w G) (kq : Keeps Q) (h1 : ∀ k, F k → base ≤ k) (h3 : ∀ k, F k → ¬ G k) (hb : base ≤ w.heap.size) (lo : LogOk es) (hl : es.length + x.es.length ≤ 400)
    (hv : ∀ (w' : World) (G : Nat → Prop), Q w' G → Below base w w' → IsB w' v x) (hok : BOk x) :
    Calls Try.prog 12 #[.pointer (some ⟨g, 0, none⟩), v] w fun r w' => AddOut w w' g S d es x r :=
  addX_any h lo hl (fun w' c => hv w' G (kq.keep hq c.size fun k hk => c.block k (kq.lt hq k hk) fun hf => h3 k (hF k (h.wra k hf)) hk) (ch_below (Below.refl _ _) c (fun k hk => h1 k (hF k (h.wra k hk))) hb)) hok
end
set_option maxRecDepth 100000 in
set_option maxRecDepth 100000 in
theorem iApi : IApi IxT where
  keeps := ixT_keeps
  new := fun {base w G Q} hq kq hG hb => by
    refine (new14_any w).mono ?_
    rintro e w' ⟨rfl, h, b⟩
    exact ⟨_, rfl, Pair.fresh hq kq hG hb ⟨_, _, h, fun k hk => by
      rcases hk with rfl | hk | hk | hk | hk
      · exact ⟨Nat.le_refl _, h.bx.lt⟩
      · exact hk.elim
      · exact hk.elim
      · exact hk.elim
      · exact hk.elim, fun k hk => hk.2⟩ b, b⟩
  add := fun {base w g es Q v x} pr kq hb lo hl hv hok => by
    obtain ⟨F, G, ⟨S, d, h, hF, hlt⟩, hq, h1, h2, h3⟩ := pr
    refine (add_in h hF hq kq h1 h3 hb lo hl hv hok).mono ?_
    rintro r w' ⟨B, m, c, wm, S1, d1, rfl, st, bm, th⟩
    have hc : Ch F w wm := st.ch.wide fun k hk => hF k (h.wra k hk)
    have pm : Pair base wm (IxT g (addB es x).2.2) Q := Pair.left hq kq h1 h2 h3 hb ⟨S1, d1, st.id, fun k hk => by
      rcases st.gr k hk with hk | hk
      · exact .inl (hF k hk)
      · exact .inr hk, fun k hk => up_lt hlt hc.size hk⟩ hc
    exact ⟨B, m, c, rfl, pair_more pm (ixT_keeps _ _) kq (Nat.le_trans hb hc.size) bm th, (ch_below (Below.refl _ _) hc h1 hb).trans (bm.mono (Nat.le_trans hb hc.size))⟩
  last := fun {base w g es Q} pr kq lo => by
    obtain ⟨S, d, h⟩ := of_ix pr fun _ _ h => h
    refine (last14_any h.bx h.rl).mono ?_
    rintro e w' ⟨rfl, rfl⟩
    exact ⟨rfl, pr, Below.refl _ _⟩
  all := fun {base w g es Q u} pr kq hb lo hu => by
    obtain ⟨S, d, h⟩ := of_ix pr fun _ _ h => h
    exact (all14_any h.bx h.rl (Nat.le_trans lo.1 (by decide)) (logOk_fit lo) u).mono fun e w' hc => told14 pr (ixT_keeps _ _) kq hb hc
  str := fun {base w g es Q s u} pr kq hb lo hs hu => by
    obtain ⟨S, d, h⟩ := of_ix pr fun _ _ h => h
    exact (str14_any h lo hs u).mono fun e w' hc => told14 pr (ixT_keeps _ _) kq hb hc
  qry := fun {base w g es Q v q u} pr kq hb lo hq hf hu => by
    obtain ⟨S, d, h⟩ := of_ix pr fun _ _ h => h
    exact (qry14_any h lo hq hf u).mono fun e w' hc => told14 pr (ixT_keeps _ _) kq hb hc
  ver := fun {base w g es Q s u} pr kq lo hs hu => by
    obtain ⟨S, d, h⟩ := of_ix pr fun _ _ h => h
    refine (ver14_any h lo hs u).mono ?_
    rintro e w' ⟨rfl, q, rfl⟩
    exact ⟨rfl, pr.below (ixT_keeps _ _) kq (dn_below w q), dn_below w q⟩
  since := fun {base w g es Q v q a} pr kq lo hq hf ha => by
    obtain ⟨S, d, h⟩ := of_ix pr fun _ _ h => h
    refine (since14_any h.bx h.rl hq a).mono ?_
    rintro e w' ⟨rfl, b⟩
    exact ⟨rfl, pr.below (ixT_keeps _ _) kq b, b⟩
set_option maxRecDepth 100000 in
set_option maxRecDepth 100000 in
theorem iTwo : ITwo IxT ItT where
  toIApi := iApi
  tkeeps := itT_keeps
  swap := itT_swap
  fst := itT_fst
  clone := fun {base w g es Q} pr kq hb lo => by
    obtain ⟨F, G, ⟨S, d, h, hF, hlt⟩, hq, h1, h2, h3⟩ := pr
    refine (clone14_any h lo).mono ?_
    rintro e w' ⟨g2, S1, S2, d2, rfl, b, hg2, i1, i2, r, u1, u2⟩
    have lift : ∀ k, up (S.all g) w w' k → up F w w' k := fun k hk => by
      rcases hk with hk | hk
      · exact .inl (hF k hk)
      · exact .inr hk
    exact ⟨g2, rfl, Pair.left hq kq h1 h2 h3 hb ⟨S1, d, S2, d2, i1, i2, by have := h.bx.lt; omega, r, fun k hk => lift k (u1 k hk), fun k hk => lift k (u2 k hk), fun k hk => up_lt hlt b.size hk⟩ (Ch.of_below b), b⟩
  tadd := fun {base w g g' es es' Q v x} pr kq hb lo hl hv hok => by
    obtain ⟨F, G, ⟨S, d, S', d', h, h', hne, r, hF, hF', hlt⟩, hq, h1, h2, h3⟩ := pr
    refine (add_in h hF hq kq h1 h3 hb lo hl hv hok).mono ?_
    rintro rr w' ⟨B, m, c, wm, S1, d1, rfl, st, bm, th⟩
    have hc : Ch F w wm := st.ch.wide fun k hk => hF k (h.wra k hk)
    obtain ⟨k1, k2⟩ := st.kin g' S' d' es' h' hne r
    have lift : ∀ k, up (S.all g) w wm k → up F w wm k := fun k hk => by
      rcases hk with hk | hk
      · exact .inl (hF k hk)
      · exact .inr hk
    have pm : Pair base wm (ItT g (addB es x).2.2 g' es') Q := Pair.left hq kq h1 h2 h3 hb ⟨S1, d1, _, d', st.id, k1, hne, k2, fun k hk => lift k (st.gr k hk), fun k hk => by
      rcases hk with rfl | hk | hk | hk | hk
      · exact .inl (hF' _ (.inl rfl))
      · exact lift k (st.gr k (.inr (.inl hk)))
      · exact lift k (st.gr k (.inr (.inr (.inl hk))))
      · exact lift k (st.gr k (.inr (.inr (.inr (.inl hk)))))
      · exact lift k (st.gr k (.inr (.inr (.inr (.inr hk))))), fun k hk => up_lt hlt hc.size hk⟩ hc
    exact ⟨B, m, c, rfl, pair_more pm (itT_keeps _ _ _ _) kq (Nat.le_trans hb hc.size) bm th, (ch_below (Below.refl _ _) hc h1 hb).trans (bm.mono (Nat.le_trans hb hc.size))⟩
  tlast := fun {base w g g' es es' Q} pr kq lo => by
    obtain ⟨S, d, h⟩ := of_ix pr (itT_fst _ _ _ _)
    refine (last14_any h.bx h.rl).mono ?_
    rintro e w' ⟨rfl, rfl⟩
    exact ⟨rfl, pr, Below.refl _ _⟩
  tall := fun {base w g g' es es' Q u} pr kq hb lo hu => by
    obtain ⟨S, d, h⟩ := of_ix pr (itT_fst _ _ _ _)
    exact (all14_any h.bx h.rl (Nat.le_trans lo.1 (by decide)) (logOk_fit lo) u).mono fun e w' hc => told14 pr (itT_keeps _ _ _ _) kq hb hc

end Go.Proofs.Ytiplfhmimpkplaa.IxWalk

