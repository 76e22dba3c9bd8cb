/-
  Contracts of layer 4: May, and what it asks.
-/
import Derived.Test.YtjglpmakjampjaaEvCat
import Derived.Test.YtjglpmakjampjaaNmTag
namespace Go.Proofs.Ytjglpmakjampjaa.EvWalk
open Go.RowKit Go.Proofs.Ytjglpmakjampjaa.MemRow Go.Proofs.Ytjglpmakjampjaa.Ev Go.Proofs.Ytjglpmakjampjaa.NameMath Go.Proofs.Ytjglpmakjampjaa.NameWalk

theorem any_not {α : Type} (l : List α) (p : α → Bool) : (!(l.any fun x => !p x)) = l.all p := by
  induction l with
  | nil => rfl
  | cons a l ih => simp only [List.any_cons, List.all_cons, ← ih, Bool.not_or, Bool.not_not]

theorem name_told {s : ByteArray} (hs : s.size ≤ maxLen) (w : World) :
    Calls Try.prog 33 #[.string s] w fun e w' => e = .returned (.bool (nameB s)) ∧ Below w.heap.size w w' := by
  unfold maxLen at hs
  exact may_any s w (by omega)

/-! ### Tags -/
set_option maxHeartbeats 2000000 in
set_option maxRecDepth 100000 in
theorem notTag_any (s : ByteArray) (w : World) (hs : s.size ≤ maxLen) :
    Calls Try.prog 57 #[.string s] w fun e w' => e = .returned (.bool (!tagB s)) ∧ Below w.heap.size w w' := by
  unfold maxLen at hs
  have c0 : Calls Try.prog 58 #[.string s] w fun e w' => e = .returned (.bool (tagB s)) ∧ Below w.heap.size w w' := mayTag_any s w (by omega)
  have c := Go.Lib.hid c0
  clear c0
  generalize tagB s = b at *
  go_enter Try.func57, Try.ntmps57
  go_wp2_with (refine (c.out).mono ?_; rintro e w' ⟨rfl, b1⟩)
  go_ret
  exact ⟨rfl, b1⟩

set_option maxHeartbeats 2000000 in
set_option maxRecDepth 100000 in
theorem areTags_any (A : Option Addr) (n ca : Nat) (ss : List ByteArray) (w : World) (ha : RdS w A n ca ss) (hz : ∀ x ∈ ss, x.size ≤ maxLen) :
    Calls Try.prog 34 #[.slice A n ca] w fun e w' => e = .returned (.bool (ss.all tagB)) ∧ Below w.heap.size w w' := by
  have c := Go.Lib.hid (hasFuncS_any A n ca ss 57 (fun s => !tagB s) w ha (enters_of Try.func57 (by kernel_rfl) rfl) (fun W _ x hx => notTag_any x W (hz x hx)))
  have h := any_not ss tagB
  rw [← h]
  clear ha hz h
  generalize ss.any (fun s => !tagB s) = R at c ⊢
  go_enter Try.func34, Try.ntmps34
  go_wp2_with (refine (c.out).mono ?_; rintro e w' ⟨rfl, b1⟩)
  go_ret
  exact ⟨rfl, b1⟩

/-! ### Names and numbers of fields -/
set_option maxHeartbeats 2000000 in
set_option maxRecDepth 100000 in
theorem notNamed_any (f : ByteArray × Int) (w : World) (hs : f.1.size ≤ maxLen) :
    Calls Try.prog 60 #[.agg #[.string f.1, .int .i64 f.2]] w fun e w' => e = .returned (.bool (!nameB f.1)) ∧ Below w.heap.size w w' := by
  obtain ⟨s, z⟩ := f
  simp only at hs ⊢
  have b0 : Below w.heap.size w (w.alloc (.cells #[.string s, .int .i64 z] 52)) := (Below.refl _ _).alloc (Nat.le_refl _) _
  have c := Go.Lib.hid (name_told hs (w.alloc (.cells #[.string s, .int .i64 z] 52)))
  generalize nameB s = b at *
  go_enter Try.func60, Try.ntmps60
  go_wp2_with (refine (c.out).mono ?_; rintro e w' ⟨rfl, b1⟩)
  go_ret
  exact ⟨rfl, below_chain b0 b1⟩

set_option maxHeartbeats 2000000 in
set_option maxRecDepth 100000 in
theorem areNamed_any (A : Option Addr) (n ca : Nat) (fs : List (ByteArray × Int)) (w : World) (ha : RdF w A n ca fs) (hz : ∀ x ∈ fs, x.1.size ≤ maxLen) :
    Calls Try.prog 35 #[.slice A n ca] w fun e w' => e = .returned (.bool (fs.all fun f => nameB f.1)) ∧ Below w.heap.size w w' := by
  have c := Go.Lib.hid (hasFuncF_any A n ca fs 60 (fun f => !nameB f.1) w ha (enters_of Try.func60 (by kernel_rfl) rfl) (fun W _ x hx => notNamed_any x W (hz x hx)))
  have h := any_not fs (fun f => nameB f.1)
  rw [← h]
  clear ha hz h
  generalize fs.any (fun f => !nameB f.1) = R at c ⊢
  go_enter Try.func35, Try.ntmps35
  go_wp2_with (refine (c.out).mono ?_; rintro e w' ⟨rfl, b1⟩)
  go_ret
  exact ⟨rfl, b1⟩

set_option maxHeartbeats 2000000 in
set_option maxRecDepth 100000 in
theorem notFit_any (f : ByteArray × Int) (w : World) :
    Calls Try.prog 64 #[.agg #[.string f.1, .int .i64 f.2]] w fun e w' => e = .returned (.bool (!fitB f)) ∧ Below w.heap.size w w' := by
  obtain ⟨s, z⟩ := f
  have b0 : Below w.heap.size w (w.alloc (.cells #[.string s, .int .i64 z] 52)) := (Below.refl _ _).alloc (Nat.le_refl _) _
  generalize hR : (!fitB (s, z)) = R
  unfold fitB at hR
  simp only at hR ⊢
  by_cases h1 : z < -1099511627776
  · have hR : R = true := by rw [← hR, decide_eq_false (by omega)]; rfl
    subst hR
    go_enter Try.func64, Try.ntmps64
    go_wp2_with fail
    go_ret
    exact ⟨rfl, b0⟩
  · by_cases h2 : 1099511627776 < z
    · have hR : R = true := by rw [← hR, decide_eq_false (by omega)]; rfl
      subst hR
      go_enter Try.func64, Try.ntmps64
      go_wp2_with fail
      go_ret
      exact ⟨rfl, b0⟩
    · have hR : R = false := by rw [← hR, decide_eq_true (by omega)]; rfl
      subst hR
      go_enter Try.func64, Try.ntmps64
      go_wp2_with fail
      go_ret
      exact ⟨rfl, b0⟩

set_option maxHeartbeats 2000000 in
set_option maxRecDepth 100000 in
theorem areFit_any (A : Option Addr) (n ca : Nat) (fs : List (ByteArray × Int)) (w : World) (ha : RdF w A n ca fs) :
    Calls Try.prog 38 #[.slice A n ca] w fun e w' => e = .returned (.bool (fs.all fitB)) ∧ Below w.heap.size w w' := by
  have c := Go.Lib.hid (hasFuncF_any A n ca fs 64 (fun f => !fitB f) w ha (enters_of Try.func64 (by kernel_rfl) rfl) (fun W _ x _ => notFit_any x W))
  have h := any_not fs fitB
  rw [← h]
  clear ha h
  generalize fs.any (fun f => !fitB f) = R at c ⊢
  go_enter Try.func38, Try.ntmps38
  go_wp2_with (refine (c.out).mono ?_; rintro e w' ⟨rfl, b1⟩)
  go_ret
  exact ⟨rfl, b1⟩

/-! ### Order -/
set_option maxHeartbeats 4000000 in
set_option maxRecDepth 100000 in
theorem rise_any (n : Nat) (ss : List ByteArray) (g : Nat) (p : Value) (w : World) (la : ss.length = n) (hn : n ≤ maxLen) (eg : ∀ args w, (callFunc g args).run Try.prog w = .ok (.enter g args) w)
    (hk : ∀ W, Below w.heap.size w W → ∀ i : Nat, i < n → Calls Try.prog g #[.int .i64 (i : Int), p] W fun e W' => e = .returned (.string (ss.getD i ByteArray.empty)) ∧ Below W.heap.size W W') :
    Calls Try.prog 61 #[.int .i64 (n : Int), .func (.func g) #[] #[p]] w fun e w' => e = .returned (.bool (riseB ss)) ∧ Below w.heap.size w w' := by
  unfold maxLen at hn
  generalize hR : riseB ss = R
  have HR := Go.Lib.hid hR
  have LA := Go.Lib.hid la
  have HK := Go.Lib.hid hk
  clear hR la hk
  go_enter Try.func61, Try.ntmps61
  go_wp2_with fail
  go_loopw [5] (fun i wr => ∃ j : Nat, j + 1 ≤ max n 1 ∧ i = .int .i64 ((j + 1 : Nat) : Int) ∧ riseB (ss.take (j + 1)) = true ∧ Below w.heap.size w wr) (fun i _ => n - (intOf i).toNat)
  case atStart =>
    refine ⟨0, by omega, rfl, ?_, Below.refl _ _⟩
    cases ss with
    | nil => rfl
    | cons a l => simp [riseB]
  case round =>
    obtain ⟨j, hj, rfl, hq, hb⟩ := hrel
    have HQ := Go.Lib.hid hq
    clear hq
    have e1 : ((j + 1 : Nat) : Int) = (j : Int) + 1 := by omega
    by_cases hlt : j + 1 < n
    · have i1 : (j : Int) + 1 < n := by omega
      have c1 := HK.out wr hb j (by omega)
      have c2 : ∀ W, Below w.heap.size w W → Calls Try.prog g #[.int .i64 ((j : Int) + 1), p] W fun e W' => e = .returned (.string (ss.getD (j + 1) ByteArray.empty)) ∧ Below W.heap.size W W' := fun W h => by
        have := HK.out W h (j + 1) hlt
        rwa [e1] at this
      have ta := take_two ss j (by rw [LA.out]; exact hlt)
      have tb := take_get ss j (by rw [LA.out]; omega)
      have TA := Go.Lib.hid ta
      have TB := Go.Lib.hid tb
      clear ta tb
      generalize hx : ss.getD j ByteArray.empty = x at *
      generalize hy : ss.getD (j + 1) ByteArray.empty = y at *
      have C1 := Go.Lib.hid c1
      have C2 := Go.Lib.hid c2
      clear hx hy c1 c2
      have ts := rise_snoc (ss.take j) x y
      have TS := Go.Lib.hid ts
      clear ts
      by_cases hl : less x y = true
      · have hbl : Op.bytesLess x.toList y.toList = true := hl
        go_wp2_with (first | (refine (C1.out).mono ?_; rintro e w1 ⟨rfl, b1⟩) | (refine (C2.out _ (below_chain hb b1)).mono ?_; rintro e w2 ⟨rfl, b2⟩))
        go_roundw
        case rel => exact ⟨j + 1, by omega, by go_num, by rw [TA.out, TS.out, ← TB.out, HQ.out, hl]; rfl, below_chain (below_chain hb b1) b2⟩
        case measure => simp [intOf]; omega
      · have hbl : Op.bytesLess x.toList y.toList = false := by simpa [less] using hl
        have hR : R = false := by
          rw [← HR.out]
          cases h : riseB ss with
          | false => rfl
          | true =>
            exfalso
            rw [← List.take_append_drop (j + 2) ss] at h
            have h2 := rise_prefix _ _ h
            rw [TA.out, TS.out, Bool.and_eq_true] at h2
            exact hl h2.2
        subst hR
        go_wp2_with (first | (refine (C1.out).mono ?_; rintro e w1 ⟨rfl, b1⟩) | (refine (C2.out _ (below_chain hb b1)).mono ?_; rintro e w2 ⟨rfl, b2⟩))
        go_ret
        exact ⟨rfl, below_chain (below_chain hb b1) b2⟩
    · have hR : R = true := by
        rw [← HR.out]
        have h1 := HQ.out
        rwa [List.take_of_length_le (by rw [LA.out]; omega)] at h1
      subst hR
      have i1 : ¬ (j : Int) + 1 < n := by omega
      go_wp2_with fail
      go_ret
      exact ⟨rfl, hb⟩

set_option maxHeartbeats 2000000 in
set_option maxRecDepth 100000 in
theorem tagKey_any (B : Nat) (A : Option Addr) (n ca : Nat) (ss : List ByteArray) (i : Nat) (w : World) (hc : w.cell? ⟨B, 0, none⟩ = some (.slice A n ca)) (ha : RdS w A n ca ss) (hi : i < n) :
    Calls Try.prog 62 #[.int .i64 (i : Int), .pointer (some ⟨B, 0, none⟩)] w fun e w' => e = .returned (.string (ss.getD i ByteArray.empty)) ∧ Below w.heap.size w w' := by
  obtain ⟨ba, oa, rfl, _, ka⟩ := RdS.at_ ha (by omega)
  have ka1 := ka i hi
  have i1 : (i : Int) < n := by omega
  clear ka ha
  generalize ss.getD i ByteArray.empty = x at *
  go_enter Try.func62, Try.ntmps62
  go_wp2_with fail
  go_ret
  exact ⟨rfl, Below.refl _ _⟩

set_option maxHeartbeats 2000000 in
set_option maxRecDepth 100000 in
theorem fieldKey_any (B : Nat) (A : Option Addr) (n ca : Nat) (fs : List (ByteArray × Int)) (i : Nat) (w : World) (hc : w.cell? ⟨B, 0, none⟩ = some (.slice A n ca)) (ha : RdF w A n ca fs) (hi : i < n) :
    Calls Try.prog 63 #[.int .i64 (i : Int), .pointer (some ⟨B, 0, none⟩)] w fun e w' => e = .returned (.string (fs.getD i (ByteArray.empty, 0)).1) ∧ Below w.heap.size w w' := by
  obtain ⟨ba, oa, rfl, _, ka⟩ := RdF.at_ ha (by omega)
  obtain ⟨ka1, ka2⟩ := ka i hi
  have i1 : (i : Int) < n := by omega
  clear ka ha
  generalize fs.getD i (ByteArray.empty, 0) = x at *
  obtain ⟨x, z⟩ := x
  simp only at ka1 ka2 ⊢
  go_enter Try.func63, Try.ntmps63
  go_wp2_with fail
  go_ret
  exact ⟨rfl, Below.refl _ _⟩

theorem box_cell (w : World) (v : Value) (t : TypeId) : (w.alloc (.cells #[v] t)).cell? ⟨w.heap.size, 0, none⟩ = some v := by
  rw [cell_of_row _ w.heap.size 0 _ _ _ (heap_alloc_new w _)]
  rfl

set_option maxHeartbeats 2000000 in
set_option maxRecDepth 100000 in
theorem tagsRise_any (A : Option Addr) (n ca : Nat) (ss : List ByteArray) (w : World) (ha : RdS w A n ca ss) :
    Calls Try.prog 36 #[.slice A n ca] w fun e w' => e = .returned (.bool (riseB ss)) ∧ Below w.heap.size w w' := by
  have b0 : Below w.heap.size w (w.alloc (.cells #[.slice A n ca] 23)) := (Below.refl _ _).alloc (Nat.le_refl _) _
  have k0 := box_cell w (.slice A n ca) 23
  have a0 := RdC.below ha b0
  have c := Go.Lib.hid (rise_any n ss 62 (.pointer (some ⟨w.heap.size, 0, none⟩)) (w.alloc (.cells #[.slice A n ca] 23)) ha.len (RdC.le ha) (enters_of Try.func62 (by kernel_rfl) rfl)
    (fun W hW i hi => tagKey_any w.heap.size A n ca ss i W (bcell hW k0) (RdC.below a0 hW) hi))
  clear ha a0
  generalize riseB ss = R at c ⊢
  go_enter Try.func36, Try.ntmps36
  go_wp2_with (refine (c.out).mono ?_; rintro e w' ⟨rfl, b1⟩)
  go_ret
  exact ⟨rfl, below_chain b0 b1⟩

set_option maxHeartbeats 2000000 in
set_option maxRecDepth 100000 in
theorem fieldsRise_any (A : Option Addr) (n ca : Nat) (fs : List (ByteArray × Int)) (w : World) (ha : RdF w A n ca fs) :
    Calls Try.prog 37 #[.slice A n ca] w fun e w' => e = .returned (.bool (riseB (fs.map (·.1)))) ∧ Below w.heap.size w w' := by
  have b0 : Below w.heap.size w (w.alloc (.cells #[.slice A n ca] 24)) := (Below.refl _ _).alloc (Nat.le_refl _) _
  have k0 := box_cell w (.slice A n ca) 24
  have a0 := RdC.below ha b0
  have hl := ha.len
  have c := Go.Lib.hid (rise_any n (fs.map (·.1)) 63 (.pointer (some ⟨w.heap.size, 0, none⟩)) (w.alloc (.cells #[.slice A n ca] 24)) (by rw [List.length_map, hl]) (RdC.le ha) (enters_of Try.func63 (by kernel_rfl) rfl)
    (fun W hW i hi => by
      have h := fieldKey_any w.heap.size A n ca fs i W (bcell hW k0) (RdC.below a0 hW) hi
      have e : (fs.map (·.1)).getD i ByteArray.empty = (fs.getD i (ByteArray.empty, 0)).1 := by
        have hi' : i < fs.length := by omega
        simp [List.getD, List.getElem?_eq_getElem hi']
      rw [e]
      exact h))
  clear ha a0 hl
  generalize riseB (fs.map (·.1)) = R at c ⊢
  go_enter Try.func37, Try.ntmps37
  go_wp2_with (refine (c.out).mono ?_; rintro e w' ⟨rfl, b1⟩)
  go_ret
  exact ⟨rfl, below_chain b0 b1⟩

set_option maxHeartbeats 8000000 in
set_option maxRecDepth 100000 in
theorem evMay_any (v : Value) (ev : Ev) (w : World) (hv : IsEv w v ev) (hok : EvOk ev) :
    Calls Try.prog 22 #[v] w fun e w' => e = .returned (.int .i64 (mayE ev)) ∧ Below w.heap.size w w' := by
  obtain ⟨A, n, ca, B, m, cb, rfl, ha, hb⟩ := hv
  obtain ⟨s, t, ts, fs⟩ := ev
  obtain ⟨ks, kt, ktags, knames, knums⟩ := hok
  simp only at ha hb ks kt ktags knames knums
  have hn := RdC.le ha
  have hm := RdC.le hb
  unfold maxLen at hn hm
  have la := ha.len
  have lb := hb.len
  generalize hR : mayE ⟨s, t, ts, fs⟩ = R
  unfold mayE at hR
  simp only at hR
  rw [la, lb] at hR
  have HR := Go.Lib.hid hR
  clear hR la lb
  have KT := Go.Lib.hid ktags
  have KN := Go.Lib.hid knames
  clear ktags knames knums
  have B1 : Below w.heap.size w (w.alloc (.cells #[.string s, .string t, .slice A n ca, .slice B m cb] 26)) := (Below.refl _ _).alloc (Nat.le_refl _) _
  have E1 := EvAt.new w (.string s) (.string t) (.slice A n ca) (.slice B m cb)
  have a1 := RdC.below ha B1
  have r1 := RdC.below hb B1
  have p0 := E1.c0
  go_enter Try.func22, Try.ntmps22
  go_wp2_with fail
  generalize w.alloc (.cells #[.string s, .string t, .slice A n ca, .slice B m cb] 26) = w1 at *
  clear ha hb
  refine (name_told (s := s) ks _).mono ?_
  rintro e w2 ⟨rfl, b2⟩
  have E2 := E1.below b2 E1.lt
  have a2 := RdC.below a1 b2
  have r2 := RdC.below r1 b2
  have B2 := below_chain B1 b2
  have p1 := E2.c1
  clear E1 a1 r1 B1 b2 p0
  cases hs : nameB s
  · have hR : R = 5 := by rw [← HR.out, hs, Bool.false_and, if_pos rfl]
    subst hR
    go_wp2_with fail
    go_ret
    exact ⟨rfl, B2⟩
  go_wp2_with fail
  refine (name_told (s := t) kt _).mono ?_
  rintro e w3 ⟨rfl, b3⟩
  have E3 := E2.below b3 E2.lt
  have a3 := RdC.below a2 b3
  have r3 := RdC.below r2 b3
  have B3 := below_chain B2 b3
  have p2 := E3.c2
  have p3 := E3.c3
  clear E2 a2 r2 B2 b3 p1
  cases ht : nameB t
  · have hR : R = 5 := by rw [← HR.out, ht, Bool.and_false, if_pos rfl]
    subst hR
    go_wp2_with fail
    go_ret
    exact ⟨rfl, B3⟩
  by_cases h6 : 6 < n
  · have hR : R = 3 := by rw [← HR.out, hs, ht, if_neg (by decide), if_pos (.inl h6)]
    subst hR
    have i1 : (6 : Int) < n := by omega
    go_wp2_with fail
    go_ret
    exact ⟨rfl, B3⟩
  by_cases h4 : 4 < m
  · have hR : R = 3 := by rw [← HR.out, hs, ht, if_neg (by decide), if_pos (.inr h4)]
    subst hR
    have i1 : ¬ (6 : Int) < n := by omega
    have i2 : (4 : Int) < m := by omega
    go_wp2_with fail
    go_ret
    exact ⟨rfl, B3⟩
  have hr2 : (if ((fs.all fun f => nameB f.1) && ts.all tagB) = false then 5 else if (fs.all fitB && (riseB ts && riseB (fs.map (·.1)))) = false then 1 else 0 : Int) = R := by
    have := HR.out
    rwa [hs, ht, if_neg (by decide), if_neg (by omega)] at this
  have HR2 := Go.Lib.hid hr2
  clear HR hs ht hr2
  have i1 : ¬ (6 : Int) < n := by omega
  have i2 : ¬ (4 : Int) < m := by omega
  go_wp2_with fail
  refine (areTags_any A n ca ts _ a3 KT.out).mono ?_
  rintro e w4 ⟨rfl, b4⟩
  have E4 := E3.below b4 E3.lt
  have a4 := RdC.below a3 b4
  have r4 := RdC.below r3 b4
  have B4 := below_chain B3 b4
  have q2 := E4.c2
  have q3 := E4.c3
  clear E3 a3 r3 B3 b4 p2 p3
  cases h5 : ts.all tagB
  · have hR : R = 5 := by rw [← HR2.out, h5, Bool.and_false, if_pos rfl]
    subst hR
    go_wp2_with fail
    go_ret
    exact ⟨rfl, B4⟩
  go_wp2_with fail
  refine (areNamed_any B m cb fs _ r4 KN.out).mono ?_
  rintro e w5 ⟨rfl, b5⟩
  have E5 := E4.below b5 E4.lt
  have a5 := RdC.below a4 b5
  have r5 := RdC.below r4 b5
  have B5 := below_chain B4 b5
  have p2 := E5.c2
  have p3 := E5.c3
  clear E4 a4 r4 B4 b5 q2 q3
  cases h7 : fs.all fun f => nameB f.1
  · have hR : R = 5 := by rw [← HR2.out, h7, Bool.false_and, if_pos rfl]
    subst hR
    go_wp2_with fail
    go_ret
    exact ⟨rfl, B5⟩
  have hr3 : (if (fs.all fitB && (riseB ts && riseB (fs.map (·.1)))) = false then 1 else 0 : Int) = R := by
    have := HR2.out
    rwa [h5, h7, if_neg (by decide)] at this
  have HR3 := Go.Lib.hid hr3
  clear HR2 h5 h7 hr3
  go_wp2_with fail
  refine (tagsRise_any A n ca ts _ a5).mono ?_
  rintro e w6 ⟨rfl, b6⟩
  have E6 := E5.below b6 E5.lt
  have r6 := RdC.below r5 b6
  have B6 := below_chain B5 b6
  have q3 := E6.c3
  clear E5 a5 r5 B5 b6 p2 p3
  cases h8 : riseB ts
  · have hR : R = 1 := by rw [← HR3.out, h8, Bool.false_and, Bool.and_false, if_pos rfl]
    subst hR
    go_wp2_with fail
    go_ret
    exact ⟨rfl, B6⟩
  go_wp2_with fail
  refine (fieldsRise_any B m cb fs _ r6).mono ?_
  rintro e w7 ⟨rfl, b7⟩
  have E7 := E6.below b7 E6.lt
  have r7 := RdC.below r6 b7
  have B7 := below_chain B6 b7
  have p3 := E7.c3
  clear E6 r6 B6 b7 q3
  cases h9 : riseB (fs.map (·.1))
  · have hR : R = 1 := by rw [← HR3.out, h9, Bool.and_false, Bool.and_false, if_pos rfl]
    subst hR
    go_wp2_with fail
    go_ret
    exact ⟨rfl, B7⟩
  go_wp2_with fail
  refine (areFit_any B m cb fs _ r7).mono ?_
  rintro e w8 ⟨rfl, b8⟩
  have B8 := below_chain B7 b8
  clear E7 r7 B7 b8 p3
  cases h0 : fs.all fitB
  · have hR : R = 1 := by rw [← HR3.out, h0, Bool.false_and, if_pos rfl]
    subst hR
    go_wp2_with fail
    go_ret
    exact ⟨rfl, B8⟩
  have hR : R = 0 := by rw [← HR3.out, h0, h8, h9, if_neg (by decide)]
  subst hR
  go_wp2_with fail
  go_ret
  exact ⟨rfl, B8⟩

end Go.Proofs.Ytjglpmakjampjaa.EvWalk
