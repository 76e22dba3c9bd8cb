/-
  Contract of the document's answer of layer 4: May.
-/
import Derived.Test.YtjglpmakjampjaaEvRefC
namespace Go.Proofs.Ytjglpmakjampjaa.EvWalk
open Go.RowKit Go.Proofs.Ytjglpmakjampjaa.MemRow Go.Proofs.Ytjglpmakjampjaa.Ev Go.Proofs.Ytjglpmakjampjaa.NameMath Go.Proofs.Ytjglpmakjampjaa.NameWalk

/-- It is a name. -/
def nameB (s : ByteArray) : Bool := may s.data.toList
/-- A number that a field may have. -/
def fitB (f : ByteArray × Int) : Bool := decide (-1099511627776 ≤ f.2 ∧ f.2 ≤ 1099511627776)

/-- What is wrong with an event. -/
def mayE (e : Ev) : Int :=
  if (nameB e.s && nameB e.t) = false then 5
  else if 6 < e.tags.length ∨ 4 < e.fs.length then 3
  else if ((e.fs.all fun f => nameB f.1) && e.tags.all tagB) = false then 5
  else if (e.fs.all fitB && (riseB e.tags && riseB (e.fs.map (·.1)))) = false then 1 else 0

theorem refName_told {s : ByteArray} {b : Bool} (hs : s.size ≤ maxLen) (h : nameB s = b) (w : World) :
    Calls Try.prog 44 #[.string s] w fun e w' => e = .returned (.bool b) ∧ Below w.heap.size w w' := by
  subst h
  unfold maxLen at hs
  exact refMay_any s w (by omega)

theorem fs_take (fs : List (ByteArray × Int)) (j : Nat) (h : j < fs.length) : fs.take (j + 1) = fs.take j ++ [fs.getD j (ByteArray.empty, 0)] := by
  rw [List.take_succ_eq_append_getElem h]
  simp [List.getD, List.getElem?_eq_getElem h]
theorem fs_mem (fs : List (ByteArray × Int)) (j : Nat) (h : j < fs.length) : fs.getD j (ByteArray.empty, 0) ∈ fs := by
  simp only [List.getD, List.getElem?_eq_getElem h, Option.getD_some]
  exact List.getElem_mem h

/-- What stands at the head of a round of May. -/
structure MayAt (wr w2 : World) (Nm : Option Addr) (j cn : Nat) (fs : List (ByteArray × Int)) : Prop where
  own : OwnC 1 wr w2.heap.size 9 Nm j cn (strs ((fs.take j).map (·.1)))
  bel : Below w2.heap.size w2 wr
  names : (fs.take j).all (fun f => nameB f.1) = true

set_option maxHeartbeats 8000000 in
set_option maxRecDepth 100000 in
theorem refMayE_any (v : Value) (ev : Ev) (w : World) (hv : IsEv w v ev) (hok : EvOk ev) :
    Calls Try.prog 25 #[v] w fun e w' => e = .returned (.int .i64 (mayE ev)) ∧ Below w.heap.size w w' := by
  obtain ⟨A, n, ca, B, m, cb, rfl, ha, hb⟩ := hv
  obtain ⟨s, t, ts, fs⟩ := ev
  obtain ⟨ks, kt, ktags, knames, knums⟩ := hok
  simp only at ha hb ks kt ktags knames knums
  have hn := RdC.le ha
  have hm := RdC.le hb
  unfold maxLen at hn hm
  have la := ha.len
  have lb := hb.len
  generalize hR : mayE ⟨s, t, ts, fs⟩ = R
  unfold mayE at hR
  simp only at hR
  rw [la, lb] at hR
  have HR := Go.Lib.hid hR
  have LB := Go.Lib.hid lb
  clear hR la lb
  have KT := Go.Lib.hid ktags
  have KN := Go.Lib.hid knames
  clear ktags knames knums
  have b1 : Below w.heap.size w (w.alloc (.cells #[.string s, .string t, .slice A n ca, .slice B m cb] 26)) := (Below.refl _ _).alloc (Nat.le_refl _) _
  have E1 := EvAt.new w (.string s) (.string t) (.slice A n ca) (.slice B m cb)
  have a1 := RdC.below ha b1
  have r1 := RdC.below hb b1
  have p0 := E1.c0
  go_enter Try.func25, Try.ntmps25
  go_wp2_with fail
  generalize w.alloc (.cells #[.string s, .string t, .slice A n ca, .slice B m cb] 26) = w1 at *
  clear ha hb
  refine (refName_told (s := s) ks rfl _).mono ?_
  rintro e w2 ⟨rfl, b2⟩
  have E2 := E1.below b2 E1.lt
  have a2 := RdC.below a1 b2
  have r2 := RdC.below r1 b2
  have B2 := below_chain b1 b2
  have p1 := E2.c1
  clear E1 a1 r1 b1 b2 p0
  go_wp2_with fail
  refine (refName_told (s := t) kt rfl _).mono ?_
  rintro e w3 ⟨rfl, b3⟩
  have E3 := E2.below b3 E2.lt
  have a3 := RdC.below a2 b3
  have r3 := RdC.below r2 b3
  have B3 := below_chain B2 b3
  have p2 := E3.c2
  have p3 := E3.c3
  clear E2 a2 r2 B2 b3 p1
  cases hs : nameB s
  · have hR : R = 5 := by rw [← HR.out, hs, Bool.false_and, if_pos rfl]
    subst hR
    go_wp2_with fail
    go_ret
    exact ⟨rfl, B3⟩
  cases ht : nameB t
  · have hR : R = 5 := by rw [← HR.out, ht, Bool.and_false, if_pos rfl]
    subst hR
    go_wp2_with fail
    go_ret
    exact ⟨rfl, B3⟩
  by_cases h6 : 6 < n
  · have hR : R = 3 := by rw [← HR.out, hs, ht, if_neg (by decide), if_pos (.inl h6)]
    subst hR
    have i1 : (6 : Int) < n := by omega
    go_wp2_with fail
    go_ret
    exact ⟨rfl, B3⟩
  by_cases h4 : 4 < m
  · have hR : R = 3 := by rw [← HR.out, hs, ht, if_neg (by decide), if_pos (.inr h4)]
    subst hR
    have i1 : ¬ (6 : Int) < n := by omega
    have i2 : (4 : Int) < m := by omega
    go_wp2_with fail
    go_ret
    exact ⟨rfl, B3⟩
  have hr2 : (if ((fs.all fun f => nameB f.1) && ts.all tagB) = false then 5 else if (fs.all fitB && (riseB ts && riseB (fs.map (·.1)))) = false then 1 else 0 : Int) = R := by
    have := HR.out
    rwa [hs, ht, if_neg (by decide), if_neg (by omega)] at this
  have HR2 := Go.Lib.hid hr2
  clear HR hs ht hr2
  have i1 : ¬ (6 : Int) < n := by omega
  have i2 : ¬ (4 : Int) < m := by omega
  have H4 := Go.Lib.hid h4
  have bx : Below w3.heap.size w3 (w3.alloc (.cells #[] 9)) := (Below.refl _ _).alloc (Nat.le_refl _) _
  go_wp2_with fail
  clear h4
  go_loopw [5, 6, 7] (fun x f i wr => ∃ (j : Nat) (Nm : Option Addr) (cn : Nat), j ≤ m ∧ x = .slice Nm j cn ∧ f = .bool ((fs.take j).all fitB) ∧ i = .int .i64 j ∧ MayAt wr w3 Nm j cn fs) (fun _ _ i _ => m - (intOf i).toNat)
  case atStart => exact ⟨0, _, _, Nat.zero_le _, rfl, rfl, rfl, ⟨OwnC.empty w3 9 (Nat.le_refl _), bx, rfl⟩⟩
  case round =>
    obtain ⟨j, Nm, cn, hj, rfl, rfl, rfl, hst⟩ := hrel
    have E4 := E3.below hst.bel E3.lt
    have k3 := E4.c3
    have r4 : RdF wr B m cb fs := RdC.below r3 hst.bel
    by_cases hlt : j < m
    · obtain ⟨bb, ob, rfl, _, kb⟩ := r4.at_ (by omega)
      obtain ⟨y1, y2⟩ := kb j hlt
      have j1 : (j : Int) < m := by omega
      have hj4 : j + 1 ≤ 4 := by have := H4.out; omega
      have ts1 := fs_take fs j (by rw [LB.out]; exact hlt)
      have mem1 := fs_mem fs j (by rw [LB.out]; exact hlt)
      have sz := KN.out _ mem1
      have TS := Go.Lib.hid ts1
      have MEM := Go.Lib.hid mem1
      clear kb ts1 mem1
      generalize hx : fs.getD j (ByteArray.empty, 0) = x at *
      have HX := Go.Lib.hid hx
      clear hx
      obtain ⟨xn, xz⟩ := x
      simp only at y1 y2 sz
      go_wp2_with fail
      refine (refName_told (s := xn) sz rfl _).mono ?_
      rintro e w5 ⟨rfl, b5⟩
      have r5 := RdC.below r4 b5
      have E5 := E4.below b5 E4.lt
      have k5 := E5.c3
      have o5 := OwnC.below hst.own b5
      have B5 := below_chain hst.bel b5
      have z1 := bcell b5 y1
      clear y1 y2 k3 b5 r4 E4 p3
      cases hnm : nameB xn
      · have hR : R = 5 := by
          rw [← HR2.out]
          have : (fs.all fun f => nameB f.1) = false := by
            rw [List.all_eq_false]
            exact ⟨_, MEM.out, by simp [hnm]⟩
          rw [this, Bool.false_and, if_pos rfl]
        subst hR
        go_wp2_with fail
        go_ret
        exact ⟨rfl, below_chain B3 B5⟩
      · have HN := Go.Lib.hid hnm
        clear hnm
        have al : Below w5.heap.size w5 (w5.alloc (.cells #[.string xn] 9)) := (Below.refl _ _).alloc (Nat.le_refl _) _
        have o6 := o5.below al
        have d6 : RdC 1 (w5.alloc (.cells #[.string xn] 9)) (some ⟨w5.heap.size, 0, none⟩) 1 1 (strs [xn]) := RdC.new w5 9 (strs [xn]) rfl (by decide)
        have b6 := below_chain B5 al
        have hmap : strs ((fs.take (j + 1)).map (·.1)) = strs ((fs.take j).map (·.1)) ++ strs [xn] := by rw [TS.out, List.map_append, strs_append]; rfl
        have HMAP := Go.Lib.hid hmap
        have hF2 : (fs.take (j + 1)).all fitB = ((fs.take j).all fitB && fitB (xn, xz)) := by rw [TS.out, List.all_append]; simp
        clear hmap E5 o5 r5 al
        generalize (fs.take j).all fitB = F at *
        have HF2 := Go.Lib.hid hF2
        clear hF2
        cases F
        · go_wp2_with (at_builtin; refine wpList_more_cells rfl (.tmp 51) (.tmp 58) 23 rfl 9 (.string ByteArray.empty) 16 Try.underlying23 string_info rfl (by decide) rfl rfl o6 d6 (strs_one _) (by unfold maxLen; omega) (by omega) b6.size b6 ?_; intro N7 c7 w7 o7 b7 g7; have k7 := (E3.below b7 E3.lt).c3; obtain ⟨z7, z8⟩ := HX.out ▸ RdF.get (RdC.below r3 b7) hlt)
          go_roundw
          case rel => exact ⟨j + 1, N7, c7, by omega, rfl, by rw [HF2.out]; simp [fitB], by go_num, ⟨by rw [HMAP.out]; exact o7, b7, by rw [TS.out, List.all_append, hst.names]; simp [HN.out]⟩⟩
          case measure => simp [intOf]; omega
        by_cases c1 : -1099511627776 ≤ xz
        · by_cases c2 : xz ≤ 1099511627776
          · go_wp2_with (at_builtin; refine wpList_more_cells rfl (.tmp 51) (.tmp 58) 23 rfl 9 (.string ByteArray.empty) 16 Try.underlying23 string_info rfl (by decide) rfl rfl o6 d6 (strs_one _) (by unfold maxLen; omega) (by omega) b6.size b6 ?_; intro N7 c7 w7 o7 b7 g7; have k7 := (E3.below b7 E3.lt).c3; obtain ⟨z7, z8⟩ := HX.out ▸ RdF.get (RdC.below r3 b7) hlt)
            go_roundw
            case rel => exact ⟨j + 1, N7, c7, by omega, rfl, by rw [HF2.out]; simp [fitB, c1, c2], by go_num, ⟨by rw [HMAP.out]; exact o7, b7, by rw [TS.out, List.all_append, hst.names]; simp [HN.out]⟩⟩
            case measure => simp [intOf]; omega
          · have c3 : decide (xz ≤ 1099511627776) = false := decide_eq_false c2
            go_wp2_with (at_builtin; refine wpList_more_cells rfl (.tmp 51) (.tmp 58) 23 rfl 9 (.string ByteArray.empty) 16 Try.underlying23 string_info rfl (by decide) rfl rfl o6 d6 (strs_one _) (by unfold maxLen; omega) (by omega) b6.size b6 ?_; intro N7 c7 w7 o7 b7 g7; have k7 := (E3.below b7 E3.lt).c3; obtain ⟨z7, z8⟩ := HX.out ▸ RdF.get (RdC.below r3 b7) hlt)
            go_roundw
            case rel => exact ⟨j + 1, N7, c7, by omega, rfl, by rw [HF2.out]; simp [fitB, c2], by go_num, ⟨by rw [HMAP.out]; exact o7, b7, by rw [TS.out, List.all_append, hst.names]; simp [HN.out]⟩⟩
            case measure => simp [intOf]; omega
        · have c3 : decide (-1099511627776 ≤ xz) = false := decide_eq_false c1
          go_wp2_with (at_builtin; refine wpList_more_cells rfl (.tmp 51) (.tmp 58) 23 rfl 9 (.string ByteArray.empty) 16 Try.underlying23 string_info rfl (by decide) rfl rfl o6 d6 (strs_one _) (by unfold maxLen; omega) (by omega) b6.size b6 ?_; intro N7 c7 w7 o7 b7 g7; have k7 := (E3.below b7 E3.lt).c3; obtain ⟨z7, z8⟩ := HX.out ▸ RdF.get (RdC.below r3 b7) hlt)
          go_roundw
          case rel => exact ⟨j + 1, N7, c7, by omega, rfl, by rw [HF2.out]; simp [fitB]; omega, by go_num, ⟨by rw [HMAP.out]; exact o7, b7, by rw [TS.out, List.all_append, hst.names]; simp [HN.out]⟩⟩
          case measure => simp [intOf]; omega
    · obtain rfl : m = j := by omega
      have hname : (fs.all fun f => nameB f.1) = true := by
        have h1 := hst.names
        rwa [List.take_of_length_le (by rw [LB.out]; exact Nat.le_refl _)] at h1
      have hr3 := HR2.out
      rw [hname, Bool.true_and] at hr3
      have HR3 := Go.Lib.hid hr3
      have k4 := E4.c2
      have a4 := RdC.below a3 hst.bel
      have nm := OwnC.rd hst.own
      rw [List.take_of_length_le (by rw [LB.out]; exact Nat.le_refl _)] at nm ⊢
      have B4 := below_chain B3 hst.bel
      clear hname hr3 HR2 r4 E4
      go_wp2_with fail
      refine (refTags_any A n ca ts _ a4 KT.out).mono ?_
      rintro e w5 ⟨rfl, b5⟩
      have a5 := RdC.below a4 b5
      have nm5 := RdC.below nm b5
      have k5 := bcell b5 k4
      have B5 := below_chain B4 b5
      clear a4 nm k4 b5 B4
      cases hT : ts.all tagB
      · have hR : R = 5 := by rw [← HR3.out, hT, if_pos rfl]
        subst hR
        go_wp2_with fail
        go_ret
        exact ⟨rfl, B5⟩
      have hr4 := HR3.out
      rw [hT, if_neg (by decide)] at hr4
      have HR4 := Go.Lib.hid hr4
      clear hr4 HR3 hT
      go_wp2_with fail
      refine (refRise_any A n ca ts _ a5).mono ?_
      rintro e w6 ⟨rfl, k6, rfl⟩
      have nm6 := RdC.drewN nm5 k6
      have B6 := bel_drewN B5 k6
      clear a5 nm5 k5 B5
      generalize w5.drewN k6 = w6 at *
      go_wp2_with fail
      refine (refRise_any Nm m cn _ _ nm6).mono ?_
      rintro e w7 ⟨rfl, k7, rfl⟩
      have B7 := bel_drewN B6 k7
      generalize fs.all fitB = F at *
      generalize riseB ts = G at *
      generalize riseB (fs.map fun x => x.1) = K at *
      cases F <;> cases G <;> cases K
      all_goals
        have hR := HR4.out
        simp at hR
        subst hR
        go_wp2_with fail
        go_ret
        exact ⟨rfl, B7⟩

end Go.Proofs.Ytjglpmakjampjaa.EvWalk
