/-
  Walk of a statement of layer 3: NameTagged.
-/
import Derived.Test.YtinmmaoedmepbaaNameShown
import Derived.Test.YtinmmaoedmepbaaOpen
import Derived.StillTailTactics
namespace Go.Proofs.Ytinmmaoedmepbaa.NameLaw
open Go.RowKit Go.WideShapes Go.ChangeShapes Go.Proofs.Ytinmmaoedmepbaa.NameMath Go.Proofs.Ytinmmaoedmepbaa.NameWalk Go.Proofs.Ytinmmaoedmepbaa.Open

theorem mapM_each {α β : Type} {f : α → Option β} : ∀ (L : List α) (ys : List β), L.mapM f = some ys → ∀ i ∈ L, ∃ y, f i = some y
  | [], _, _, i, hi => by cases hi
  | a :: L, ys, h, i, hi => by
    rw [List.mapM_cons] at h
    cases ha : f a with
    | none => simp [ha] at h
    | some y =>
      cases hL : L.mapM f with
      | none => simp [ha, hL] at h
      | some zs =>
        rcases List.mem_cons.1 hi with rfl | hm
        · exact ⟨y, ha⟩
        · exact mapM_each L zs hL i hm

section
variable {H : Type} {enc : TypeId × Value → H} {P : Program} {W : World} {base : Nat} {t e : TypeId} {v : Value} {d : DataW H} {p : List MemPlace}

/-- Each cell of an array of strings is one. -/
theorem op_strs {n : Nat} (ht : P.underlying t = some (.array n e)) (he : P.underlying e = some .string) (hce : P.cellsOf e = 1) (hct : P.cellsOf t = n) (ho : Value.okWide P W .any base t v) (h : DataW.Trod enc P W 0 (fun _ => true) true t v d p) :
    ∃ cs : Array Value, v = .agg cs ∧ cs.size = n ∧ ∀ i, i < n → ∃ x, cs.toList[i]? = some (.string x) ∧ x.size ≤ maxLen := by
  simp only [Value.okWide, ht] at ho
  obtain ⟨cs, rfl, hs, _⟩ := ho
  refine ⟨cs, rfl, by rw [hs, hct], fun i hi => ?_⟩
  obtain ⟨fuel, hf⟩ := h
  cases fuel with
  | zero => simp [DataW.trod] at hf
  | succ m =>
    rw [DataW.trod_step] at hf
    unfold DataW.trodStep at hf
    simp only [ht, Value.cells] at hf
    split at hf
    · simp only [Option.map_eq_some_iff] at hf
      obtain ⟨ys, hy, _⟩ := hf
      obtain ⟨y, hyi⟩ := mapM_each _ _ hy i (List.mem_range.2 hi)
      obtain ⟨x, ex, _, wx⟩ := DataW.trod_string he hyi
      rw [hce, Nat.mul_one] at ex
      refine ⟨x, ?_, wx⟩
      have h2 := congrArg (fun l : List Value => l[0]?) ex
      simpa using h2
    · cases hf

theorem op_strs2 (ht : P.underlying t = some (.array 2 e)) (he : P.underlying e = some .string) (hce : P.cellsOf e = 1) (hct : P.cellsOf t = 2) (ho : Value.okWide P W .any base t v) (h : DataW.Trod enc P W 0 (fun _ => true) true t v d p) :
    ∃ a b : ByteArray, v = .agg #[.string a, .string b] ∧ a.size ≤ maxLen ∧ b.size ≤ maxLen := by
  obtain ⟨cs, rfl, hs, hc⟩ := op_strs ht he hce hct ho h
  obtain ⟨l⟩ := cs
  match l, hs with
  | [c0, c1], _ =>
    obtain ⟨a, ha, wa⟩ := hc 0 (by omega)
    obtain ⟨b, hb, wb⟩ := hc 1 (by omega)
    simp at ha hb
    subst ha hb
    exact ⟨a, b, rfl, wa, wb⟩
end

theorem bcell {W w1 : World} {B : Nat} (hb : Below B W w1) {b o : Nat} {v : Value} (h : b < B) (hc : W.cell? ⟨b, o, none⟩ = some v) : w1.cell? ⟨b, o, none⟩ = some v := (hb.cell (p := ⟨b, o, none⟩) h).trans hc

theorem tag_inj {a b c d : List UInt8} (ha : may a = true) (hc : may c = true) (h : a ++ 58 :: b = c ++ 58 :: d) : a = c ∧ b = d := by
  have h1 := parts_tag (b := b) ha
  rw [h, parts_tag hc] at h1
  simp only [Option.some.injEq, Prod.mk.injEq] at h1
  exact ⟨h1.1.symm, h1.2.symm⟩

theorem may_tag {a b : List UInt8} (ha : may a = true) : may (a ++ 58 :: b) = false := by
  have hp := may_parts ha
  have hcol : allL (58 :: b) = false := by
    cases b with
    | nil => rfl
    | cons b l => rw [allL, if_neg (by decide), if_neg (by simp [two])]
  unfold may
  rw [allL_append _ _ hp.2.2.2, hcol, Bool.and_false, Bool.and_false]

/-- What the two tags come to. -/
def tagB (a b : ByteArray) : ByteArray := ⟨(tag a.data.toList b.data.toList).toArray⟩
theorem tagB_no {a b : ByteArray} (h : (may a.data.toList && may b.data.toList) = false) : tagB a b = ⟨#[]⟩ := by
  unfold tagB tag
  rw [h, if_neg (by decide)]
theorem tagB_yes {a b : ByteArray} (h : (may a.data.toList && may b.data.toList) = true) : (tagB a b).data.toList = a.data.toList ++ 58 :: b.data.toList := by
  unfold tagB tag
  rw [if_pos h]

theorem str_ne {a b : ByteArray} (h : a ≠ b) : (a.toList == b.toList) = false := by
  rw [beq_eq_false_iff_ne]
  intro e
  rw [ByteArray.toList_eq, ByteArray.toList_eq] at e
  exact h (ba_ext e)

set_option maxHeartbeats 8000000 in
set_option maxRecDepth 100000 in
theorem tagged_walk (a b x y : ByteArray) (ha : a.size ≤ 9223372036854775807) (hb : b.size ≤ 9223372036854775807) (hx : x.size ≤ 9223372036854775807) (hy : y.size ≤ 9223372036854775807) (w : World) :
    Calls Try.prog 10 #[.string a, .string b, .agg #[.string x, .string y]] w fun e w' => e = .returned (.bool true) ∧ Below w.heap.size w w' := by
  have HA := sh_size a
  have HB := sh_size b
  have HX := sh_size x
  have HY := sh_size y
  have sA := Go.Lib.hid (fun w => short_any a w ha)
  have sB := Go.Lib.hid (fun w => short_any b w hb)
  have sX := Go.Lib.hid (fun w => short_any x w hx)
  have sY := Go.Lib.hid (fun w => short_any y w hy)
  have b0 : Below w.heap.size w (w.alloc (.cells #[.string x, .string y] 33)) := (Below.refl _ _).alloc (Nat.le_refl _) _
  have z0 : w.heap.size < (w.alloc (.cells #[.string x, .string y] 33)).heap.size := by simp
  have p0 : (w.alloc (.cells #[.string x, .string y] 33)).cell? ⟨w.heap.size, 0, none⟩ = some (.string x) := by simp
  have p1 : (w.alloc (.cells #[.string x, .string y] 33)).cell? ⟨w.heap.size, 1, none⟩ = some (.string y) := by simp
  go_enter Try.func10, Try.ntmps10
  go_wp2_with fail
  generalize hW : w.alloc (.cells #[.string x, .string y] 33) = w0 at *
  clear hW
  refine (shown_any _).mono ?_
  rintro e w1 ⟨rfl, b1⟩
  have q0 := bcell b1 z0 p0
  have q1 := bcell b1 z0 p1
  have z1 := Nat.lt_of_lt_of_le z0 b1.size
  have B1 := b0.trans (b1.mono b0.size)
  clear b0 b1 z0 p0 p1
  go_wp2_with fail
  refine (sA.out _).mono ?_
  rintro e w' ⟨rfl, rfl⟩
  go_wp2_with fail
  refine (sB.out _).mono ?_
  rintro e w' ⟨rfl, rfl⟩
  clear sA sB
  generalize sh a = A at *
  generalize sh b = B at *
  generalize sh x = X at *
  generalize sh y = Y at *
  have cT := Go.Lib.hid (fun w => tag_told (a := A) (b := B) (t := tagB A B) (by omega) (by omega) rfl w)
  have cU := Go.Lib.hid (fun w => tag_told (a := X) (b := Y) (t := tagB X Y) (by omega) (by omega) rfl w)
  go_wp2_with fail
  refine (cT.out _).mono ?_
  rintro e w2 ⟨rfl, b2⟩
  have p0 := bcell b2 z1 q0
  have p1 := bcell b2 z1 q1
  have z2 := Nat.lt_of_lt_of_le z1 b2.size
  have B2 := below_chain B1 b2
  clear B1 b2 q0 q1 z1
  go_wp2_with fail
  go_still_tail 6, (by kernel_rfl)
  still_call ((sX.out _).mono fun _ _ h => ⟨h.1, h.2.symm⟩)
  repeat still_step
  still_call ((sY.out _).mono fun _ _ h => ⟨h.1, h.2.symm⟩)
  refine wpStill_nil ?_
  change wpList _ _ _ _ _ w2.drew
  have q0 : w2.drew.cell? ⟨w.heap.size, 0, none⟩ = some (.string x) := p0
  have q1 : w2.drew.cell? ⟨w.heap.size, 1, none⟩ = some (.string y) := p1
  have z3 : w.heap.size < w2.drew.heap.size := z2
  have B3 : Below w.heap.size w w2.drew := bel_drew B2
  clear p0 p1 z2 B2
  generalize w2.drew = w3 at *
  go_wp2_with fail
  refine (cU.out _).mono ?_
  rintro e w4 ⟨rfl, b4⟩
  have p0 := bcell b4 z3 q0
  have p1 := bcell b4 z3 q1
  have B4 := below_chain B3 b4
  clear B3 b4 q0 q1 z3
  have eA := size_list A
  have eB := size_list B
  cases hAB : (may A.data.toList && may B.data.toList)
  · -- the first is none
    rw [tagB_no hAB] at *
    cases hA : may A.data.toList
    · have cA := Go.Lib.hid (fun w => may_told (s := A) (by omega) hA w)
      clear hA hAB eA eB
      go_wp2_with fail
      refine (cA.out _).mono ?_
      rintro e w5 ⟨rfl, b5⟩
      have B5 := below_chain B4 b5
      clear B4 b5
      have Bz := B5
      go_wp2_with fail
      go_ret
      exact ⟨by simp, Bz⟩
    · rw [hA, Bool.true_and] at hAB
      have cA := Go.Lib.hid (fun w => may_told (s := A) (by omega) hA w)
      have cB := Go.Lib.hid (fun w => may_told (s := B) (by omega) hAB w)
      clear hA hAB eA eB
      go_wp2_with fail
      refine (cA.out _).mono ?_
      rintro e w5 ⟨rfl, b5⟩
      have B5 := below_chain B4 b5
      clear B4 b5
      go_wp2_with fail
      refine (cB.out _).mono ?_
      rintro e w6 ⟨rfl, b6⟩
      have B6 := below_chain B5 b6
      clear B5 b6
      have Bz := B6
      go_wp2_with fail
      go_ret
      exact ⟨by simp, Bz⟩
  have hA : may A.data.toList = true := ((Bool.and_eq_true _ _).mp hAB).1
  have lT := tagB_yes hAB
  have sT : (tagB A B).size = A.size + B.size + 1 := by rw [size_list, lT, List.length_append, List.length_cons]; omega
  have mT : may (tagB A B).data.toList = false := by rw [lT]; exact may_tag hA
  have gT : (parts (tagB A B).data.toList).2.2 = true := by
    rw [lT, parts_both hA ((Bool.and_eq_true _ _).mp hAB).2]
  have nT : (tagB A B).toList ≠ [] := by
    rw [ByteArray.toList_eq, lT]
    simp
  cases hXY : (may X.data.toList && may Y.data.toList)
  · rw [tagB_no hXY] at *
    generalize tagB A B = T at *
    have n1 : ¬ T.toList = [] := nT
    have n2 : T.toList.isEmpty = false := by simpa using nT
    clear nT lT sT mT gT hA hAB hXY eA eB
    have Bz := B4
    go_wp2_with fail
    go_ret
    exact ⟨by simp, Bz⟩
  have hX : may X.data.toList = true := ((Bool.and_eq_true _ _).mp hXY).1
  have lU := tagB_yes hXY
  have nU : (tagB X Y).toList ≠ [] := by
    rw [ByteArray.toList_eq, lU]
    simp
  have hST : tagB A B = tagB X Y ↔ A = X ∧ B = Y := by
    constructor
    · intro h
      rw [h, lU] at lT
      have := tag_inj hA hX lT.symm
      exact ⟨ba_ext this.1, ba_ext this.2⟩
    · rintro ⟨rfl, rfl⟩
      rfl
  generalize tagB A B = T at *
  generalize tagB X Y = U at *
  have n1 : ¬ T.toList = [] := nT
  have n2 : T.toList.isEmpty = false := by simpa using nT
  have n3 : ¬ U.toList = [] := nU
  have n4 : U.toList.isEmpty = false := by simpa using nU
  have cM := Go.Lib.hid (fun w => may_told (s := T) (by omega) mT w)
  have cN := Go.Lib.hid (fun w => mayTag_told (s := T) (by omega) gT w)
  clear nT nU lT mT gT hA hX hAB hXY eA eB lU
  have sT' : ((T.size : Int) == (A.size : Int) + (B.size : Int) + 1) = true := by
    rw [beq_iff_eq]
    omega
  have hT : T.size ≤ 121 := by omega
  clear sT
  by_cases hAX : A = X
  · subst hAX
    by_cases hBY : B = Y
    · subst hBY
      have hh := hST.2 ⟨rfl, rfl⟩
      subst hh
      clear hST
      go_wp2_with fail
      refine (sX.out _).mono ?_
      rintro e w' ⟨rfl, rfl⟩
      go_wp2_with fail
      refine (sY.out _).mono ?_
      rintro e w' ⟨rfl, rfl⟩
      go_wp2_with fail
      refine (cM.out _).mono ?_
      rintro e w5 ⟨rfl, b5⟩
      have B5 := below_chain B4 b5
      clear B4 b5
      go_wp2_with fail
      refine (cN.out _).mono ?_
      rintro e w6 ⟨rfl, b6⟩
      have B6 := below_chain B5 b6
      clear B5 b6
      have Bz := B6
      go_wp2_with fail
      go_ret
      exact ⟨by simp, Bz⟩
    · have hh : T ≠ U := fun h => hBY (hST.1 h).2
      have n5 := str_ne hBY
      have n6 := str_ne hh
      clear hST hBY hh
      go_wp2_with fail
      refine (sX.out _).mono ?_
      rintro e w' ⟨rfl, rfl⟩
      go_wp2_with fail
      refine (sY.out _).mono ?_
      rintro e w' ⟨rfl, rfl⟩
      go_wp2_with fail
      refine (cM.out _).mono ?_
      rintro e w5 ⟨rfl, b5⟩
      have B5 := below_chain B4 b5
      clear B4 b5
      go_wp2_with fail
      refine (cN.out _).mono ?_
      rintro e w6 ⟨rfl, b6⟩
      have B6 := below_chain B5 b6
      clear B5 b6
      have Bz := B6
      go_wp2_with fail
      go_ret
      exact ⟨by simp, Bz⟩
  · have hh : T ≠ U := fun h => hAX (hST.1 h).1
    have n5 := str_ne hAX
    have n6 := str_ne hh
    clear hST hAX hh
    go_wp2_with fail
    refine (sX.out _).mono ?_
    rintro e w' ⟨rfl, rfl⟩
    go_wp2_with fail
    refine (cM.out _).mono ?_
    rintro e w5 ⟨rfl, b5⟩
    have B5 := below_chain B4 b5
    clear B4 b5
    go_wp2_with fail
    refine (cN.out _).mono ?_
    rintro e w6 ⟨rfl, b6⟩
    have B6 := below_chain B5 b6
    clear B5 b6
    have Bz := B6
    go_wp2_with fail
    go_ret
    exact ⟨by simp, Bz⟩

section
variable {H : Type} {enc : TypeId × Value → H}
theorem tagged_main (W : World) (base : Nat) (v0 v1 v2 : Value) {d0 d1 d2 : DataW H} {p0 p1 p2 : List MemPlace} (o0 : Value.okWide Try.prog W .any base 9 v0) (o1 : Value.okWide Try.prog W .any base 9 v1) (o2 : Value.okWide Try.prog W .any base 33 v2)
    (h0 : DataW.Trod enc Try.prog W 0 (fun _ => true) true 9 v0 d0 p0) (h1 : DataW.Trod enc Try.prog W 0 (fun _ => true) true 9 v1 d1 p1) (h2 : DataW.Trod enc Try.prog W 0 (fun _ => true) true 33 v2 d2 p2) :
    Calls Try.prog 10 #[v0, v1, v2] W fun e W' => e = .returned (.bool true) ∧ Below W.heap.size W W' := by
  obtain ⟨a, rfl, ha⟩ := op_string Try.underlying9 o0 h0
  obtain ⟨b, rfl, hb⟩ := op_string Try.underlying9 o1 h1
  obtain ⟨x, y, rfl, hx, hy⟩ := op_strs2 Try.underlying33 Try.underlying9 (by kernel_rfl) (by kernel_rfl) o2 h2
  unfold maxLen at ha hb hx hy
  exact tagged_walk a b x y (by omega) (by omega) (by omega) (by omega) W
end

end Go.Proofs.Ytinmmaoedmepbaa.NameLaw
