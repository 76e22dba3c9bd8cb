/-
  Contracts of the document's own answer for layer 1 (registrarref01): length, fail, Num, Text.
-/
import Derived.Test.YtjglpmakjampjaaNumReader
import Derived.BigQuiet
namespace Go.Proofs.Ytjglpmakjampjaa.NumWalk
open Go.RowKit Go.Proofs.Ytjglpmakjampjaa.NumMath Go.Proofs.Ytjglpmakjampjaa.NumMem
open Go.Lib (uvarint zigzag)

/-- length's state at the head of round k. -/
structure LenAt (l : List UInt8) (k : Nat) : Prop where
  le : k ≤ l.length
  le10 : k ≤ 10
  all : ∀ j, j < k → 128 ≤ (l.getD j 0).toNat

theorem lenAt_next {l : List UInt8} {k : Nat} (h : LenAt l k) (hk : k < l.length) (h10 : k < 10) (hc : 128 ≤ (l.getD k 0).toNat) : LenAt l (k + 1) :=
  ⟨hk, h10, fun j hj => by
    rcases Nat.lt_or_ge j k with hjk | hjk
    · exact h.all j hjk
    · obtain rfl : j = k := by omega
      exact hc⟩

set_option maxRecDepth 100000 in
set_option maxHeartbeats 1000000 in
theorem refLength_some (b o n cap : Nat) (l : List UInt8) (w : World) (h : Rd w (some ⟨b, o, none⟩) n cap l) (hn : 0 < n) (hc : ∀ i, i < n → w.cell? ⟨b, o + i, none⟩ = some (.int .u8 ((l.getD i 0).toNat : Int))) :
    Calls Try.prog 53 #[.slice (some ⟨b, o, none⟩) n cap] w fun e w' => e = .returned (.int .i64 (lenV l : Int)) ∧ w = w' := by
  have hl := h.len
  have hm := h.le
  unfold maxLen at hm
  have HL := Go.Lib.hid hl
  clear hl
  go_enter Try.func53, Try.ntmps53
  go_wp2
  go_loop [3] (fun i => ∃ k : Nat, i = .int .i64 k ∧ LenAt l k) (fun i => 10 - (intOf i).toNat)
  case atStart => exact ⟨0, rfl, ⟨by omega, by omega, by omega⟩⟩
  case round =>
    obtain ⟨k, rfl, hd⟩ := hrel
    have hk10 := hd.le10
    have hkl := hd.le
    rw [HL.out] at hkl
    by_cases hlt : k < n ∧ k < 10
    · obtain ⟨hkn, hk⟩ := hlt
      have hck := hc k hkn
      have hkl' : k < l.length := by rw [HL.out]; exact hkn
      generalize hcc : (l.getD k 0).toNat = c at hck
      have hc256 : c < 256 := by rw [← hcc]; exact UInt8.toNat_lt _
      by_cases h128 : 128 ≤ c
      · have hs := lenAt_next hd hkl' hk (by omega)
        clear hcc hc
        go_wp2
        go_round
        case rel => exact ⟨k + 1, by go_num, hs⟩
        case measure => simp [intOf]; omega
      · have r1 := lenV_end hd.all hkl' hk (by omega)
        rw [hcc] at r1
        have R1 := Go.Lib.hid r1
        clear hcc hc r1
        by_cases hk0 : 0 < k
        · by_cases hc0 : c = 0
          · have hb : ((c : Int) == 0) = true := by simp; omega
            go_wp2
            go_ret
            exact ⟨ret_int (by rw [R1.out, if_pos (by omega)]; rfl), rfl⟩
          · have hb : ((c : Int) == 0) = false := by simp; omega
            by_cases hk9 : k = 9
            · have hb9 : ((k : Int) == 9) = true := by simp; omega
              by_cases hc1 : 1 < c
              · clear hk9
                go_wp2
                go_ret
                exact ⟨ret_int (by rw [R1.out, if_pos (by simp at hb9; omega)]; rfl), rfl⟩
              · clear hk9
                go_wp2
                go_ret
                exact ⟨ret_int (by rw [R1.out, if_neg (by omega)]; rfl), rfl⟩
            · have hb9 : ((k : Int) == 9) = false := by simp; omega
              go_wp2
              go_ret
              exact ⟨ret_int (by rw [R1.out, if_neg (by omega)]; rfl), rfl⟩
        · have hb9 : ((k : Int) == 9) = false := by simp; omega
          go_wp2
          go_ret
          exact ⟨ret_int (by rw [R1.out, if_neg (by omega)]; rfl), rfl⟩
    · have r1 : lenV l = 0 := lenV_none fun j hj => hd.all j (by rw [HL.out] at hj; omega)
      have R1 := Go.Lib.hid r1
      clear r1 hc
      by_cases hkn : k < n
      · have hk : ¬ k < 10 := by omega
        clear hlt
        go_wp2
        go_ret
        exact ⟨ret_int (by rw [R1.out]; rfl), rfl⟩
      · clear hlt
        go_wp2
        go_ret
        exact ⟨ret_int (by rw [R1.out]; rfl), rfl⟩

set_option maxRecDepth 100000 in
theorem refLength_none (A : Option Addr) (cap : Nat) (w : World) :
    Calls Try.prog 53 #[.slice A 0 cap] w fun e w' => e = .returned (.int .i64 0) ∧ w = w' := by
  go_enter Try.func53, Try.ntmps53
  go_wp2
  go_loop [3] (fun i => i = .int .i64 0) (fun _ => 0)
  case atStart => rfl
  case round =>
    subst hrel
    go_wp2
    go_ret
    exact ⟨rfl, rfl⟩

theorem refLength_any (A : Option Addr) (n cap : Nat) (l : List UInt8) (w : World) (h : Rd w A n cap l) :
    Calls Try.prog 53 #[.slice A n cap] w fun e w' => e = .returned (.int .i64 (lenV l : Int)) ∧ w = w' := by
  rcases Nat.eq_zero_or_pos n with h0 | h0
  · subst h0
    have hl : l = [] := List.eq_nil_of_length_eq_zero h.len
    subst hl
    exact refLength_none A cap w
  · obtain ⟨b, o, rfl, _, hc⟩ := h.at_ h0
    exact refLength_some b o n cap l w h h0 hc

set_option maxRecDepth 100000 in
theorem refFail_any (g : Nat) (l : List UInt8) (bad : Bool) (w : World) (h : Rdr w 39 g l bad) :
    Calls Try.prog 52 #[.pointer (some ⟨g, 0, none⟩)] w fun e w' => e = .returned (.tuple #[]) ∧ Rdr w' 39 g [] true ∧ w.grownBy w' (some g) := by
  obtain ⟨A, n, cap, hh, hr, ho⟩ := h
  have HO := Go.Lib.hid ho
  clear ho
  obtain ⟨c0, c1, hf⟩ := two_cell hh
  have f0 := hf 0
  have f1 := hf 1
  have HH := Go.Lib.hid hh
  clear hf hh
  go_enter Try.func52, Try.ntmps52
  go_wp2
  go_end0
  exact ⟨rfl, ⟨none, 0, 0, two_set0 (two_set1 HH.out), Rd.nil _, Old.none _⟩, grown_setCell (grown_setCell ⟨rfl, rfl, rfl, Nat.le_refl _, fun _ _ _ => rfl⟩ _ _) _ _⟩

/-- Bytes from the k-th on, of the first n. -/
theorem valV_step (l : List UInt8) (n k : Nat) (hk : k < n) (hn : n ≤ l.length) : valV ((l.take n).drop k) = valV ((l.take n).drop (k + 1)) * 128 + (l.getD k 0).toNat % 128 := by
  have hk' : k < (l.take n).length := by simp; omega
  rw [List.drop_eq_getElem_cons hk']
  simp only [valV, List.getElem_take]
  have e : l.getD k 0 = l[k] := by simp [List.getD, List.getElem?_eq_getElem (show k < l.length by omega)]
  rw [e]
  omega
theorem valV_drop_le (l : List UInt8) (k : Nat) : valV (l.drop k) ≤ valV l := by
  rcases Nat.lt_or_ge l.length k with hk | hk
  · rw [List.drop_eq_nil_of_le (by omega)]
    simp [valV]
  · have h := valV_append (l.take k) (l.drop k)
    rw [List.take_append_drop] at h
    have h1 : 0 < 128 ^ (l.take k).length := Nat.pow_pos (by omega)
    have h2 := Nat.le_mul_of_pos_left (valV (l.drop k)) h1
    omega

set_option maxRecDepth 100000 in
theorem refNum_none (g : Nat) (l : List UInt8) (bad : Bool) (w : World) (h : Rdr w 39 g l bad) (hl : lenV l = 0) :
    Calls Try.prog 31 #[.pointer (some ⟨g, 0, none⟩)] w fun e w' => e = .returned (.int .i64 0) ∧ Rdr w' 39 g [] true ∧ w.grownBy w' (some g) := by
  have H := Go.Lib.hid h
  obtain ⟨A, n, cap, hh, hr, ho⟩ := h
  have HO := Go.Lib.hid ho
  clear ho
  obtain ⟨c0, c1, hf⟩ := two_cell hh
  have HLV := Go.Lib.hid hl
  clear hf hh hl
  go_enter Try.func31, Try.ntmps31
  go_wp2_with fail
  refine (refLength_any A n cap l _ hr).mono ?_
  rintro e w' ⟨rfl, rfl⟩
  rw [HLV.out]
  go_wp2_with (go_at_call 52; refine (refFail_any g l bad _ H.out).mono ?_; rintro e w' ⟨rfl, hr2, hg2⟩)
  go_ret
  exact ⟨rfl, hr2, hg2⟩

set_option maxHeartbeats 1000000 in
set_option maxRecDepth 100000 in
theorem refNum_some (g : Nat) (l : List UInt8) (bad : Bool) (w : World) (h : Rdr w 39 g l bad) (hl : 0 < lenV l) :
    Calls Try.prog 31 #[.pointer (some ⟨g, 0, none⟩)] w fun e w' => e = .returned (.int .i64 (numV l)) ∧ Rdr w' 39 g (l.drop (lenV l)) bad ∧ w.grownBy w' (some g) := by
  have hno := h.no_byte
  obtain ⟨A, n, cap, hh, hr, ho⟩ := h
  have HO := Go.Lib.hid ho
  clear ho
  obtain ⟨c0, c1, hf⟩ := two_cell hh
  have f0 := hf 0
  have HH := Go.Lib.hid hh
  have hle := lenV_le l
  have hle' := hle
  rw [hr.len] at hle
  have hc := hr.cut hle
  have hcap := hr.le_cap
  have hmax := hr.2.2.1
  unfold maxLen at hmax
  have hu := decU_lt l
  have hv : unzig (decU l) = numV l := by
    unfold numV decU
    rw [if_neg (by omega), if_neg (by omega)]
  have hdec : decU l = valV (l.take (lenV l)) := by unfold decU; rw [if_neg (by omega)]
  have HV := Go.Lib.hid hv
  obtain ⟨b, o, rfl, hb, hcell⟩ := hr.at_ (by omega)
  have HB : Hid (∀ k, k < lenV l → valV ((l.take (lenV l)).drop k) = valV ((l.take (lenV l)).drop (k + 1)) * 128 + (l.getD k 0).toNat % 128) := fun k hk => valV_step l (lenV l) k hk hle'
  have HD : Hid (∀ k, valV ((l.take (lenV l)).drop k) ≤ decU l) := fun k => by rw [hdec]; exact valV_drop_le _ k
  have H0 : Hid (valV ((l.take (lenV l)).drop 0) = decU l) := by show _ = _; rw [List.drop_zero, hdec]
  have HE : Hid (valV ((l.take (lenV l)).drop (lenV l)) = 0) := by
    show _ = _
    rw [List.drop_eq_nil_of_le (List.length_take_le _ _)]
    rfl
  have HCL := Go.Lib.hid hcell
  clear hf hh hv hdec hle' hcell
  go_enter Try.func31, Try.ntmps31
  go_wp2_with fail
  refine (refLength_any _ n cap l _ hr).mono ?_
  rintro e w' ⟨rfl, rfl⟩
  generalize hq : lenV l = q at *
  have hne : ((q : Int) == 0) = false := by simp; omega
  go_wp2_with fail
  go_loop [4, 5] (fun u i => ∃ k : Nat, k ≤ q ∧ i = .int .i64 ((k : Int) - 1) ∧ u = .int .u64 (valV ((l.take q).drop k) : Nat)) (fun _ i => (intOf i + 1).toNat)
  case atStart => exact ⟨q, by omega, rfl, by rw [HE.out]; rfl⟩
  case round =>
    obtain ⟨k, hk, rfl, rfl⟩ := hrel
    by_cases h0 : 0 < k
    · obtain ⟨j, rfl⟩ : ∃ j, k = j + 1 := ⟨k - 1, by omega⟩
      have e1 := HB.out j (by omega)
      have e2 := HD.out j
      have e3 := HD.out (j + 1)
      have hcj := HCL.out j (by omega)
      have hj : ((j + 1 : Nat) : Int) - 1 = (j : Int) := by omega
      rw [hj]
      have HE1 := Go.Lib.hid e1
      have hb0 : 0 ≤ ((l.getD j 0).toNat : Int) := by omega
      have hb1 : (l.getD j 0).toNat < 256 := UInt8.toNat_lt _
      have hlt : valV ((l.take q).drop (j + 1)) * 128 + (l.getD j 0).toNat % 128 < 18446744073709551616 := by omega
      clear e1 e2 HB HD HCL H0 HE hc
      generalize (l.getD j 0).toNat = c at *
      generalize valV ((l.take q).drop (j + 1)) = v at *
      go_wp2
      go_round
      case rel => exact ⟨j, by omega, rfl, by rw [HE1.out]; go_num⟩
      case measure => simp [intOf]
    · obtain rfl : k = 0 := by omega
      rw [H0.out]
      clear HB HD HCL H0 HE h0
      generalize hd : decU l = d at *
      have hz : ∀ (A' : Option Addr) (n' c' : Nat), Rd w A' n' c' (l.drop q) → Old A' g → Rdr (w.setCell ⟨g, 0, none⟩ (.slice A' n' c')) 39 g (l.drop q) bad ∧ w.grownBy (w.setCell ⟨g, 0, none⟩ (.slice A' n' c')) (some g) := by
        intro A' n' c' hr' ho'
        have hg := grown_setCell (g := g) (a := w) ⟨rfl, rfl, rfl, Nat.le_refl _, fun _ _ _ => rfl⟩ 0 (.slice A' n' c')
        exact ⟨⟨_, _, _, two_set0 HH.out, hr'.grown hg hno, ho'⟩, hg⟩
      have HZ := Go.Lib.hid hz
      clear hz hd
      by_cases hcq : cap = q
      · rw [if_pos hcq] at hc
        have hn : n = q := by omega
        subst hn hcq
        simp only [Nat.sub_self] at hc
        by_cases ho : d % 2 = 1
        · have hb : ((d : Int) % 2 == 1) = true := by simp; omega
          have hval : -((d : Int) / 2) - 1 = numV l := by rw [← HV.out]; unfold unzig; rw [if_pos ho]; omega
          have HVAL := Go.Lib.hid hval
          clear hval ho HV
          go_wp2
          go_ret
          exact ⟨ret_int HVAL.out, HZ.out _ _ _ hc HO.out⟩
        · have hb : ((d : Int) % 2 == 1) = false := by simp; omega
          have hval : (d : Int) / 2 = numV l := by rw [← HV.out]; unfold unzig; rw [if_neg ho]; omega
          have HVAL := Go.Lib.hid hval
          clear hval ho HV
          go_wp2
          go_ret
          exact ⟨ret_int HVAL.out, HZ.out _ _ _ hc HO.out⟩
      · rw [if_neg hcq] at hc
        simp only [Option.map_some] at hc
        have hadd : (⟨b, o, none⟩ : Addr).add q = ⟨b, o + q, none⟩ := by unfold Addr.add; split <;> simp_all
        rw [hadd] at hc
        by_cases ho : d % 2 = 1
        · have hb : ((d : Int) % 2 == 1) = true := by simp; omega
          have hval : -((d : Int) / 2) - 1 = numV l := by rw [← HV.out]; unfold unzig; rw [if_pos ho]; omega
          have HVAL := Go.Lib.hid hval
          clear hval ho HV hadd
          go_wp2
          go_ret
          exact ⟨ret_int HVAL.out, HZ.out _ _ _ hc (fun a h => by cases h; exact HO.out ⟨b, o, none⟩ rfl)⟩
        · have hb : ((d : Int) % 2 == 1) = false := by simp; omega
          have hval : (d : Int) / 2 = numV l := by rw [← HV.out]; unfold unzig; rw [if_neg ho]; omega
          have HVAL := Go.Lib.hid hval
          clear hval ho HV hadd
          go_wp2
          go_ret
          exact ⟨ret_int HVAL.out, HZ.out _ _ _ hc (fun a h => by cases h; exact HO.out ⟨b, o, none⟩ rfl)⟩

theorem refNum_any (g : Nat) (l : List UInt8) (bad : Bool) (w : World) (h : Rdr w 39 g l bad) :
    Calls Try.prog 31 #[.pointer (some ⟨g, 0, none⟩)] w fun e w' => e = .returned (.int .i64 (numV l)) ∧ Rdr w' 39 g (numL l) (numB l bad) ∧ w.grownBy w' (some g) := by
  by_cases hl : lenV l = 0
  · have e1 : numV l = 0 := by unfold numV; rw [if_pos hl]
    have e2 : numL l = [] := by unfold numL; rw [if_pos hl]
    have e3 : numB l bad = true := by unfold numB; rw [if_pos hl]
    rw [e1, e2, e3]
    exact refNum_none g l bad w h hl
  · have e2 : numL l = l.drop (lenV l) := by unfold numL; rw [if_neg hl]
    have e3 : numB l bad = bad := by unfold numB; rw [if_neg hl]
    rw [e2, e3]
    exact refNum_some g l bad w h (by omega)

set_option maxRecDepth 100000 in
theorem refText_bad (g : Nat) (l : List UInt8) (bad : Bool) (w : World) (h : Rdr w 39 g l bad) (hn : ¬ textOk l) :
    Calls Try.prog 30 #[.pointer (some ⟨g, 0, none⟩)] w fun e w' => e = .returned (.string ByteArray.empty) ∧ Rdr w' 39 g [] true ∧ w.grownBy w' (some g) := by
  unfold textOk at hn
  generalize hv : numV l = v at *
  have HV := Go.Lib.hid hv
  clear hv
  go_enter Try.func30, Try.ntmps30
  go_wp2_with fail
  refine (refNum_any g l bad _ h).mono ?_
  rintro e w1 ⟨rfl, hr1, hg1⟩
  rw [HV.out]
  have H1 := Go.Lib.hid hr1
  obtain ⟨A, n, cap, hh, hr, ho⟩ := hr1
  have HO := Go.Lib.hid ho
  clear ho
  obtain ⟨c0, c1, hf⟩ := two_cell hh
  have hlen := hr.len
  rw [hlen] at hn
  clear hf hh hlen
  by_cases hv0 : v < 0
  · go_wp2_with (go_at_call 52; refine (refFail_any g _ _ _ H1.out).mono ?_; rintro e w' ⟨rfl, hr2, hg2⟩)
    go_ret
    exact ⟨rfl, hr2, hg1.trans hg2⟩
  · have hv1 : (n : Int) < v := by omega
    go_wp2_with (go_at_call 52; refine (refFail_any g _ _ _ H1.out).mono ?_; rintro e w' ⟨rfl, hr2, hg2⟩)
    go_ret
    exact ⟨rfl, hr2, hg1.trans hg2⟩

set_option maxRecDepth 100000 in
theorem refText_good (g : Nat) (l : List UInt8) (bad : Bool) (w : World) (h : Rdr w 39 g l bad) (hn : textOk l) :
    Calls Try.prog 30 #[.pointer (some ⟨g, 0, none⟩)] w fun e w' => e = .returned (.string ⟨((numL l).take (numV l).toNat).toArray⟩) ∧ Rdr w' 39 g ((numL l).drop (numV l).toNat) (numB l bad) ∧ w.grownBy w' (some g) := by
  unfold textOk at hn
  generalize hv : numV l = v at *
  have HV := Go.Lib.hid hv
  clear hv
  obtain ⟨hn0, hn1⟩ := hn
  obtain ⟨k, rfl⟩ := Int.eq_ofNat_of_zero_le hn0
  simp only [Int.toNat_natCast] at *
  generalize hl1 : numL l = l1 at *
  generalize hb1 : numB l bad = bad1 at *
  go_enter Try.func30, Try.ntmps30
  go_wp2_with fail
  refine (refNum_any g l bad _ h).mono ?_
  rintro e w1 ⟨rfl, hr1, hg1⟩
  rw [HV.out]
  rw [hl1, hb1] at hr1
  have hno := hr1.no_byte
  obtain ⟨A, n, cap, hh, hr, ho⟩ := hr1
  have HO := Go.Lib.hid ho
  clear ho
  obtain ⟨c0, c1, hf⟩ := two_cell hh
  have f0 := hf 0
  have HH := Go.Lib.hid hh
  have hlen := hr.len
  rw [hlen] at hn1
  have hkn : k ≤ n := by omega
  have hcap := hr.le_cap
  have hmax := hr.2.2.1
  unfold maxLen at hmax
  have hst := (hr.first hkn).string (P := Try.prog) 22 9 5 Try.underlying22 Try.underlying5 Try.underlying9
  have hc := hr.cut hkn
  clear hf hh hlen hl1 hb1
  go_wp2
  · go_ret
    rw [if_pos h] at hc
    have hg := grown_setCell (g := g) (a := w1) ⟨rfl, rfl, rfl, Nat.le_refl _, fun _ _ _ => rfl⟩ 0 (.slice A (n - k) (cap - k))
    have h0 : cap - k = 0 := by omega
    rw [h0] at hc hg
    exact ⟨rfl, ⟨_, _, _, two_set0 HH.out, hc.grown hg hno, HO.out⟩, hg1.trans hg⟩
  · go_ret
    rw [if_neg h] at hc
    have hg := grown_setCell (g := g) (a := w1) ⟨rfl, rfl, rfl, Nat.le_refl _, fun _ _ _ => rfl⟩ 0 (.slice (A.map (·.add k)) (n - k) (cap - k))
    exact ⟨rfl, ⟨_, _, _, two_set0 HH.out, hc.grown hg hno, HO.out.add _⟩, hg1.trans hg⟩

theorem refText_any (g : Nat) (l : List UInt8) (bad : Bool) (w : World) (h : Rdr w 39 g l bad) :
    Calls Try.prog 30 #[.pointer (some ⟨g, 0, none⟩)] w fun e w' => e = .returned (.string ⟨(textV l).toArray⟩) ∧ Rdr w' 39 g (textL l) (textB l bad) ∧ w.grownBy w' (some g) := by
  by_cases hl : textOk l
  · have e1 : textV l = (numL l).take (numV l).toNat := by unfold textV; rw [if_pos hl]
    have e2 : textL l = (numL l).drop (numV l).toNat := by unfold textL; rw [if_pos hl]
    have e3 : textB l bad = numB l bad := by unfold textB; rw [if_pos hl]
    rw [e1, e2, e3]
    exact refText_good g l bad w h hl
  · have e1 : textV l = [] := by unfold textV; rw [if_neg hl]
    have e2 : textL l = [] := by unfold textL; rw [if_neg hl]
    have e3 : textB l bad = true := by unfold textB; rw [if_neg hl]
    rw [e1, e2, e3]
    exact refText_bad g l bad w h hl

end Go.Proofs.Ytjglpmakjampjaa.NumWalk
