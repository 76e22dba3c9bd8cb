/-
  Joined texts: BtNum, EdConc, EvCat, NmTag, EvApiB, EdPut, EdEnc, EdPutE, EcSame, BtMath, WlMath, WlLog, DmOne, DkWords, DlMem, DlA, DlB, DlC, DlD.
-/
import Derived.Lib.AppendZerosOnto
import Derived.OneCell
import Derived.Deep.RegionHeld
import Derived.Lib.ConvBytes
import Derived.Maps.OwnOps
import Derived.WalkSpells
import Derived.Lib.SliceRun
import Derived.Test.YtppidbdkejkopaaGreatDoorMh3
namespace Go.Proofs.YtppidbdkejkopaaGreatDoor.BtWalk
open Go.RowKit MemRow Ev NameMath NameWalk EvWalk NumMath NumMem NumWalk EcWalk EdWalk
open Go.Lib (uvarint uvarint_small uvarint_big)
theorem val_pos : ∀ (l : List UInt8) (i : Nat), 0 < i → lenFrom i l ≠ 0 → 0 < valV (l.take (lenFrom i l - i))
  | [], i, _, h => by simp [lenFrom] at h
  | c :: r, i, h0, h => by
    by_cases h1 : 10 ≤ i
    · rw [lenFrom, if_pos h1] at h
      exact absurd rfl h
    · by_cases h2 : 128 ≤ c.toNat
      · rw [lenFrom, if_neg h1, if_pos h2] at h ⊢
        have hg := lenFrom_gt r (i + 1) h
        have ih := val_pos r (i + 1) (by omega) h
        have e : lenFrom (i + 1) r - i = (lenFrom (i + 1) r - (i + 1)) + 1 := by omega
        rw [e, List.take_succ_cons, valV]
        omega
      · by_cases h3 : (0 < i ∧ c.toNat = 0) ∨ (i = 9 ∧ 1 < c.toNat)
        · rw [lenFrom, if_neg h1, if_neg h2, if_pos h3] at h
          exact absurd rfl h
        · rw [lenFrom, if_neg h1, if_neg h2, if_neg h3]
          have e : i + 1 - i = 0 + 1 := by omega
          rw [e, List.take_succ_cons, valV]
          omega
theorem len_canon : ∀ (l : List UInt8) (i : Nat), lenFrom i l ≠ 0 → uvarint (valV (l.take (lenFrom i l - i))) = l.take (lenFrom i l - i)
  | [], i, h => by simp [lenFrom] at h
  | c :: r, i, h => by
    by_cases h1 : 10 ≤ i
    · rw [lenFrom, if_pos h1] at h
      exact absurd rfl h
    · by_cases h2 : 128 ≤ c.toNat
      · rw [lenFrom, if_neg h1, if_pos h2] at h ⊢
        have hg := lenFrom_gt r (i + 1) h
        have ih := len_canon r (i + 1) h
        have hp := val_pos r (i + 1) (by omega) h
        have e : lenFrom (i + 1) r - i = (lenFrom (i + 1) r - (i + 1)) + 1 := by omega
        rw [e, List.take_succ_cons, valV]
        generalize r.take (lenFrom (i + 1) r - (i + 1)) = t at *
        have hc : c.toNat < 256 := c.toNat_lt
        rw [uvarint_big (by omega)]
        have e1 : (c.toNat % 128 + 128 * valV t) % 128 + 128 = c.toNat := by omega
        have e2 : (c.toNat % 128 + 128 * valV t) / 128 = valV t := by omega
        rw [e1, e2, ih]
        congr 1
        exact UInt8.toNat_inj.1 (toU8 hc)
      · by_cases h3 : (0 < i ∧ c.toNat = 0) ∨ (i = 9 ∧ 1 < c.toNat)
        · rw [lenFrom, if_neg h1, if_neg h2, if_pos h3] at h
          exact absurd rfl h
        · rw [lenFrom, if_neg h1, if_neg h2, if_neg h3]
          have e : i + 1 - i = 0 + 1 := by omega
          have hc : c.toNat < 256 := c.toNat_lt
          rw [e, List.take_succ_cons, List.take_zero, valV, valV]
          have e1 : c.toNat % 128 + 128 * 0 = c.toNat := by omega
          rw [e1, uvarint_small (by omega)]
          congr 1
          exact UInt8.toNat_inj.1 (toU8 hc)
theorem num_canon {l : List UInt8} {b : Bool} (h : numB l b = false) : b = false ∧ l = enc (numV l) ++ numL l := by
  unfold numB at h
  by_cases h0 : lenV l = 0
  · rw [if_pos h0] at h
    cases h
  · rw [if_neg h0] at h
    refine ⟨h, ?_⟩
    have hc := len_canon l 0 h0
    have e : enc (numV l) = l.take (lenV l) := by
      unfold numV NumMath.enc
      rw [if_neg h0, zigzag_unzig]
      exact hc
    rw [e]
    unfold numL
    rw [if_neg h0, List.take_append_drop]
theorem num_bad {l : List UInt8} (h : numB l false = true) : numV l = 0 ∧ numL l = [] := by
  unfold numB at h
  by_cases h0 : lenV l = 0
  · unfold numV numL
    rw [if_pos h0, if_pos h0]
    exact ⟨rfl, rfl⟩
  · rw [if_neg h0] at h
    cases h
theorem text_canon {l : List UInt8} {b : Bool} (h : textB l b = false) : b = false ∧ l = txt (tx l) ++ textL l := by
  unfold textB at h
  by_cases h0 : textOk l
  · rw [if_pos h0] at h
    obtain ⟨h1, h2⟩ := num_canon h
    refine ⟨h1, ?_⟩
    unfold textOk at h0
    obtain ⟨k, hk⟩ := Int.eq_ofNat_of_zero_le h0.1
    have hkl : k ≤ (numL l).length := by omega
    have hs : (tx l).size = k := by
      unfold tx textV
      rw [if_pos (by unfold textOk; exact h0), hk]
      show ((numL l).take k).toArray.size = k
      rw [List.size_toArray, List.length_take]
      omega
    have hd : (tx l).data.toList = (numL l).take k := by
      unfold tx textV
      rw [if_pos (by unfold textOk; exact h0), hk]
      rfl
    have ht : textL l = (numL l).drop k := by
      unfold textL
      rw [if_pos (by unfold textOk; exact h0), hk]
      rfl
    rw [txt, hs, hd, ht, ← hk, List.append_assoc, List.take_append_drop]
    exact h2
  · rw [if_neg h0] at h
    cases h
theorem tags_canon : ∀ (k : Nat) (l : List UInt8) (b : Bool), (takeTags k l b).2.2 = false → b = false ∧ (takeTags k l b).1.length = k ∧ l = txts (takeTags k l b).1 ++ (takeTags k l b).2.1
  | 0, l, b, h => ⟨h, rfl, rfl⟩
  | k + 1, l, b, h => by
    cases b with
    | true =>
      rw [takeTags_stop (.inr rfl)] at h
      cases h
    | false =>
      rw [takeTags_go] at h ⊢
      obtain ⟨h1, h2, h3⟩ := tags_canon k (textL l) (textB l false) h
      obtain ⟨_, h4⟩ := text_canon h1
      refine ⟨rfl, by simp only [List.length_cons]; rw [h2], ?_⟩
      show l = txts (tx l :: _) ++ _
      have e : ∀ ts, txts (tx l :: ts) = txt (tx l) ++ txts ts := fun ts => by simp [txts]
      rw [e, List.append_assoc, ← h3]
      exact h4
theorem flds_canon : ∀ (k : Nat) (l : List UInt8) (b : Bool), (takeFlds k l b).2.2 = false → b = false ∧ (takeFlds k l b).1.length = k ∧ l = fldsE (takeFlds k l b).1 ++ (takeFlds k l b).2.1
  | 0, l, b, h => ⟨h, rfl, rfl⟩
  | k + 1, l, b, h => by
    cases b with
    | true =>
      rw [takeFlds_stop (.inr rfl)] at h
      cases h
    | false =>
      rw [takeFlds_go] at h ⊢
      obtain ⟨h1, h2, h3⟩ := flds_canon k (numL (textL l)) (numB (textL l) (textB l false)) h
      obtain ⟨h4, h5⟩ := num_canon h1
      obtain ⟨_, h6⟩ := text_canon h4
      refine ⟨rfl, by simp only [List.length_cons]; rw [h2], ?_⟩
      show l = fldsE ((tx l, numV (textL l)) :: _) ++ _
      have e : ∀ fs, fldsE ((tx l, numV (textL l)) :: fs) = txt (tx l) ++ (enc (numV (textL l)) ++ fldsE fs) := fun fs => by simp [fldsE, fldE]
      rw [e, List.append_assoc, List.append_assoc, ← h3, ← h5]
      exact h6
theorem takeE_canon {l l' : List UInt8} {b : Bool} {e : Ev} (h : takeE l b = some (e, l')) : b = false ∧ mayE e = 0 ∧ l = encE e ++ l' := by
  unfold takeE at h
  simp only at h
  split at h
  · cases h
  · next hx =>
    split at h
    · cases h
    · next hy =>
      simp only [Option.some.injEq, Prod.mk.injEq] at h
      obtain ⟨h1, h2⟩ := h
      have hm : mayE e = 0 := by
        rw [← h1]
        exact Classical.byContradiction fun hc => hy (.inr (.inr hc))
      have sm := may_smallE hm
      generalize hT : takeTags (min (numV (textL (textL l))) 7).toNat (numL (textL (textL l))) (numB (textL (textL l)) (textB (textL l) (textB l b))) = tg at *
      generalize hF : takeFlds (min (numV tg.2.1) 5).toNat (numL tg.2.1) (numB tg.2.1 tg.2.2) = fl at *
      have hb : fl.2.2 = false := by
        cases hc : fl.2.2 with
        | false => rfl
        | true => exact absurd (.inr (.inl hc)) hy
      have f1 := flds_canon (min (numV tg.2.1) 5).toNat (numL tg.2.1) (numB tg.2.1 tg.2.2) (by rw [hF]; exact hb)
      rw [hF] at f1
      obtain ⟨g1, g2⟩ := num_canon f1.1
      have t1 := tags_canon (min (numV (textL (textL l))) 7).toNat (numL (textL (textL l))) (numB (textL (textL l)) (textB (textL l) (textB l b))) (by rw [hT]; exact g1)
      rw [hT] at t1
      obtain ⟨m1, m2⟩ := num_canon t1.1
      obtain ⟨p1, p2⟩ := text_canon m1
      obtain ⟨q1, q2⟩ := text_canon p1
      refine ⟨q1, hm, ?_⟩
      have n1 : ((tg.1.length : Nat) : Int) = numV (textL (textL l)) := by rw [t1.2.1]; omega
      have hnf : fl.1.length ≤ 4 := by
        have := sm.nf
        rw [← h1] at this
        exact this
      have hy0 : ¬ numV tg.2.1 < 0 := fun hc => hy (.inl hc)
      have n2 : ((fl.1.length : Nat) : Int) = numV tg.2.1 := by
        have := f1.2.1
        omega
      rw [← h1, ← h2, encE]
      simp only
      rw [n1, n2]
      have e1 : l = txt (tx l) ++ (txt (tx (textL l)) ++ (enc (numV (textL (textL l))) ++ (txts tg.1 ++ (enc (numV tg.2.1) ++ (fldsE fl.1 ++ fl.2.1))))) := by
        rw [← f1.2.2, ← g2, ← t1.2.2, ← m2, ← p2, ← q2]
      simp only [List.append_assoc]
      exact e1
end Go.Proofs.YtppidbdkejkopaaGreatDoor.BtWalk
namespace Go.Proofs.YtppidbdkejkopaaGreatDoor.EdWalk
open Go.RowKit NumMath NumMem NumWalk
theorem u8_info_one : ∃ i, Tryz.prog.info? 5 = some i ∧ i.zero = some (.int .u8 0) ∧ i.size = 1 ∧ i.bytes = 1 := by
  have hi := u8_info
  cases hq : Tryz.prog.info? 5 with
  | none => simp [hq] at hi
  | some i => simp [hq] at hi; exact ⟨i, rfl, hi.1, hi.2.1, hi.2.2⟩
set_option maxHeartbeats 2000000 in
set_option maxRecDepth 100000 in
theorem grow_any (n : Nat) (w : World) (h0 : 0 < n) (hn : n ≤ 140737488355328) :
    Calls Tryz.prog 118 #[.slice none 0 0, .int .i64 n] w fun e w' => ∃ cap, e = .returned (.slice (some ⟨w.heap.size, 0, none⟩) 0 cap) ∧ Own w' w.heap.size 5 (some ⟨w.heap.size, 0, none⟩) 0 cap [] ∧ Below w.heap.size w w' := by
  obtain ⟨i, g1, g2, g3, g4⟩ := u8_info_one
  have hrz : ∀ ty, (Builtin.append_ #[58, 3] ty #[.slice none 0 0, .int .i64 n]).run Tryz.prog w = .ok (.slice (some ⟨w.heap.size, 0, none⟩) n (grownCap w n 0 5)) (w.drew.alloc (.cells (#[] ++ Builtin.zeroCells #[.int .u8 0] n ++ Builtin.zeroCells #[.int .u8 0] (grownCap w n 0 5 - n)) 5)) := fun ty => by
    have h := Lib.run_append_grow_zeros (P := Tryz.prog) w 58 3 ty 5 i (.int .u8 0) .i64 .i64 Tryz.underlying58 Tryz.underlying3 g1 g2 none 0 0 [] (by simp [Builtin.firstCells]) n h0 (by omega) (by omega) (by omega) (by rw [g4]; omega) (by
      rw [Nat.zero_add, g4]
      exact growslice_fits h0 (by omega))
    rw [Nat.zero_add] at h
    exact h
  have hge := grownCap_ge w n 0 5
  have hle := grownCap_le_maxLen w n 0 5 (by unfold maxLen; omega)
  obtain ⟨G, hG⟩ : ∃ G, G = grownCap w n 0 5 := ⟨_, rfl⟩
  rw [← hG] at hrz hge hle
  have own : Own (w.alloc (.cells (Builtin.zeroCells #[.int .u8 0] n ++ Builtin.zeroCells #[.int .u8 0] (G - n)) 5)).drew w.heap.size 5 (some ⟨w.heap.size, 0, none⟩) 0 G [] :=
    ⟨by simp [cellsOf], .inr ⟨w.heap.size, G, _, rfl, Nat.le_refl _, heap_alloc_new w _, Nat.zero_le _, hle, by simp only [Array.size_append, size_zeroCells]; simp; omega, by simp [cellsOf]⟩⟩
  have OWN := Go.Lib.hid own
  have bel : Below w.heap.size w (w.alloc (.cells (Builtin.zeroCells #[.int .u8 0] n ++ Builtin.zeroCells #[.int .u8 0] (G - n)) 5)).drew :=
    let h := (Below.refl w.heap.size w).alloc (Nat.le_refl _) (.cells (Builtin.zeroCells #[.int .u8 0] n ++ Builtin.zeroCells #[.int .u8 0] (G - n)) 5)
    ⟨h.os, h.tape, h.output, h.size, h.block⟩
  have BEL := Go.Lib.hid bel
  clear own bel hG
  unfold maxLen at hle
  go_enter Tryz.func118, Tryz.ntmps118
  go_wp2_with (at_builtin; refine Lib.wpList_append_run _ rfl _ _ _ _ rfl _ _ rfl rfl _ _ (hrz _) ?_)
  go_ret
  exact ⟨G, rfl, OWN.out, BEL.out⟩
set_option maxHeartbeats 4000000 in
set_option maxRecDepth 100000 in
theorem concat_any (g : Nat) (A B : Option Addr) (n ca m cb : Nat) (l k : List UInt8) (w : World) (c0 : w.cell? ⟨g, 0, none⟩ = some (.slice A n ca)) (c1 : w.cell? ⟨g, 1, none⟩ = some (.slice B m cb)) (hl : Rd w A n ca l) (hk : Rd w B m cb k) (h0 : 0 < n + m) (hs : n + m ≤ 1000000000) :
    Calls Tryz.prog 82 #[.slice (some ⟨g, 0, none⟩) 2 2] w fun e w' => ∃ A' c', e = .returned (.slice A' (n + m) c') ∧ Own w' w.heap.size 5 A' (n + m) c' (l ++ k) ∧ Below w.heap.size w w' := by
  go_enter Tryz.func82, Tryz.ntmps82
  go_wp2_with fail
  go_loopw [3, 5, 11] (fun sz _ i wr => ∃ j : Nat, j ≤ 2 ∧ i = .int .i64 j ∧ sz = .int .i64 ((if j = 0 then 0 else if j = 1 then n else n + m : Nat) : Int) ∧ w = wr) (fun _ _ i _ => 2 - (intOf i).toNat)
  case atStart => exact ⟨0, by omega, rfl, rfl, rfl⟩
  case round =>
    obtain ⟨j, hj, rfl, rfl, rfl⟩ := hrel
    obtain rfl | rfl | rfl : j = 0 ∨ j = 1 ∨ j = 2 := by omega
    · go_wp2_with fail
      go_roundw
      case rel => exact ⟨1, by omega, by go_num, by simp⟩
      case measure => simp [intOf]
    · go_wp2_with fail
      go_roundw
      case rel => exact ⟨2, by omega, by go_num, by simp⟩
      case measure => simp [intOf]
    · have e2 : (if (2 : Nat) = 0 then 0 else if (2 : Nat) = 1 then n else n + m) = n + m := rfl
      rw [e2]
      clear e2
      have ob : ∀ W, Below w.heap.size w W → W.cell? ⟨g, 0, none⟩ = some (.slice A n ca) ∧ W.cell? ⟨g, 1, none⟩ = some (.slice B m cb) ∧ Rd W A n ca l ∧ Rd W B m cb k := fun W h =>
        ⟨(h.cell (p := ⟨g, 0, none⟩) (World.block_lt_of_cell? w _ c0)).trans c0, (h.cell (p := ⟨g, 1, none⟩) (World.block_lt_of_cell? w _ c1)).trans c1, hl.below h, hk.below h⟩
      have OB := Go.Lib.hid ob
      have HL := Go.Lib.hid hl.len
      have HK := Go.Lib.hid hk.len
      clear ob c0 c1 hl hk
      go_wp2_with fail
      have cg := grow_any (n + m) w h0 (by omega)
      rw [show ((n + m : Nat) : Int) = (n : Int) + (m : Int) from by omega] at cg
      refine cg.mono ?_
      rintro e w2 ⟨cap, rfl, o2, b2⟩
      clear cg
      go_wp2_with fail
      go_loopw [6, 8, 27] (fun ns _ i wr => ∃ (j : Nat) (A' : Option Addr) (c' : Nat) (q : Nat) (x : List UInt8), j ≤ 2 ∧ i = .int .i64 j ∧ ns = .slice A' q c' ∧ Hid (q = (if j = 0 then 0 else if j = 1 then n else n + m) ∧ x = (if j = 0 then [] else if j = 1 then l else l ++ k)) ∧ Own wr w.heap.size 5 A' q c' x ∧ Below w.heap.size w wr) (fun _ _ i _ => 2 - (intOf i).toNat)
      case atStart => exact ⟨0, _, _, 0, [], by omega, rfl, rfl, Go.Lib.hid ⟨rfl, rfl⟩, o2, b2⟩
      case round =>
        obtain ⟨j, A', c', q, x, hj, rfl, rfl, HQ, oq, bq⟩ := hrel
        obtain ⟨k0, k1, r0, r1⟩ := OB.out wr bq
        clear o2 b2
        obtain rfl | rfl | rfl : j = 0 ∨ j = 1 ∨ j = 2 := by omega
        · have hq : q = 0 := HQ.out.1
          have hx : x = [] := HQ.out.2
          clear HQ
          rw [hq, hx] at oq
          rw [hq]
          clear hq hx
          have hsz : 0 + n ≤ 140737488355328 := by omega
          have bs := bq.size
          go_wp2_with (at_builtin; refine wpList_append_more rfl (.tmp 31) (.tmp 32) 58 rfl 5 Tryz.underlying58 u8_info rfl rfl oq r0 hsz bs w bq ?_; intro A3 c3 w3 o3 b3)
          go_roundw
          case rel => exact ⟨1, A3, c3, _, _, by omega, rfl, by simp, Go.Lib.hid ⟨rfl, rfl⟩, by simpa using o3, b3⟩
          case measure => simp [intOf]
        · have hq : q = n := HQ.out.1
          have hx : x = l := HQ.out.2
          clear HQ
          rw [hq, hx] at oq
          rw [hq]
          clear hq hx
          have hsz : n + m ≤ 140737488355328 := by omega
          have bs := bq.size
          go_wp2_with (at_builtin; refine wpList_append_more rfl (.tmp 31) (.tmp 32) 58 rfl 5 Tryz.underlying58 u8_info rfl rfl oq r1 hsz bs w bq ?_; intro A3 c3 w3 o3 b3)
          go_roundw
          case rel => exact ⟨2, A3, c3, _, _, by omega, rfl, by simp, Go.Lib.hid ⟨rfl, rfl⟩, o3, b3⟩
          case measure => simp [intOf]
        · have hq : q = n + m := HQ.out.1
          have hx : x = l ++ k := HQ.out.2
          clear HQ
          rw [hq, hx] at oq
          rw [hq]
          clear hq hx
          go_wp2_with fail
          go_ret
          exact ⟨A', c', rfl, oq, bq⟩
end Go.Proofs.YtppidbdkejkopaaGreatDoor.EdWalk
namespace Go.Proofs.YtppidbdkejkopaaGreatDoor.EvWalk
open Go.RowKit MemRow Ev NameMath NameWalk
theorem any_miss {α : Type} {p : α → Bool} {l : List α} {j : Nat} {d : α} (hj : j < l.length) (h : (l.take j).any p = false) (hp : p (l.getD j d) = false) : (l.take (j + 1)).any p = false := by
  rw [List.take_succ_eq_append_getElem hj, List.any_append, h]
  simp only [List.getD, List.getElem?_eq_getElem hj, Option.getD_some] at hp
  simp [hp]
theorem any_hit {α : Type} {p : α → Bool} {l : List α} {j : Nat} {d : α} (hj : j < l.length) (hp : p (l.getD j d) = true) : l.any p = true := by
  simp only [List.getD, List.getElem?_eq_getElem hj, Option.getD_some] at hp
  rw [List.any_eq_true]
  exact ⟨_, List.getElem_mem hj, hp⟩
theorem dec_ge0 (j : Nat) : decide ((0 : Int) ≤ (j : Int)) = true := decide_eq_true (by omega)
def Found (b : Bool) (e : Ending) : Prop := ∃ i : Int, e = .returned (.int .i64 i) ∧ decide (0 ≤ i) = b
def PredS (g : Nat) (p : ByteArray → Bool) (ss : List ByteArray) (w : World) : Prop :=
  ∀ W, Below w.heap.size w W → ∀ x ∈ ss, Calls Tryz.prog g #[.string x] W fun e W' => e = .returned (.bool (p x)) ∧ Below W.heap.size W W'
def PredF (g : Nat) (p : ByteArray × Int → Bool) (fs : List (ByteArray × Int)) (w : World) : Prop :=
  ∀ W, Below w.heap.size w W → ∀ x ∈ fs, Calls Tryz.prog g #[.agg #[.string x.1, .int .i64 x.2]] W fun e W' => e = .returned (.bool (p x)) ∧ Below W.heap.size W W'
set_option maxHeartbeats 4000000 in
set_option maxRecDepth 100000 in
theorem idxFuncS_any (A : Option Addr) (n ca : Nat) (ss : List ByteArray) (g : Nat) (p : ByteArray → Bool) (w : World) (ha : RdS w A n ca ss) (eg : ∀ args w, (callFunc g args).run Tryz.prog w = .ok (.enter g args) w) (hp : PredS g p ss w) :
    Calls Tryz.prog 171 #[.slice A n ca, .func (.func g) #[] #[]] w fun e w' => Found (ss.any p) e ∧ Below w.heap.size w w' := by
  have hn := RdC.le ha
  unfold maxLen at hn
  have la := ha.len
  generalize hR : ss.any p = R
  have HR := Go.Lib.hid hR
  have LA := Go.Lib.hid la
  have HP := Go.Lib.hid hp
  clear hR la hp
  go_enter Tryz.func171, Tryz.ntmps171
  go_wp2_with fail
  go_loopw [5, 8] (fun _ i wr => ∃ j : Nat, j ≤ n ∧ i = .int .i64 j ∧ (ss.take j).any p = false ∧ Below w.heap.size w wr) (fun _ i _ => n - (intOf i).toNat)
  case atStart => exact ⟨0, Nat.zero_le _, rfl, rfl, Below.refl _ _⟩
  case round =>
    obtain ⟨j, hj, rfl, hq, hb⟩ := hrel
    have HQ := Go.Lib.hid hq
    clear hq
    have a1 := RdC.below ha hb
    by_cases hlt : j < n
    · obtain ⟨ba, oa, rfl, _, ka⟩ := RdS.at_ a1 (by omega)
      have ka1 := ka j hlt
      have i1 : (j : Int) < n := by omega
      have hjl : j < ss.length := by rw [LA.out]; exact hlt
      have HM := Go.Lib.hid (fun h => any_miss (p := p) (d := ByteArray.empty) hjl HQ.out h)
      have HH := Go.Lib.hid (fun h => any_hit (p := p) (d := ByteArray.empty) hjl h)
      have c := Go.Lib.hid (HP.out wr hb _ (mem_getD ss j hjl))
      clear ka hjl a1
      generalize hy : ss.getD j ByteArray.empty = y at *
      clear hy
      cases hpy : p y with
      | true =>
        have hR : R = true := by rw [← HR.out]; exact HH.out hpy
        subst hR
        rw [hpy] at c
        clear HM HH hpy
        go_wp2_with (refine (c.out).mono ?_; rintro e w1 ⟨rfl, b1⟩)
        go_ret
        exact ⟨⟨j, rfl, dec_ge0 j⟩, below_chain hb b1⟩
      | false =>
        rw [hpy] at c
        have HN := Go.Lib.hid (HM.out hpy)
        clear HM HH hpy
        go_wp2_with (refine (c.out).mono ?_; rintro e w1 ⟨rfl, b1⟩)
        go_roundw
        case rel => exact ⟨j + 1, by omega, by go_num, HN.out, below_chain hb b1⟩
        case measure => simp [intOf]; omega
    · obtain rfl : n = j := by omega
      have hR : R = false := by
        rw [← HR.out]
        have h1 := HQ.out
        rwa [List.take_of_length_le (by rw [LA.out]; exact Nat.le_refl _)] at h1
      subst hR
      go_wp2_with fail
      go_ret
      exact ⟨⟨-1, rfl, by decide⟩, hb⟩
set_option maxHeartbeats 2000000 in
set_option maxRecDepth 100000 in
theorem hasFuncS_any (A : Option Addr) (n ca : Nat) (ss : List ByteArray) (g : Nat) (p : ByteArray → Bool) (w : World) (ha : RdS w A n ca ss) (eg : ∀ args w, (callFunc g args).run Tryz.prog w = .ok (.enter g args) w) (hp : PredS g p ss w) :
    Calls Tryz.prog 137 #[.slice A n ca, .func (.func g) #[] #[]] w fun e w' => e = .returned (.bool (ss.any p)) ∧ Below w.heap.size w w' := by
  have c := Go.Lib.hid (idxFuncS_any A n ca ss g p w ha eg hp)
  clear ha eg hp
  generalize ss.any p = R at c ⊢
  go_enter Tryz.func137, Tryz.ntmps137
  go_wp2_with (refine (c.out).mono ?_; rintro e w' ⟨⟨i, rfl, rfl⟩, b1⟩)
  go_ret
  exact ⟨rfl, b1⟩
set_option maxHeartbeats 4000000 in
set_option maxRecDepth 100000 in
theorem idxFuncF_any (A : Option Addr) (n ca : Nat) (fs : List (ByteArray × Int)) (g : Nat) (p : ByteArray × Int → Bool) (w : World) (ha : RdF w A n ca fs) (eg : ∀ args w, (callFunc g args).run Tryz.prog w = .ok (.enter g args) w) (hp : PredF g p fs w) :
    Calls Tryz.prog 173 #[.slice A n ca, .func (.func g) #[] #[]] w fun e w' => Found (fs.any p) e ∧ Below w.heap.size w w' := by
  have hn := RdC.le ha
  unfold maxLen at hn
  have la := ha.len
  generalize hR : fs.any p = R
  have HR := Go.Lib.hid hR
  have LA := Go.Lib.hid la
  have HP := Go.Lib.hid hp
  clear hR la hp
  go_enter Tryz.func173, Tryz.ntmps173
  go_wp2_with fail
  go_loopw [5, 8] (fun _ i wr => ∃ j : Nat, j ≤ n ∧ i = .int .i64 j ∧ (fs.take j).any p = false ∧ Below w.heap.size w wr) (fun _ i _ => n - (intOf i).toNat)
  case atStart => exact ⟨0, Nat.zero_le _, rfl, rfl, Below.refl _ _⟩
  case round =>
    obtain ⟨j, hj, rfl, hq, hb⟩ := hrel
    have HQ := Go.Lib.hid hq
    clear hq
    have a1 := RdC.below ha hb
    by_cases hlt : j < n
    · obtain ⟨ba, oa, rfl, _, ka⟩ := RdF.at_ a1 (by omega)
      obtain ⟨ka1, ka2⟩ := ka j hlt
      have i1 : (j : Int) < n := by omega
      have hjl : j < fs.length := by rw [LA.out]; exact hlt
      have HM := Go.Lib.hid (fun h => any_miss (p := p) (d := (ByteArray.empty, (0 : Int))) hjl HQ.out h)
      have HH := Go.Lib.hid (fun h => any_hit (p := p) (d := (ByteArray.empty, (0 : Int))) hjl h)
      have c := Go.Lib.hid (HP.out wr hb _ (fs_mem fs j hjl))
      clear ka hjl a1
      generalize hy : fs.getD j (ByteArray.empty, 0) = y at *
      clear hy
      obtain ⟨y, z⟩ := y
      simp only at ka1 ka2 c
      cases hpy : p (y, z) with
      | true =>
        have hR : R = true := by rw [← HR.out]; exact HH.out hpy
        subst hR
        rw [hpy] at c
        clear HM HH hpy
        go_wp2_with (refine (c.out).mono ?_; rintro e w1 ⟨rfl, b1⟩)
        go_ret
        exact ⟨⟨j, rfl, dec_ge0 j⟩, below_chain hb b1⟩
      | false =>
        rw [hpy] at c
        have HN := Go.Lib.hid (HM.out hpy)
        clear HM HH hpy
        go_wp2_with (refine (c.out).mono ?_; rintro e w1 ⟨rfl, b1⟩)
        go_roundw
        case rel => exact ⟨j + 1, by omega, by go_num, HN.out, below_chain hb b1⟩
        case measure => simp [intOf]; omega
    · obtain rfl : n = j := by omega
      have hR : R = false := by
        rw [← HR.out]
        have h1 := HQ.out
        rwa [List.take_of_length_le (by rw [LA.out]; exact Nat.le_refl _)] at h1
      subst hR
      go_wp2_with fail
      go_ret
      exact ⟨⟨-1, rfl, by decide⟩, hb⟩
set_option maxHeartbeats 2000000 in
set_option maxRecDepth 100000 in
theorem hasFuncF_any (A : Option Addr) (n ca : Nat) (fs : List (ByteArray × Int)) (g : Nat) (p : ByteArray × Int → Bool) (w : World) (ha : RdF w A n ca fs) (eg : ∀ args w, (callFunc g args).run Tryz.prog w = .ok (.enter g args) w) (hp : PredF g p fs w) :
    Calls Tryz.prog 140 #[.slice A n ca, .func (.func g) #[] #[]] w fun e w' => e = .returned (.bool (fs.any p)) ∧ Below w.heap.size w w' := by
  have c := Go.Lib.hid (idxFuncF_any A n ca fs g p w ha eg hp)
  clear ha eg hp
  generalize fs.any p = R at c ⊢
  go_enter Tryz.func140, Tryz.ntmps140
  go_wp2_with (refine (c.out).mono ?_; rintro e w' ⟨⟨i, rfl, rfl⟩, b1⟩)
  go_ret
  exact ⟨rfl, b1⟩
end Go.Proofs.YtppidbdkejkopaaGreatDoor.EvWalk
namespace Go.Proofs.YtppidbdkejkopaaGreatDoor.NameWalk
open Go.RowKit NameMath
set_option maxRecDepth 100000 in
theorem mayTag_any (s : ByteArray) (w : World) (hs : s.size ≤ 9223372036854775807) :
    Calls Tryz.prog 139 #[.string s] w fun e w' => e = .returned (.bool (parts s.data.toList).2.2) ∧ Below w.heap.size w w' := by
  have hc := parts_any s w hs
  generalize parts s.data.toList = p at *
  go_enter Tryz.func139, Tryz.ntmps139
  go_wp2_with (go_at_call 172; refine hc.mono ?_; rintro e w' ⟨rfl, b1⟩)
  go_ret
  exact ⟨rfl, b1⟩
end Go.Proofs.YtppidbdkejkopaaGreatDoor.NameWalk
namespace Go.Proofs.YtppidbdkejkopaaGreatDoor.EvWalk
open Go.RowKit MemRow Ev NameMath NameWalk
theorem any_not {α : Type} (l : List α) (p : α → Bool) : (!(l.any fun x => !p x)) = l.all p := by
  induction l with
  | nil => rfl
  | cons a l ih => simp only [List.any_cons, List.all_cons, ← ih, Bool.not_or, Bool.not_not]
theorem name_told {s : ByteArray} (hs : s.size ≤ maxLen) (w : World) :
    Calls Tryz.prog 106 #[.string s] w fun e w' => e = .returned (.bool (nameB s)) ∧ Below w.heap.size w w' := by
  unfold maxLen at hs
  exact may_any s w (by omega)
set_option maxHeartbeats 2000000 in
set_option maxRecDepth 100000 in
theorem notTag_any (s : ByteArray) (w : World) (hs : s.size ≤ maxLen) :
    Calls Tryz.prog 138 #[.string s] w fun e w' => e = .returned (.bool (!tagB s)) ∧ Below w.heap.size w w' := by
  unfold maxLen at hs
  have c0 : Calls Tryz.prog 139 #[.string s] w fun e w' => e = .returned (.bool (tagB s)) ∧ Below w.heap.size w w' := mayTag_any s w (by omega)
  have c := Go.Lib.hid c0
  clear c0
  generalize tagB s = b at *
  go_enter Tryz.func138, Tryz.ntmps138
  go_wp2_with (refine (c.out).mono ?_; rintro e w' ⟨rfl, b1⟩)
  go_ret
  exact ⟨rfl, b1⟩
set_option maxHeartbeats 2000000 in
set_option maxRecDepth 100000 in
theorem areTags_any (A : Option Addr) (n ca : Nat) (ss : List ByteArray) (w : World) (ha : RdS w A n ca ss) (hz : ∀ x ∈ ss, x.size ≤ maxLen) :
    Calls Tryz.prog 107 #[.slice A n ca] w fun e w' => e = .returned (.bool (ss.all tagB)) ∧ Below w.heap.size w w' := by
  have c := Go.Lib.hid (hasFuncS_any A n ca ss 138 (fun s => !tagB s) w ha (enters_of Tryz.func138 (by kernel_rfl) rfl) (fun W _ x hx => notTag_any x W (hz x hx)))
  have h := any_not ss tagB
  rw [← h]
  clear ha hz h
  generalize ss.any (fun s => !tagB s) = R at c ⊢
  go_enter Tryz.func107, Tryz.ntmps107
  go_wp2_with (refine (c.out).mono ?_; rintro e w' ⟨rfl, b1⟩)
  go_ret
  exact ⟨rfl, b1⟩
set_option maxHeartbeats 2000000 in
set_option maxRecDepth 100000 in
theorem notNamed_any (f : ByteArray × Int) (w : World) (hs : f.1.size ≤ maxLen) :
    Calls Tryz.prog 141 #[.agg #[.string f.1, .int .i64 f.2]] w fun e w' => e = .returned (.bool (!nameB f.1)) ∧ Below w.heap.size w w' := by
  obtain ⟨s, z⟩ := f
  simp only at hs ⊢
  have b0 : Below w.heap.size w (w.alloc (.cells #[.string s, .int .i64 z] 132)) := (Below.refl _ _).alloc (Nat.le_refl _) _
  have c := Go.Lib.hid (name_told hs (w.alloc (.cells #[.string s, .int .i64 z] 132)))
  generalize nameB s = b at *
  go_enter Tryz.func141, Tryz.ntmps141
  go_wp2_with (refine (c.out).mono ?_; rintro e w' ⟨rfl, b1⟩)
  go_ret
  exact ⟨rfl, below_chain b0 b1⟩
set_option maxHeartbeats 2000000 in
set_option maxRecDepth 100000 in
theorem areNamed_any (A : Option Addr) (n ca : Nat) (fs : List (ByteArray × Int)) (w : World) (ha : RdF w A n ca fs) (hz : ∀ x ∈ fs, x.1.size ≤ maxLen) :
    Calls Tryz.prog 108 #[.slice A n ca] w fun e w' => e = .returned (.bool (fs.all fun f => nameB f.1)) ∧ Below w.heap.size w w' := by
  have c := Go.Lib.hid (hasFuncF_any A n ca fs 141 (fun f => !nameB f.1) w ha (enters_of Tryz.func141 (by kernel_rfl) rfl) (fun W _ x hx => notNamed_any x W (hz x hx)))
  have h := any_not fs (fun f => nameB f.1)
  rw [← h]
  clear ha hz h
  generalize fs.any (fun f => !nameB f.1) = R at c ⊢
  go_enter Tryz.func108, Tryz.ntmps108
  go_wp2_with (refine (c.out).mono ?_; rintro e w' ⟨rfl, b1⟩)
  go_ret
  exact ⟨rfl, b1⟩
set_option maxHeartbeats 2000000 in
set_option maxRecDepth 100000 in
theorem notFit_any (f : ByteArray × Int) (w : World) :
    Calls Tryz.prog 145 #[.agg #[.string f.1, .int .i64 f.2]] w fun e w' => e = .returned (.bool (!fitB f)) ∧ Below w.heap.size w w' := by
  obtain ⟨s, z⟩ := f
  have b0 : Below w.heap.size w (w.alloc (.cells #[.string s, .int .i64 z] 132)) := (Below.refl _ _).alloc (Nat.le_refl _) _
  generalize hR : (!fitB (s, z)) = R
  unfold fitB at hR
  simp only at hR ⊢
  by_cases h1 : z < -1099511627776
  · have hR : R = true := by rw [← hR, decide_eq_false (by omega)]; rfl
    subst hR
    go_enter Tryz.func145, Tryz.ntmps145
    go_wp2_with fail
    go_ret
    exact ⟨rfl, b0⟩
  · by_cases h2 : 1099511627776 < z
    · have hR : R = true := by rw [← hR, decide_eq_false (by omega)]; rfl
      subst hR
      go_enter Tryz.func145, Tryz.ntmps145
      go_wp2_with fail
      go_ret
      exact ⟨rfl, b0⟩
    · have hR : R = false := by rw [← hR, decide_eq_true (by omega)]; rfl
      subst hR
      go_enter Tryz.func145, Tryz.ntmps145
      go_wp2_with fail
      go_ret
      exact ⟨rfl, b0⟩
set_option maxHeartbeats 2000000 in
set_option maxRecDepth 100000 in
theorem areFit_any (A : Option Addr) (n ca : Nat) (fs : List (ByteArray × Int)) (w : World) (ha : RdF w A n ca fs) :
    Calls Tryz.prog 111 #[.slice A n ca] w fun e w' => e = .returned (.bool (fs.all fitB)) ∧ Below w.heap.size w w' := by
  have c := Go.Lib.hid (hasFuncF_any A n ca fs 145 (fun f => !fitB f) w ha (enters_of Tryz.func145 (by kernel_rfl) rfl) (fun W _ x _ => notFit_any x W))
  have h := any_not fs fitB
  rw [← h]
  clear ha h
  generalize fs.any (fun f => !fitB f) = R at c ⊢
  go_enter Tryz.func111, Tryz.ntmps111
  go_wp2_with (refine (c.out).mono ?_; rintro e w' ⟨rfl, b1⟩)
  go_ret
  exact ⟨rfl, b1⟩
set_option maxHeartbeats 4000000 in
set_option maxRecDepth 100000 in
theorem rise_any (n : Nat) (ss : List ByteArray) (g : Nat) (p : Value) (w : World) (la : ss.length = n) (hn : n ≤ maxLen) (eg : ∀ args w, (callFunc g args).run Tryz.prog w = .ok (.enter g args) w)
    (hk : ∀ W, Below w.heap.size w W → ∀ i : Nat, i < n → Calls Tryz.prog g #[.int .i64 (i : Int), p] W fun e W' => e = .returned (.string (ss.getD i ByteArray.empty)) ∧ Below W.heap.size W W') :
    Calls Tryz.prog 142 #[.int .i64 (n : Int), .func (.func g) #[] #[p]] w fun e w' => e = .returned (.bool (riseB ss)) ∧ Below w.heap.size w w' := by
  unfold maxLen at hn
  generalize hR : riseB ss = R
  have HR := Go.Lib.hid hR
  have LA := Go.Lib.hid la
  have HK := Go.Lib.hid hk
  clear hR la hk
  go_enter Tryz.func142, Tryz.ntmps142
  go_wp2_with fail
  go_loopw [5] (fun i wr => ∃ j : Nat, j + 1 ≤ max n 1 ∧ i = .int .i64 ((j + 1 : Nat) : Int) ∧ riseB (ss.take (j + 1)) = true ∧ Below w.heap.size w wr) (fun i _ => n - (intOf i).toNat)
  case atStart =>
    refine ⟨0, by omega, rfl, ?_, Below.refl _ _⟩
    cases ss with
    | nil => rfl
    | cons a l => simp [riseB]
  case round =>
    obtain ⟨j, hj, rfl, hq, hb⟩ := hrel
    have HQ := Go.Lib.hid hq
    clear hq
    have e1 : ((j + 1 : Nat) : Int) = (j : Int) + 1 := by omega
    by_cases hlt : j + 1 < n
    · have i1 : (j : Int) + 1 < n := by omega
      have c1 := HK.out wr hb j (by omega)
      have c2 : ∀ W, Below w.heap.size w W → Calls Tryz.prog g #[.int .i64 ((j : Int) + 1), p] W fun e W' => e = .returned (.string (ss.getD (j + 1) ByteArray.empty)) ∧ Below W.heap.size W W' := fun W h => by
        have := HK.out W h (j + 1) hlt
        rwa [e1] at this
      have ta := take_two ss j (by rw [LA.out]; exact hlt)
      have tb := take_get ss j (by rw [LA.out]; omega)
      have TA := Go.Lib.hid ta
      have TB := Go.Lib.hid tb
      clear ta tb
      generalize hx : ss.getD j ByteArray.empty = x at *
      generalize hy : ss.getD (j + 1) ByteArray.empty = y at *
      have C1 := Go.Lib.hid c1
      have C2 := Go.Lib.hid c2
      clear hx hy c1 c2
      have ts := rise_snoc (ss.take j) x y
      have TS := Go.Lib.hid ts
      clear ts
      by_cases hl : less x y = true
      · have hbl : Op.bytesLess x.toList y.toList = true := hl
        go_wp2_with (first | (refine (C1.out).mono ?_; rintro e w1 ⟨rfl, b1⟩) | (refine (C2.out _ (below_chain hb b1)).mono ?_; rintro e w2 ⟨rfl, b2⟩))
        go_roundw
        case rel => exact ⟨j + 1, by omega, by go_num, by rw [TA.out, TS.out, ← TB.out, HQ.out, hl]; rfl, below_chain (below_chain hb b1) b2⟩
        case measure => simp [intOf]; omega
      · have hbl : Op.bytesLess x.toList y.toList = false := by simpa [less] using hl
        have hR : R = false := by
          rw [← HR.out]
          cases h : riseB ss with
          | false => rfl
          | true =>
            exfalso
            rw [← List.take_append_drop (j + 2) ss] at h
            have h2 := rise_prefix _ _ h
            rw [TA.out, TS.out, Bool.and_eq_true] at h2
            exact hl h2.2
        subst hR
        go_wp2_with (first | (refine (C1.out).mono ?_; rintro e w1 ⟨rfl, b1⟩) | (refine (C2.out _ (below_chain hb b1)).mono ?_; rintro e w2 ⟨rfl, b2⟩))
        go_ret
        exact ⟨rfl, below_chain (below_chain hb b1) b2⟩
    · have hR : R = true := by
        rw [← HR.out]
        have h1 := HQ.out
        rwa [List.take_of_length_le (by rw [LA.out]; omega)] at h1
      subst hR
      have i1 : ¬ (j : Int) + 1 < n := by omega
      go_wp2_with fail
      go_ret
      exact ⟨rfl, hb⟩
set_option maxHeartbeats 2000000 in
set_option maxRecDepth 100000 in
theorem tagKey_any (B : Nat) (A : Option Addr) (n ca : Nat) (ss : List ByteArray) (i : Nat) (w : World) (hc : w.cell? ⟨B, 0, none⟩ = some (.slice A n ca)) (ha : RdS w A n ca ss) (hi : i < n) :
    Calls Tryz.prog 143 #[.int .i64 (i : Int), .pointer (some ⟨B, 0, none⟩)] w fun e w' => e = .returned (.string (ss.getD i ByteArray.empty)) ∧ Below w.heap.size w w' := by
  obtain ⟨ba, oa, rfl, _, ka⟩ := RdS.at_ ha (by omega)
  have ka1 := ka i hi
  have i1 : (i : Int) < n := by omega
  clear ka ha
  generalize ss.getD i ByteArray.empty = x at *
  go_enter Tryz.func143, Tryz.ntmps143
  go_wp2_with fail
  go_ret
  exact ⟨rfl, Below.refl _ _⟩
set_option maxHeartbeats 2000000 in
set_option maxRecDepth 100000 in
theorem fieldKey_any (B : Nat) (A : Option Addr) (n ca : Nat) (fs : List (ByteArray × Int)) (i : Nat) (w : World) (hc : w.cell? ⟨B, 0, none⟩ = some (.slice A n ca)) (ha : RdF w A n ca fs) (hi : i < n) :
    Calls Tryz.prog 144 #[.int .i64 (i : Int), .pointer (some ⟨B, 0, none⟩)] w fun e w' => e = .returned (.string (fs.getD i (ByteArray.empty, 0)).1) ∧ Below w.heap.size w w' := by
  obtain ⟨ba, oa, rfl, _, ka⟩ := RdF.at_ ha (by omega)
  obtain ⟨ka1, ka2⟩ := ka i hi
  have i1 : (i : Int) < n := by omega
  clear ka ha
  generalize fs.getD i (ByteArray.empty, 0) = x at *
  obtain ⟨x, z⟩ := x
  simp only at ka1 ka2 ⊢
  go_enter Tryz.func144, Tryz.ntmps144
  go_wp2_with fail
  go_ret
  exact ⟨rfl, Below.refl _ _⟩
theorem box_cell (w : World) (v : Value) (t : TypeId) : (w.alloc (.cells #[v] t)).cell? ⟨w.heap.size, 0, none⟩ = some v := by
  rw [cell_of_row _ w.heap.size 0 _ _ _ (heap_alloc_new w _)]
  rfl
set_option maxHeartbeats 2000000 in
set_option maxRecDepth 100000 in
theorem tagsRise_any (A : Option Addr) (n ca : Nat) (ss : List ByteArray) (w : World) (ha : RdS w A n ca ss) :
    Calls Tryz.prog 109 #[.slice A n ca] w fun e w' => e = .returned (.bool (riseB ss)) ∧ Below w.heap.size w w' := by
  have b0 : Below w.heap.size w (w.alloc (.cells #[.slice A n ca] 61)) := (Below.refl _ _).alloc (Nat.le_refl _) _
  have k0 := box_cell w (.slice A n ca) 61
  have a0 := RdC.below ha b0
  have c := Go.Lib.hid (rise_any n ss 143 (.pointer (some ⟨w.heap.size, 0, none⟩)) (w.alloc (.cells #[.slice A n ca] 61)) ha.len (RdC.le ha) (enters_of Tryz.func143 (by kernel_rfl) rfl)
    (fun W hW i hi => tagKey_any w.heap.size A n ca ss i W (bcell hW k0) (RdC.below a0 hW) hi))
  clear ha a0
  generalize riseB ss = R at c ⊢
  go_enter Tryz.func109, Tryz.ntmps109
  go_wp2_with (refine (c.out).mono ?_; rintro e w' ⟨rfl, b1⟩)
  go_ret
  exact ⟨rfl, below_chain b0 b1⟩
set_option maxHeartbeats 2000000 in
set_option maxRecDepth 100000 in
theorem fieldsRise_any (A : Option Addr) (n ca : Nat) (fs : List (ByteArray × Int)) (w : World) (ha : RdF w A n ca fs) :
    Calls Tryz.prog 110 #[.slice A n ca] w fun e w' => e = .returned (.bool (riseB (fs.map (·.1)))) ∧ Below w.heap.size w w' := by
  have b0 : Below w.heap.size w (w.alloc (.cells #[.slice A n ca] 67)) := (Below.refl _ _).alloc (Nat.le_refl _) _
  have k0 := box_cell w (.slice A n ca) 67
  have a0 := RdC.below ha b0
  have hl := ha.len
  have c := Go.Lib.hid (rise_any n (fs.map (·.1)) 144 (.pointer (some ⟨w.heap.size, 0, none⟩)) (w.alloc (.cells #[.slice A n ca] 67)) (by rw [List.length_map, hl]) (RdC.le ha) (enters_of Tryz.func144 (by kernel_rfl) rfl)
    (fun W hW i hi => by
      have h := fieldKey_any w.heap.size A n ca fs i W (bcell hW k0) (RdC.below a0 hW) hi
      have e : (fs.map (·.1)).getD i ByteArray.empty = (fs.getD i (ByteArray.empty, 0)).1 := by
        have hi' : i < fs.length := by omega
        simp [List.getD, List.getElem?_eq_getElem hi']
      rw [e]
      exact h))
  clear ha a0 hl
  generalize riseB (fs.map (·.1)) = R at c ⊢
  go_enter Tryz.func110, Tryz.ntmps110
  go_wp2_with (refine (c.out).mono ?_; rintro e w' ⟨rfl, b1⟩)
  go_ret
  exact ⟨rfl, below_chain b0 b1⟩
set_option maxHeartbeats 8000000 in
set_option maxRecDepth 100000 in
theorem evMay_any (v : Value) (ev : Ev) (w : World) (hv : IsEv w v ev) (hok : EvOk ev) :
    Calls Tryz.prog 77 #[v] w fun e w' => e = .returned (.int .i64 (mayE ev)) ∧ Below w.heap.size w w' := by
  obtain ⟨A, n, ca, B, m, cb, rfl, ha, hb⟩ := hv
  obtain ⟨s, t, ts, fs⟩ := ev
  obtain ⟨ks, kt, ktags, knames, knums⟩ := hok
  simp only at ha hb ks kt ktags knames knums
  have hn := RdC.le ha
  have hm := RdC.le hb
  unfold maxLen at hn hm
  have la := ha.len
  have lb := hb.len
  generalize hR : mayE ⟨s, t, ts, fs⟩ = R
  unfold mayE at hR
  simp only at hR
  rw [la, lb] at hR
  have HR := Go.Lib.hid hR
  clear hR la lb
  have KT := Go.Lib.hid ktags
  have KN := Go.Lib.hid knames
  clear ktags knames knums
  have B1 : Below w.heap.size w (w.alloc (.cells #[.string s, .string t, .slice A n ca, .slice B m cb] 69)) := (Below.refl _ _).alloc (Nat.le_refl _) _
  have E1 := EvAt.new w (.string s) (.string t) (.slice A n ca) (.slice B m cb)
  have a1 := RdC.below ha B1
  have r1 := RdC.below hb B1
  have p0 := E1.c0
  go_enter Tryz.func77, Tryz.ntmps77
  go_wp2_with fail
  generalize w.alloc (.cells #[.string s, .string t, .slice A n ca, .slice B m cb] 69) = w1 at *
  clear ha hb
  refine (name_told (s := s) ks _).mono ?_
  rintro e w2 ⟨rfl, b2⟩
  have E2 := E1.below b2 E1.lt
  have a2 := RdC.below a1 b2
  have r2 := RdC.below r1 b2
  have B2 := below_chain B1 b2
  have p1 := E2.c1
  clear E1 a1 r1 B1 b2 p0
  cases hs : nameB s
  · have hR : R = 5 := by rw [← HR.out, hs, Bool.false_and, if_pos rfl]
    subst hR
    go_wp2_with fail
    go_ret
    exact ⟨rfl, B2⟩
  go_wp2_with fail
  refine (name_told (s := t) kt _).mono ?_
  rintro e w3 ⟨rfl, b3⟩
  have E3 := E2.below b3 E2.lt
  have a3 := RdC.below a2 b3
  have r3 := RdC.below r2 b3
  have B3 := below_chain B2 b3
  have p2 := E3.c2
  have p3 := E3.c3
  clear E2 a2 r2 B2 b3 p1
  cases ht : nameB t
  · have hR : R = 5 := by rw [← HR.out, ht, Bool.and_false, if_pos rfl]
    subst hR
    go_wp2_with fail
    go_ret
    exact ⟨rfl, B3⟩
  by_cases h6 : 6 < n
  · have hR : R = 3 := by rw [← HR.out, hs, ht, if_neg (by decide), if_pos (.inl h6)]
    subst hR
    have i1 : (6 : Int) < n := by omega
    go_wp2_with fail
    go_ret
    exact ⟨rfl, B3⟩
  by_cases h4 : 4 < m
  · have hR : R = 3 := by rw [← HR.out, hs, ht, if_neg (by decide), if_pos (.inr h4)]
    subst hR
    have i1 : ¬ (6 : Int) < n := by omega
    have i2 : (4 : Int) < m := by omega
    go_wp2_with fail
    go_ret
    exact ⟨rfl, B3⟩
  have hr2 : (if ((fs.all fun f => nameB f.1) && ts.all tagB) = false then 5 else if (fs.all fitB && (riseB ts && riseB (fs.map (·.1)))) = false then 1 else 0 : Int) = R := by
    have := HR.out
    rwa [hs, ht, if_neg (by decide), if_neg (by omega)] at this
  have HR2 := Go.Lib.hid hr2
  clear HR hs ht hr2
  have i1 : ¬ (6 : Int) < n := by omega
  have i2 : ¬ (4 : Int) < m := by omega
  go_wp2_with fail
  refine (areTags_any A n ca ts _ a3 KT.out).mono ?_
  rintro e w4 ⟨rfl, b4⟩
  have E4 := E3.below b4 E3.lt
  have a4 := RdC.below a3 b4
  have r4 := RdC.below r3 b4
  have B4 := below_chain B3 b4
  have q2 := E4.c2
  have q3 := E4.c3
  clear E3 a3 r3 B3 b4 p2 p3
  cases h5 : ts.all tagB
  · have hR : R = 5 := by rw [← HR2.out, h5, Bool.and_false, if_pos rfl]
    subst hR
    go_wp2_with fail
    go_ret
    exact ⟨rfl, B4⟩
  go_wp2_with fail
  refine (areNamed_any B m cb fs _ r4 KN.out).mono ?_
  rintro e w5 ⟨rfl, b5⟩
  have E5 := E4.below b5 E4.lt
  have a5 := RdC.below a4 b5
  have r5 := RdC.below r4 b5
  have B5 := below_chain B4 b5
  have p2 := E5.c2
  have p3 := E5.c3
  clear E4 a4 r4 B4 b5 q2 q3
  cases h7 : fs.all fun f => nameB f.1
  · have hR : R = 5 := by rw [← HR2.out, h7, Bool.false_and, if_pos rfl]
    subst hR
    go_wp2_with fail
    go_ret
    exact ⟨rfl, B5⟩
  have hr3 : (if (fs.all fitB && (riseB ts && riseB (fs.map (·.1)))) = false then 1 else 0 : Int) = R := by
    have := HR2.out
    rwa [h5, h7, if_neg (by decide)] at this
  have HR3 := Go.Lib.hid hr3
  clear HR2 h5 h7 hr3
  go_wp2_with fail
  refine (tagsRise_any A n ca ts _ a5).mono ?_
  rintro e w6 ⟨rfl, b6⟩
  have E6 := E5.below b6 E5.lt
  have r6 := RdC.below r5 b6
  have B6 := below_chain B5 b6
  have q3 := E6.c3
  clear E5 a5 r5 B5 b6 p2 p3
  cases h8 : riseB ts
  · have hR : R = 1 := by rw [← HR3.out, h8, Bool.false_and, Bool.and_false, if_pos rfl]
    subst hR
    go_wp2_with fail
    go_ret
    exact ⟨rfl, B6⟩
  go_wp2_with fail
  refine (fieldsRise_any B m cb fs _ r6).mono ?_
  rintro e w7 ⟨rfl, b7⟩
  have E7 := E6.below b7 E6.lt
  have r7 := RdC.below r6 b7
  have B7 := below_chain B6 b7
  have p3 := E7.c3
  clear E6 r6 B6 b7 q3
  cases h9 : riseB (fs.map (·.1))
  · have hR : R = 1 := by rw [← HR3.out, h9, Bool.and_false, Bool.and_false, if_pos rfl]
    subst hR
    go_wp2_with fail
    go_ret
    exact ⟨rfl, B7⟩
  go_wp2_with fail
  refine (areFit_any B m cb fs _ r7).mono ?_
  rintro e w8 ⟨rfl, b8⟩
  have B8 := below_chain B7 b8
  clear E7 r7 B7 b8 p3
  cases h0 : fs.all fitB
  · have hR : R = 1 := by rw [← HR3.out, h0, Bool.false_and, if_pos rfl]
    subst hR
    go_wp2_with fail
    go_ret
    exact ⟨rfl, B8⟩
  have hR : R = 0 := by rw [← HR3.out, h0, h8, h9, if_neg (by decide)]
  subst hR
  go_wp2_with fail
  go_ret
  exact ⟨rfl, B8⟩
end Go.Proofs.YtppidbdkejkopaaGreatDoor.EvWalk
namespace Go.Proofs.YtppidbdkejkopaaGreatDoor.EdWalk
open Go.RowKit MemRow Ev NameMath NameWalk EvWalk NumMath NumMem NumWalk EcWalk
def BoxB (w : World) (B : Nat) (l : List UInt8) : Prop := ∃ A cap, w.heap[B]? = some (.cells #[.slice A l.length cap] 58 (0, 0)) ∧ Rd w A l.length cap l
theorem BoxB.lt {w : World} {B : Nat} {l : List UInt8} (h : BoxB w B l) : B < w.heap.size := by
  obtain ⟨A, cap, hh, _⟩ := h
  exact lt_of_block hh
theorem BoxB.below {w w' : World} {B : Nat} {l : List UInt8} (h : BoxB w B l) (hb : Below w.heap.size w w') : BoxB w' B l := by
  have hlt := h.lt
  obtain ⟨A, cap, hh, hr⟩ := h
  exact ⟨A, cap, (hb.block B hlt).trans hh, hr.below hb⟩
theorem one_no_byte {w : World} {g : Nat} {v : Value} {t : TypeId} (h : w.heap[g]? = some (.cells #[v] t (0, 0))) (h0 : ∀ k, v ≠ .int .u8 k) : ∀ o k, w.cell? ⟨g, o, none⟩ ≠ some (.int .u8 k) := by
  intro o k
  rw [cell_of_row w g o _ t (0, 0) h]
  match o with
  | 0 => simpa using h0 k
  | n + 1 => simp
theorem box_store {w w1 : World} {B n : Nat} {l l' : List UInt8} (h : BoxB w B l) (hb : Below w.heap.size w w1) (hr : Row w1 w.heap.size 5 l') (hn : l'.length = n) (hm : n ≤ maxLen) :
    BoxB (w1.setCell ⟨B, 0, none⟩ (.slice (some ⟨w.heap.size, 0, none⟩) n n)) B l' ∧ w.grownBy (w1.setCell ⟨B, 0, none⟩ (.slice (some ⟨w.heap.size, 0, none⟩) n n)) (some B) := by
  subst hn
  have hlt := h.lt
  obtain ⟨A, cap, hh, _⟩ := h
  have hh1 := (hb.block B hlt).trans hh
  have hs := grown_set w1 B 0 (.slice (some ⟨w.heap.size, 0, none⟩) l'.length l'.length)
  refine ⟨⟨_, _, one_setCell hh1, (hr.rd hm).grown hs (one_no_byte hh1 (by simp))⟩, ?_⟩
  exact ⟨hs.os.trans hb.os, hs.tape.trans hb.tape, hs.output.trans hb.output, Nat.le_trans hb.size hs.size, fun k hk hne => (hs.block k (Nat.lt_of_lt_of_le hk hb.size) hne).trans (hb.block k hk)⟩
set_option maxHeartbeats 2000000 in
set_option maxRecDepth 100000 in
theorem encNum_any (B : Nat) (l : List UInt8) (x : Int) (w : World) (h : BoxB w B l) (hx : -9223372036854775808 ≤ x ∧ x ≤ 9223372036854775807) (hl : l.length ≤ 10000000) :
    Calls Tryz.prog 147 #[.int .i64 x, .pointer (some ⟨B, 0, none⟩)] w fun e w' => ∃ l', Hid (l' = l ++ enc x) ∧ e = .returned (.tuple #[]) ∧ BoxB w' B l' ∧ w.grownBy w' (some B) := by
  have H := Go.Lib.hid h
  obtain ⟨A, cap, hh, hr⟩ := h
  have k0 := cell_of_one hh
  have hlt := lt_of_block hh
  have HH := Go.Lib.hid hh
  have hel := enc_le x hx.1 hx.2
  obtain ⟨hx0, hx1⟩ := hx
  clear hh
  go_enter Tryz.func147, Tryz.ntmps147
  go_wp2_with fail
  refine (put_any A l.length cap l x w hr hx0 hx1 (by omega)).mono ?_
  rintro e w1 ⟨rfl, hr1, hb1⟩
  have hh1 := (hb1.block B hlt).trans HH.out
  have k1 := cell_of_one hh1
  have f1 := free_of_one hh1
  have bs := box_store H.out hb1 hr1 (n := l.length + (enc x).length) (by rw [List.length_append]) (by unfold maxLen; omega)
  have BS := Go.Lib.hid bs
  clear hh1 bs hr1 hr k0
  generalize (enc x).length = q at *
  go_wp2_with fail
  go_end0
  exact ⟨_, Go.Lib.hid rfl, rfl, BS.out.1, BS.out.2⟩
set_option maxHeartbeats 2000000 in
set_option maxRecDepth 100000 in
theorem encText_any (B : Nat) (l : List UInt8) (s : ByteArray) (w : World) (h : BoxB w B l) (hs : s.size ≤ 1000) (hl : l.length ≤ 10000000) :
    Calls Tryz.prog 148 #[.string s, .pointer (some ⟨B, 0, none⟩)] w fun e w' => ∃ l', Hid (l' = l ++ txt s) ∧ e = .returned (.tuple #[]) ∧ BoxB w' B l' ∧ w.grownBy w' (some B) := by
  have H := Go.Lib.hid h
  obtain ⟨A, cap, hh, hr⟩ := h
  have k0 := cell_of_one hh
  have hlt := lt_of_block hh
  have HH := Go.Lib.hid hh
  have hel := enc_le (s.size : Int) (by omega) (by omega)
  clear hh
  go_enter Tryz.func148, Tryz.ntmps148
  go_wp2_with fail
  refine (putText_any A l.length cap l s w hr (by omega) (by omega)).mono ?_
  rintro e w1 ⟨rfl, hr1, hb1⟩
  have hh1 := (hb1.block B hlt).trans HH.out
  have k1 := cell_of_one hh1
  have f1 := free_of_one hh1
  rw [List.append_assoc] at hr1
  have bs := box_store H.out hb1 hr1 (n := l.length + ((enc (s.size : Int)).length + s.size)) (by rw [List.length_append, List.length_append, size_list]) (by unfold maxLen; omega)
  have BS := Go.Lib.hid bs
  clear hh1 bs hr1 hr k0
  generalize (enc (s.size : Int)).length = q at *
  go_wp2_with fail
  go_end0
  exact ⟨_, Go.Lib.hid rfl, rfl, BS.out.1, BS.out.2⟩
end Go.Proofs.YtppidbdkejkopaaGreatDoor.EdWalk
namespace Go.Proofs.YtppidbdkejkopaaGreatDoor.EdWalk
open Go.RowKit MemRow Ev NameMath NameWalk EvWalk NumMath NumMem NumWalk EcWalk
structure EncAt (wr w : World) (B : Nat) (s t : ByteArray) (T F : Value) (l : List UInt8) : Prop where
  ev : EvAt wr w.heap.size (.string s) (.string t) T F
  bx : BoxB wr B l
  be : Below w.heap.size w wr
  lt : w.heap.size < B
theorem EncAt.step {wr w w' : World} {B : Nat} {s t : ByteArray} {T F : Value} {l l' : List UInt8} (h : EncAt wr w B s t T F l) (hb : BoxB w' B l') (hg : wr.grownBy w' (some B)) : EncAt w' w B s t T F l' := by
  have hl := h.lt
  exact ⟨h.ev.grown hg (by simp; omega), hb, h.be.grown hg h.be.size (by rintro k ⟨rfl⟩; omega), hl⟩
theorem EncAt.below {wr w w' : World} {B : Nat} {s t : ByteArray} {T F : Value} {l : List UInt8} (h : EncAt wr w B s t T F l) (hb : Below wr.heap.size wr w') : EncAt w' w B s t T F l :=
  ⟨h.ev.below hb h.ev.lt, h.bx.below hb, below_chain h.be hb, h.lt⟩
set_option maxHeartbeats 4000000 in
set_option maxRecDepth 100000 in
theorem encode_any (v : Value) (ev : Ev) (w : World) (hv : IsEv w v ev) (sm : Small ev) :
    Calls Tryz.prog 116 #[v] w fun e w' => ∃ A c l', Hid (l' = encE ev) ∧ e = .returned (.slice A l'.length c) ∧ Rd w' A l'.length c l' ∧ Below w.heap.size w w' := by
  obtain ⟨T, nT, cT, F, nF, cF, rfl, hT, hF⟩ := hv
  have LT := Go.Lib.hid (RdS.len hT)
  have LF := Go.Lib.hid (RdF.len hF)
  have SM := Go.Lib.hid sm
  have hs : ev.s.size ≤ 1000 := by have := sm.s; omega
  have ht : ev.t.size ≤ 1000 := by have := sm.t; omega
  have hnt : nT ≤ 6 := by rw [← LT.out]; exact sm.nt
  have hnf : nF ≤ 4 := by rw [← LF.out]; exact sm.nf
  have B1 : Below w.heap.size w (w.alloc (.cells #[.string ev.s, .string ev.t, .slice T nT cT, .slice F nF cF] 69)) := (Below.refl _ _).alloc (Nat.le_refl _) _
  have E1 := EvAt.new w (.string ev.s) (.string ev.t) (.slice T nT cT) (.slice F nF cF)
  clear sm
  go_enter Tryz.func116, Tryz.ntmps116
  go_upto_region 1 with (fail)
  generalize w.alloc (.cells #[.string ev.s, .string ev.t, .slice T nT cT, .slice F nF cF] 69) = w1 at *
  go_upto_region 2 with (fail)
  have al : Below w1.heap.size w1 (w1.alloc (.cells #[.slice none 0 0] 58)) := (Below.refl _ _).alloc (Nat.le_refl _) _
  have a2 : EncAt (w1.alloc (.cells #[.slice none 0 0] 58)) w w1.heap.size ev.s ev.t (.slice T nT cT) (.slice F nF cF) [] :=
    ⟨E1.below al E1.lt, ⟨none, 0, heap_alloc_new w1 _, Rd.nil _⟩, below_chain B1 al, E1.lt⟩
  generalize w1.alloc (.cells #[.slice none 0 0] 58) = w2 at *
  generalize w1.heap.size = B at *
  clear al B1 E1
  have k0 := a2.ev.c0
  go_wp2_with fail
  refine (encText_any B [] ev.s w2 a2.bx hs (by simp)).mono ?_
  rintro e w3 ⟨l3, H3, rfl, bx, gg⟩
  have a3 := a2.step bx gg
  have k1 := a3.ev.c1
  have hl3 : l3.length ≤ 10000000 := by have := txt_le hs; rw [H3.out]; simp; omega
  clear a2 bx gg k0
  go_wp2_with fail
  refine (encText_any B l3 ev.t w3 a3.bx ht hl3).mono ?_
  rintro e w4 ⟨l4, H4, rfl, bx, gg⟩
  have a4 := a3.step bx gg
  have k2 := a4.ev.c2
  have hl4 : l4.length ≤ 10000000 := by
    have h1 := txt_le hs
    have h2 := txt_le ht
    rw [H4.out, H3.out]
    simp
    omega
  have hxT : -9223372036854775808 ≤ (nT : Int) ∧ (nT : Int) ≤ 9223372036854775807 := by omega
  clear a3 bx gg k1 hl3
  go_wp2_with fail
  refine (encNum_any B l4 (nT : Int) w4 a4.bx hxT hl4).mono ?_
  rintro e w5 ⟨l5, H5, rfl, bx, gg⟩
  have a5 := a4.step bx gg
  have k2' := a5.ev.c2
  have e5 : l5 = txt ev.s ++ txt ev.t ++ enc (ev.tags.length : Int) ++ txts (ev.tags.take 0) := by
    rw [H5.out, H4.out, H3.out, LT.out]
    simp [txts, List.append_assoc]
  have HE5 := Go.Lib.hid e5
  clear a4 bx gg k2 hl4 hxT e5
  go_wp2_with fail
  go_loopw [7, 28] (fun _ i wr => ∃ (j : Nat) (l' : List UInt8), j ≤ nT ∧ i = .int .i64 j ∧ Hid (l' = txt ev.s ++ txt ev.t ++ enc (ev.tags.length : Int) ++ txts (ev.tags.take j)) ∧ EncAt wr w B ev.s ev.t (.slice T nT cT) (.slice F nF cF) l') (fun _ i _ => nT - (intOf i).toNat)
  case atStart => exact ⟨0, l5, Nat.zero_le _, rfl, HE5, a5⟩
  case round =>
    obtain ⟨j, l', hj, rfl, HQ, aq⟩ := hrel
    have hlq : l'.length ≤ 10000000 := by
      have h1 := head_le SM.out j
      rw [HQ.out]
      omega
    clear a5 k2'
    by_cases hlt : j < nT
    · obtain ⟨bt, ot, rfl, _, kt⟩ := RdS.at_ (RdC.below hT aq.be) (by omega)
      have ka1 := kt j hlt
      have i1 : (j : Int) < nT := by omega
      have hjl : j < ev.tags.length := by rw [LT.out]; exact hlt
      have ta := take_get ev.tags j hjl
      have hy := SM.out.tags _ (mem_getD ev.tags j hjl)
      have TA := Go.Lib.hid ta
      clear kt ta hjl
      generalize ev.tags.getD j ByteArray.empty = y at *
      have hy' : y.size ≤ 1000 := by omega
      go_wp2_with fail
      refine (encText_any B l' y wr aq.bx hy' hlq).mono ?_
      rintro e w6 ⟨l6, H6, rfl, bx, gg⟩
      have a6 := aq.step bx gg
      have H7 : Hid (l6 = txt ev.s ++ txt ev.t ++ enc (ev.tags.length : Int) ++ txts (ev.tags.take (j + 1))) := Go.Lib.hid (by rw [H6.out, HQ.out, TA.out, txts_snoc]; simp only [List.append_assoc])
      clear ka1 aq bx gg
      go_wp2_with fail
      go_roundw
      case rel => exact ⟨j + 1, l6, by omega, by go_num, H7, a6⟩
      case measure => simp [intOf]; omega
    · obtain rfl : nT = j := by omega
      have hxF : -9223372036854775808 ≤ (nF : Int) ∧ (nF : Int) ≤ 9223372036854775807 := by omega
      have k3 := aq.ev.c3
      go_wp2_with fail
      refine (encNum_any B l' (nF : Int) wr aq.bx hxF hlq).mono ?_
      rintro e w7 ⟨l7, H7, rfl, bx, gg⟩
      have a7 := aq.step bx gg
      have k3' := a7.ev.c3
      have H8 : Hid (l7 = txt ev.s ++ txt ev.t ++ enc (ev.tags.length : Int) ++ txts ev.tags ++ (enc (ev.fs.length : Int) ++ fldsE (ev.fs.take 0))) := Go.Lib.hid (by
        rw [H7.out, HQ.out, List.take_of_length_le (by rw [LT.out]; exact Nat.le_refl _), LF.out]
        simp [fldsE, List.append_assoc])
      clear k3 hxF hlq HQ aq bx gg
      go_wp2_with fail
      go_loopw [9, 44] (fun _ i wq => ∃ (k : Nat) (l' : List UInt8), k ≤ nF ∧ i = .int .i64 k ∧ Hid (l' = txt ev.s ++ txt ev.t ++ enc (ev.tags.length : Int) ++ txts ev.tags ++ (enc (ev.fs.length : Int) ++ fldsE (ev.fs.take k))) ∧ EncAt wq w B ev.s ev.t (.slice T nT cT) (.slice F nF cF) l') (fun _ i _ => nF - (intOf i).toNat)
      case atStart => exact ⟨0, l7, Nat.zero_le _, rfl, H8, a7⟩
      case round =>
        obtain ⟨k, l', hk, rfl, HQ, aq⟩ := hrel
        clear a7 k3'
        have hlq : l'.length ≤ 1100000 := by
          have h1 := head_le SM.out ev.tags.length
          have h2 := tail_le SM.out k
          rw [List.take_of_length_le (Nat.le_refl _)] at h1
          rw [HQ.out, List.length_append]
          omega
        by_cases hlt : k < nF
        · obtain ⟨bf, of, rfl, _, kf⟩ := RdF.at_ (RdC.below hF aq.be) (by omega)
          obtain ⟨y1, y2⟩ := kf k hlt
          have i1 : (k : Int) < nF := by omega
          have hkl : k < ev.fs.length := by rw [LF.out]; exact hlt
          have ta := fs_take ev.fs k hkl
          have hy := SM.out.names _ (fs_mem ev.fs k hkl)
          have hz := SM.out.nums _ (fs_mem ev.fs k hkl)
          have TA := Go.Lib.hid ta
          clear kf ta hkl
          generalize ev.fs.getD k (ByteArray.empty, 0) = f at *
          obtain ⟨nm, nz⟩ := f
          simp only at y1 y2 hy hz
          have hy' : nm.size ≤ 1000 := by omega
          have hz' : -9223372036854775808 ≤ nz ∧ nz ≤ 9223372036854775807 := by omega
          have hl2 : l'.length ≤ 10000000 := by omega
          go_upto_region 16 with (fail)
          have al : Below wr.heap.size wr (wr.alloc (.cells #[.string nm, .int .i64 nz] 132)) := (Below.refl _ _).alloc (Nat.le_refl _) _
          have ar := aq.below al
          have fa : FldAt (wr.alloc (.cells #[.string nm, .int .i64 nz] 132)) wr.heap.size (nm, nz) := heap_alloc_new wr _
          have hBr : B < wr.heap.size := aq.bx.lt
          generalize wr.alloc (.cells #[.string nm, .int .i64 nz] 132) = w8 at *
          generalize wr.heap.size = g8 at *
          have q0 := fa.c0
          clear y1 y2 al aq
          go_wp2_with fail
          refine (encText_any B l' nm w8 ar.bx hy' hl2).mono ?_
          rintro e w9 ⟨l9, H9, rfl, bx, gg⟩
          have a9 := ar.step bx gg
          have f9 : FldAt w9 g8 (nm, nz) := (gg.block g8 fa.lt (fun e => by injection e with e; omega)).trans fa
          have q1 := f9.c1
          have hl9 : l9.length ≤ 10000000 := by have h1 := txt_le hy'; rw [H9.out, List.length_append]; omega
          clear q0 ar bx gg fa
          go_wp2_with fail
          refine (encNum_any B l9 nz w9 a9.bx hz' hl9).mono ?_
          rintro e w10 ⟨l10, H10, rfl, bx, gg⟩
          have a10 := a9.step bx gg
          have H11 : Hid (l10 = txt ev.s ++ txt ev.t ++ enc (ev.tags.length : Int) ++ txts ev.tags ++ (enc (ev.fs.length : Int) ++ fldsE (ev.fs.take (k + 1)))) := Go.Lib.hid (by rw [H10.out, H9.out, HQ.out, TA.out, fldsE_snoc, fldE]; simp only [List.append_assoc])
          clear q1 a9 bx gg f9
          go_wp2_with fail
          go_roundw
          case rel => exact ⟨k + 1, l10, by omega, by go_num, H11, a10⟩
          case measure => simp [intOf]; omega
        · obtain rfl : nF = k := by omega
          have HF2 : l' = encE ev := by
            rw [HQ.out, List.take_of_length_le (by rw [LF.out]; exact Nat.le_refl _), encE]
            simp only [List.append_assoc]
          have HH := Go.Lib.hid HF2
          obtain ⟨A, c, hh, hr⟩ := aq.bx
          have k0 := cell_of_one hh
          have be := aq.be
          clear HF2 hh HQ aq
          go_wp2_with fail
          go_ret
          exact ⟨A, c, l', HH, rfl, hr, be⟩
end Go.Proofs.YtppidbdkejkopaaGreatDoor.EdWalk
namespace Go.Proofs.YtppidbdkejkopaaGreatDoor.EdWalk
open Go.RowKit MemRow Ev NameMath NameWalk EvWalk NumMath NumMem NumWalk EcWalk
theorem encE_le {ev : Ev} (sm : Small ev) : (encE ev).length ≤ 20000 := by
  have h1 := head_le sm ev.tags.length
  have h2 := tail_le sm ev.fs.length
  rw [List.take_of_length_le (Nat.le_refl _)] at h1 h2
  simp only [encE, List.length_append] at h1 h2 ⊢
  omega
theorem encE_pos (e : Ev) : 1 ≤ (encE e).length := by
  have h := enc_pos (e.s.size : Int)
  unfold encE txt
  simp only [List.length_append]
  omega
set_option maxHeartbeats 4000000 in
set_option maxRecDepth 100000 in
theorem putE_any (A : Option Addr) (n cap : Nat) (l : List UInt8) (v : Value) (ev : Ev) (w : World) (h : Rd w A n cap l) (hl : l.length ≤ 1000000) (hv : IsEv w v ev) (hok : EvOk ev) :
    Calls Tryz.prog 79 #[.slice A n cap, v] w fun e w' => PutE l ev w e w' ∧ Below w.heap.size w w' := by
  have hv0 := hv
  obtain ⟨T, nT, cT, F, nF, cF, rfl, hT, hF⟩ := hv
  have LL := Go.Lib.hid h.len
  have B1 : Below w.heap.size w (w.alloc (.cells #[.string ev.s, .string ev.t, .slice T nT cT, .slice F nF cF] 69)) := (Below.refl _ _).alloc (Nat.le_refl _) _
  have E1 := EvAt.new w (.string ev.s) (.string ev.t) (.slice T nT cT) (.slice F nF cF)
  go_enter Tryz.func79, Tryz.ntmps79
  go_upto_region 1 with (fail)
  generalize w.alloc (.cells #[.string ev.s, .string ev.t, .slice T nT cT, .slice F nF cF] 69) = w1 at *
  have k0 := E1.c0
  have k1 := E1.c1
  have k2 := E1.c2
  have k3 := E1.c3
  go_wp2_with fail
  refine (evMay_any _ ev w1 (hv0.below B1) hok).mono ?_
  rintro e w2 ⟨rfl, b2⟩
  have E2 := E1.below b2 E1.lt
  have B2 := below_chain B1 b2
  clear k0 k1 k2 k3 E1 B1 b2
  by_cases h0 : mayE ev = 0
  case neg =>
    have m0 : (mayE ev != 0) = true := by rw [bne_iff_ne]; exact h0
    go_wp2_with fail
    go_ret2
    exact ⟨.inr ⟨h0, rfl⟩, B2⟩
  rw [h0]
  have H0 := Go.Lib.hid h0
  have sm := may_smallE h0
  have SM := Go.Lib.hid sm
  clear h0 sm
  have k0 := E2.c0
  have k1 := E2.c1
  have k2 := E2.c2
  have k3 := E2.c3
  go_wp2_with fail
  refine (encode_any _ ev w2 (hv0.below B2) SM.out).mono ?_
  rintro e w3 ⟨A3, c3, l3, H3, rfl, r3, b3⟩
  have B3 := below_chain B2 b3
  have r0 := h.below B3
  have h30 : 0 < n + l3.length := by rw [H3.out]; have := encE_pos ev; omega
  have h31 : n + l3.length ≤ 1000000000 := by rw [H3.out]; have := encE_le SM.out; have := LL.out; omega
  clear k0 k1 k2 k3 E2 B2 b3
  go_wp2_with fail
  have al : Below w3.heap.size w3 (w3.alloc (.cells #[.slice A n cap, .slice A3 l3.length c3] 58)) := (Below.refl _ _).alloc (Nat.le_refl _) _
  have q0 : (w3.alloc (.cells #[.slice A n cap, .slice A3 l3.length c3] 58)).cell? ⟨w3.heap.size, 0, none⟩ = some (.slice A n cap) := by rw [cell_of_row _ w3.heap.size 0 _ _ _ (heap_alloc_new w3 _)]; rfl
  have q1 : (w3.alloc (.cells #[.slice A n cap, .slice A3 l3.length c3] 58)).cell? ⟨w3.heap.size, 1, none⟩ = some (.slice A3 l3.length c3) := by rw [cell_of_row _ w3.heap.size 1 _ _ _ (heap_alloc_new w3 _)]; rfl
  refine (concat_any w3.heap.size A A3 n cap l3.length c3 l l3 _ q0 q1 (r0.below al) (r3.below al) h30 h31).mono ?_
  rintro e w4 ⟨A4, c4, rfl, o4, b4⟩
  have B4 := below_chain (below_chain B3 al) b4
  have hlen : n + l3.length = (l ++ encE ev).length := by rw [H3.out, List.length_append, LL.out]
  have hle := (below_chain B3 al).size
  have HL := Go.Lib.hid hlen
  have O4 := Go.Lib.hid o4
  clear q0 q1 r0 r3 hlen al
  go_wp2_with fail
  go_ret2
  refine ⟨.inl ⟨H0.out, _, rfl, ?_⟩, B4⟩
  have ho := O4.out
  have hx : l ++ l3 = l ++ encE ev := by rw [H3.out]
  rw [HL.out, hx] at ho
  rw [HL.out]
  exact Laid.lower ⟨A4, c4, rfl, ho⟩ hle
end Go.Proofs.YtppidbdkejkopaaGreatDoor.EdWalk
namespace Go.Proofs.YtppidbdkejkopaaGreatDoor.EcWalk
open Go.RowKit MemRow Ev NameMath NameWalk EvWalk
theorem sameB_eq {a b : Ev} : sameB a b = true ↔ a = b := by
  obtain ⟨s1, t1, g1, f1⟩ := a
  obtain ⟨s2, t2, g2, f2⟩ := b
  simp [sameB]
theorem ev_take (l : List Ev) (j : Nat) (h : j < l.length) : l.take (j + 1) = l.take j ++ [l.getD j noEv] := by
  rw [List.take_succ_eq_append_getElem h]
  simp [List.getD, List.getElem?_eq_getElem h]
theorem ev_get {l : List Ev} {j : Nat} (h : j < l.length) : l.getD j noEv ∈ l := by
  simp only [List.getD, List.getElem?_eq_getElem h, Option.getD_some]
  exact List.getElem_mem h
set_option maxHeartbeats 8000000 in
set_option maxRecDepth 100000 in
theorem refSameAll_any (A B : Option Addr) (n m ca cb : Nat) (es fs : List Ev) (w : World) (ha : RdE w A n ca es) (hb : RdE w B m cb fs) :
    Calls Tryz.prog 90 #[.slice A n ca, .slice B m cb] w fun e w' => ∃ R : Bool, (R = true ↔ es = fs) ∧ e = .returned (.bool R) ∧ Below w.heap.size w w' := by
  have hn := ha.le
  have hm := hb.le
  unfold maxLen at hn hm
  have la := ha.len
  have lb := hb.len
  by_cases hnm : n = m
  · subst hnm
    have LA := Go.Lib.hid la
    have LB := Go.Lib.hid lb
    clear la lb
    go_enter Tryz.func90, Tryz.ntmps90
    go_wp2_with fail
    go_loopw [5, 6] (fun i _ wr => ∃ j : Nat, j ≤ n ∧ i = .int .i64 j ∧ es.take j = fs.take j ∧ Below w.heap.size w wr) (fun i _ _ => n - (intOf i).toNat)
    case atStart => exact ⟨0, Nat.zero_le _, rfl, rfl, Below.refl _ _⟩
    case round =>
      obtain ⟨j, hj, rfl, hq, hw⟩ := hrel
      have HQ := Go.Lib.hid hq
      clear hq
      by_cases hlt : j < n
      · obtain ⟨ba, oa, rfl, _, ka⟩ := RdE.at_ (ha.below hw) (by omega)
        obtain ⟨bb, ob, rfl, _, kb⟩ := RdE.at_ (hb.below hw) (by omega)
        have ta := ev_take es j (by rw [LA.out]; exact hlt)
        have tb := ev_take fs j (by rw [LB.out]; exact hlt)
        have hxe : es = fs → es.getD j noEv = fs.getD j noEv := fun h => by rw [h]
        have i1 : (j : Int) < n := by omega
        have kx := ka j hlt
        have ky := kb j hlt
        have TA := Go.Lib.hid ta
        have TB := Go.Lib.hid tb
        have HXE := Go.Lib.hid hxe
        clear ka kb ta tb hxe
        generalize es.getD j noEv = x at *
        generalize fs.getD j noEv = y at *
        obtain ⟨A1, n1, k1, B1, m1, q1, x0, x1, x2, x3, rx1, rx2⟩ := kx
        obtain ⟨A2, n2, k2, B2, m2, q2, y0, y1, y2, y3, ry1, ry2⟩ := ky
        have b0 : Below wr.heap.size wr wr.drew := bel_drew (Below.refl _ _)
        have vx : IsEv wr.drew (.agg #[.string x.s, .string x.t, .slice A1 n1 k1, .slice B1 m1 q1]) x := ⟨_, _, _, _, _, _, rfl, RdC.below rx1 b0, RdC.below rx2 b0⟩
        have vy : IsEv wr.drew (.agg #[.string y.s, .string y.t, .slice A2 n2 k2, .slice B2 m2 q2]) y := ⟨_, _, _, _, _, _, rfl, RdC.below ry1 b0, RdC.below ry2 b0⟩
        clear rx1 rx2 ry1 ry2
        generalize hT : sameB x y = T
        have HT := Go.Lib.hid hT
        clear hT
        go_wp2_with fail
        go_region_held (fun w' => w'.cell? ⟨ba, oa + j * 4, none⟩ = some (.string x.s) ∧ w'.cell? ⟨ba, oa + j * 4 + 1, none⟩ = some (.string x.t) ∧ w'.cell? ⟨ba, oa + j * 4 + 2, none⟩ = some (.slice A1 n1 k1) ∧ w'.cell? ⟨ba, oa + j * 4 + 3, none⟩ = some (.slice B1 m1 q1) ∧ w'.cell? ⟨bb, ob + j * 4, none⟩ = some (.string y.s) ∧ w'.cell? ⟨bb, ob + j * 4 + 1, none⟩ = some (.string y.t) ∧ w'.cell? ⟨bb, ob + j * 4 + 2, none⟩ = some (.slice A2 n2 k2) ∧ w'.cell? ⟨bb, ob + j * 4 + 3, none⟩ = some (.slice B2 m2 q2))
          (first | exact ⟨x0, x1, x2, x3, y0, y1, y2, y3⟩ | exact ⟨bcell b8 x0, bcell b8 x1, bcell b8 x2, bcell b8 x3, bcell b8 y0, bcell b8 y1, bcell b8 y2, bcell b8 y3⟩)
          (first | (go_at_call 122; refine (refSame_any _ _ x y _ vx vy).mono ?_; rintro e w8 ⟨rfl, bb⟩; rw [HT.out]; have b8 := below_chain b0 bb; clear bb))
        cases T with
        | true =>
          have hxy : x = y := sameB_eq.1 HT.out
          have HXY := Go.Lib.hid hxy
          clear hxy
          go_wp2_with fail
          go_roundw
          case rel => exact ⟨j + 1, by omega, by go_num, by rw [TA.out, TB.out, HQ.out, HXY.out], below_chain hw b8⟩
          case measure => simp [intOf]; omega
        | false =>
          go_wp2_with fail
          go_ret
          refine ⟨false, ⟨(fun h => by cases h), fun h => ?_⟩, rfl, below_chain hw b8⟩
          have := sameB_eq.2 (HXE.out h)
          rw [HT.out] at this
          exact this
      · obtain rfl : n = j := by omega
        go_wp2_with fail
        go_ret
        have h1 := HQ.out
        rw [List.take_of_length_le (by rw [LA.out]; exact Nat.le_refl _), List.take_of_length_le (by rw [LB.out]; exact Nat.le_refl _)] at h1
        exact ⟨true, ⟨fun _ => h1, fun _ => rfl⟩, rfl, hw⟩
  · have i1 : ((n : Int) != (m : Int)) = true := by rw [bne_iff_ne]; omega
    have hne : es ≠ fs := fun h => hnm (by rw [← la, ← lb, h])
    have HNE := Go.Lib.hid hne
    clear la lb hne
    go_enter Tryz.func90, Tryz.ntmps90
    go_wp2_with fail
    go_ret
    exact ⟨false, ⟨(fun h => by cases h), fun h => absurd h HNE.out⟩, rfl, Below.refl _ _⟩
end Go.Proofs.YtppidbdkejkopaaGreatDoor.EcWalk
namespace Go.Proofs.YtppidbdkejkopaaGreatDoor.BtWalk
open Go.RowKit MemRow Ev NameMath NameWalk EvWalk NumMath NumMem NumWalk EcWalk EdWalk
structure Bat where
  a : Int
  es : List Ev
def noBat : Bat := ⟨0, []⟩
def mayEs : List Ev → Int
  | [] => 0
  | e :: es => if mayE e = 0 then mayEs es else mayE e
def mayX (x : Bat) : Int :=
  if x.es.length = 0 then 22 else if 16 < x.es.length then 3 else if mayEs x.es ≠ 0 then mayEs x.es
  else if x.a < 0 ∨ 1048576 - (x.es.length : Int) < x.a then 1 else 0
def evsE (es : List Ev) : List UInt8 := es.flatMap encE
def encX (x : Bat) : List UInt8 := enc x.a ++ enc (x.es.length : Int) ++ evsE x.es
theorem mayEs_zero (es : List Ev) : mayEs es = 0 ↔ ∀ e ∈ es, mayE e = 0 := by
  induction es with
  | nil => simp [mayEs]
  | cons e es ih =>
    rw [mayEs]
    by_cases h : mayE e = 0
    · rw [if_pos h, ih]
      simp [h]
    · rw [if_neg h]
      simp [h]
theorem mayEs_take (es : List Ev) (j : Nat) (h : mayEs (es.take j) = 0) (hj : j < es.length) : mayE (es.getD j noEv) = 0 → mayEs (es.take (j + 1)) = 0 := by
  intro h1
  rw [mayEs_zero] at h ⊢
  rw [ev_take es j hj]
  intro e he
  rw [List.mem_append, List.mem_singleton] at he
  rcases he with he | rfl
  · exact h e he
  · exact h1
theorem mayEs_at (es : List Ev) : ∀ (j : Nat), mayEs (es.take j) = 0 → j < es.length → mayE (es.getD j noEv) ≠ 0 → mayEs es = mayE (es.getD j noEv) := by
  induction es with
  | nil => intro j _ h; simp at h
  | cons e es ih =>
    intro j h hj hne
    cases j with
    | zero =>
      rw [mayEs, if_neg (by simpa using hne)]
      rfl
    | succ j =>
      rw [List.take_succ_cons, mayEs] at h
      by_cases he : mayE e = 0
      · rw [if_pos he] at h
        rw [mayEs, if_pos he, ih j h (by simpa using hj) (by simpa using hne)]
        rfl
      · rw [if_neg he] at h
        exact absurd h he
theorem mayX_zero (x : Bat) : mayX x = 0 ↔ (1 ≤ x.es.length ∧ x.es.length ≤ 16 ∧ (∀ e ∈ x.es, mayE e = 0) ∧ 0 ≤ x.a ∧ x.a + x.es.length ≤ 1048576) := by
  unfold mayX
  rw [← mayEs_zero]
  by_cases h1 : x.es.length = 0
  · rw [if_pos h1]
    constructor
    · intro h; cases h
    · intro h; omega
  · rw [if_neg h1]
    by_cases h2 : 16 < x.es.length
    · rw [if_pos h2]
      constructor
      · intro h; cases h
      · intro h; omega
    · rw [if_neg h2]
      by_cases h3 : mayEs x.es = 0
      · rw [if_neg (by simpa using h3)]
        split
        · constructor
          · intro h; cases h
          · intro h; omega
        · constructor
          · intro _
            exact ⟨by omega, by omega, h3, by omega, by omega⟩
          · intro _; rfl
      · rw [if_pos h3]
        constructor
        · intro h; exact absurd h h3
        · intro h; exact absurd h.2.2.1 h3
theorem evsE_le {es : List Ev} (h : ∀ e ∈ es, mayE e = 0) : (evsE es).length ≤ 20000 * es.length := by
  induction es with
  | nil => simp [evsE]
  | cons e es ih =>
    have h1 := encE_le (may_smallE (h e (by simp)))
    have h2 := ih fun x hx => h x (by simp [hx])
    have e1 : evsE (e :: es) = encE e ++ evsE es := by simp [evsE]
    rw [e1, List.length_append, List.length_cons]
    omega
theorem evsE_snoc (es : List Ev) (e : Ev) : evsE (es ++ [e]) = evsE es ++ encE e := by simp [evsE]
def takeEs : Nat → List UInt8 → Bool → Option (List Ev × List UInt8)
  | 0, l, _ => some ([], l)
  | k + 1, l, b => match takeE l b with
    | none => none
    | some p => (takeEs k p.2 false).map fun q => (p.1 :: q.1, q.2)
theorem takeEs_go {k : Nat} {l l' : List UInt8} {b : Bool} {e : Ev} (h : takeE l b = some (e, l')) : takeEs (k + 1) l b = (takeEs k l' false).map fun q => (e :: q.1, q.2) := by
  rw [takeEs, h]
theorem takeEs_none {k : Nat} {l : List UInt8} {b : Bool} (h : takeE l b = none) : takeEs (k + 1) l b = none := by
  rw [takeEs, h]
theorem takeEs_enc (es : List Ev) (h : ∀ e ∈ es, mayE e = 0) (r : List UInt8) : takeEs es.length (evsE es ++ r) false = some (es, r) := by
  induction es with
  | nil => rfl
  | cons e es ih =>
    have e1 : evsE (e :: es) ++ r = encE e ++ (evsE es ++ r) := by simp [evsE]
    rw [List.length_cons, e1, takeEs_go (takeE_encE (h e (by simp)) _), ih fun x hx => h x (by simp [hx])]
    rfl
theorem takeEs_canon : ∀ (k : Nat) (l : List UInt8) (b : Bool) (es : List Ev) (r : List UInt8), takeEs k l b = some (es, r) → (b = true → k = 0) ∧ es.length = k ∧ (∀ e ∈ es, mayE e = 0) ∧ l = evsE es ++ r
  | 0, l, b, es, r, h => by
    simp only [takeEs, Option.some.injEq, Prod.mk.injEq] at h
    obtain ⟨rfl, rfl⟩ := h
    exact ⟨fun _ => rfl, rfl, by simp, by simp [evsE]⟩
  | k + 1, l, b, es, r, h => by
    cases ht : takeE l b with
    | none =>
      rw [takeEs_none ht] at h
      cases h
    | some p =>
      obtain ⟨e, l'⟩ := p
      rw [takeEs_go ht] at h
      obtain ⟨h1, h2, h3⟩ := takeE_canon ht
      cases hq : takeEs k l' false with
      | none =>
        rw [hq] at h
        cases h
      | some q =>
        obtain ⟨fs, r'⟩ := q
        rw [hq] at h
        simp only [Option.map_some, Option.some.injEq, Prod.mk.injEq] at h
        obtain ⟨rfl, rfl⟩ := h
        obtain ⟨_, k2, k3, k4⟩ := takeEs_canon k l' false fs r' hq
        refine ⟨(fun hb => by rw [h1] at hb; cases hb), (by rw [List.length_cons, k2]), ?_, ?_⟩
        · intro x hx
          rw [List.mem_cons] at hx
          rcases hx with rfl | hx
          · exact h2
          · exact k3 x hx
        · have e1 : evsE (e :: fs) ++ r' = encE e ++ (evsE fs ++ r') := by simp [evsE]
          rw [e1, ← k4]
          exact h3
def takeX (l : List UInt8) : Option Bat :=
  match takeEs (min (numV (numL l)) 17).toNat (numL (numL l)) (numB (numL l) (numB l false)) with
  | none => none
  | some p => if mayX ⟨numV l, p.1⟩ = 0 ∧ encX ⟨numV l, p.1⟩ = l then some ⟨numV l, p.1⟩ else none
theorem encX_read {x : Bat} (h : mayX x = 0) (r : List UInt8) : numV (encX x ++ r) = x.a ∧ numB (encX x ++ r) false = false ∧ numV (numL (encX x ++ r)) = x.es.length ∧ numB (numL (encX x ++ r)) false = false ∧ takeEs x.es.length (numL (numL (encX x ++ r))) false = some (x.es, r) := by
  obtain ⟨h1, h2, h3, h4, h5⟩ := (mayX_zero x).1 h
  have e1 : encX x ++ r = enc x.a ++ (enc (x.es.length : Int) ++ (evsE x.es ++ r)) := by simp only [encX, List.append_assoc]
  obtain ⟨a1, a2, a3⟩ := num_enc x.a (by omega) (enc (x.es.length : Int) ++ (evsE x.es ++ r)) false
  obtain ⟨b1, b2, b3⟩ := num_enc (x.es.length : Int) (by omega) (evsE x.es ++ r) false
  rw [e1, a2, b2]
  exact ⟨a1, a3, b1, b3, takeEs_enc x.es h3 r⟩
theorem takeX_iff (l : List UInt8) (x : Bat) : takeX l = some x ↔ mayX x = 0 ∧ encX x = l := by
  constructor
  · intro h
    unfold takeX at h
    split at h
    · cases h
    · split at h
      · next hc =>
        simp only [Option.some.injEq] at h
        subst h
        exact hc
      · cases h
  · rintro ⟨h, he⟩
    obtain ⟨a1, a2, a3, a4, a5⟩ := encX_read h []
    have hz := (mayX_zero x).1 h
    rw [List.append_nil, he] at a1 a2 a3 a4 a5
    unfold takeX
    have hk : (min (numV (numL l)) 17).toNat = x.es.length := by rw [a3]; omega
    rw [hk, a2, a4, a5]
    simp only
    have e : (⟨numV l, x.es⟩ : Bat) = x := by rw [a1]
    rw [e, if_pos ⟨h, he⟩]
theorem takeX_read {l : List UInt8} {x : Bat} (h : takeX l = some x) : numV l = x.a ∧ numB l false = false ∧ numV (numL l) = x.es.length ∧ numB (numL l) false = false ∧ takeEs x.es.length (numL (numL l)) false = some (x.es, []) ∧ mayX x = 0 := by
  obtain ⟨h1, h2⟩ := (takeX_iff l x).1 h
  obtain ⟨a1, a2, a3, a4, a5⟩ := encX_read h1 []
  rw [List.append_nil, h2] at a1 a2 a3 a4 a5
  exact ⟨a1, a2, a3, a4, a5, h1⟩
theorem takeX_of {l : List UInt8} {es : List Ev} (hn : numV (numL l) = es.length) (ht : takeEs es.length (numL (numL l)) (numB (numL l) (numB l false)) = some (es, [])) (hm : mayX ⟨numV l, es⟩ = 0) : takeX l = some ⟨numV l, es⟩ := by
  refine (takeX_iff _ _).2 ⟨hm, ?_⟩
  obtain ⟨k1, _, _, k4⟩ := takeEs_canon _ _ _ _ _ ht
  have hz := (mayX_zero _).1 hm
  simp only at hz
  have hb : numB (numL l) (numB l false) = false := by
    cases hc : numB (numL l) (numB l false) with
    | false => rfl
    | true =>
      have := k1 hc
      omega
  obtain ⟨h1, h2⟩ := num_canon hb
  obtain ⟨_, h3⟩ := num_canon h1
  rw [List.append_nil] at k4
  unfold encX
  simp only
  rw [← hn, ← k4, List.append_assoc, ← h2, ← h3]
theorem encX_le {x : Bat} (h : mayX x = 0) : (encX x).length ≤ 400000 := by
  obtain ⟨h1, h2, h3, h4, h5⟩ := (mayX_zero x).1 h
  have e1 := enc_le x.a (by omega) (by omega)
  have e2 := enc_le (x.es.length : Int) (by omega) (by omega)
  have e3 := evsE_le h3
  unfold encX
  simp only [List.length_append]
  omega
theorem takeX_encX {x : Bat} (h : mayX x = 0) : takeX (encX x) = some x := (takeX_iff _ _).2 ⟨h, rfl⟩
end Go.Proofs.YtppidbdkejkopaaGreatDoor.BtWalk
namespace Go.Proofs.YtppidbdkejkopaaGreatDoor.WlWalk
open Go.RowKit FrMath BtWalk
def tot (ys : List Bat) : Nat := (ys.map fun y => y.es.length).sum
theorem tot_nil : tot [] = 0 := rfl
theorem tot_cons (y : Bat) (ys : List Bat) : tot (y :: ys) = y.es.length + tot ys := by simp [tot]
theorem tot_append (xs ys : List Bat) : tot (xs ++ ys) = tot xs + tot ys := by simp [tot]
def chain : List (List UInt8) → Int → List Bat
  | [], _ => []
  | x :: xs, last => match takeX x with
    | none => []
    | some y => if y.a = last then y :: chain xs (last + (y.es.length : Int)) else []
theorem chain_none {x : List UInt8} (h : takeX x = none) (xs : List (List UInt8)) (last : Int) : chain (x :: xs) last = [] := by rw [chain, h]
theorem chain_off {x : List UInt8} {y : Bat} {last : Int} (h : takeX x = some y) (ha : y.a ≠ last) (xs : List (List UInt8)) : chain (x :: xs) last = [] := by rw [chain, h]; simp only; rw [if_neg ha]
theorem chain_on {x : List UInt8} {y : Bat} {last : Int} (h : takeX x = some y) (ha : y.a = last) (xs : List (List UInt8)) : chain (x :: xs) last = y :: chain xs (last + (y.es.length : Int)) := by rw [chain, h]; simp only; rw [if_pos ha]
def Chained : List Bat → Int → Prop
  | [], _ => True
  | y :: ys, last => mayX y = 0 ∧ (encX y).length ≤ maxF ∧ y.a = last ∧ Chained ys (last + (y.es.length : Int))
theorem Chained.all : ∀ {ys : List Bat} {last : Int}, Chained ys last → ∀ y ∈ ys, mayX y = 0 ∧ (encX y).length ≤ maxF
  | [], _, _, y, hy => by simp at hy
  | z :: ys, last, ⟨h1, h2, _, h4⟩, y, hy => by
    rw [List.mem_cons] at hy
    rcases hy with rfl | hy
    · exact ⟨h1, h2⟩
    · exact h4.all y hy
theorem chained_append : ∀ {xs ys : List Bat} {last : Int}, Chained (xs ++ ys) last ↔ Chained xs last ∧ Chained ys (last + (tot xs : Int))
  | [], ys, last => by simp [Chained, tot]
  | x :: xs, ys, last => by
    have ih := @chained_append xs ys (last + (x.es.length : Int))
    have e : last + (tot (x :: xs) : Int) = last + (x.es.length : Int) + (tot xs : Int) := by rw [tot_cons]; push_cast; omega
    rw [List.cons_append, e]
    simp only [Chained]
    rw [ih]
    constructor
    · rintro ⟨a, b, c, d, f⟩
      exact ⟨⟨a, b, c, d⟩, f⟩
    · rintro ⟨⟨a, b, c, d⟩, f⟩
      exact ⟨a, b, c, d, f⟩
theorem chain_chained : ∀ (fs : List (List UInt8)) (last : Int), (∀ x ∈ fs, x.length ≤ maxF) → Chained (chain fs last) last
  | [], _, _ => trivial
  | x :: xs, last, h => by
    cases ht : takeX x with
    | none =>
      rw [chain_none ht]
      trivial
    | some y =>
      by_cases ha : y.a = last
      · rw [chain_on ht ha]
        obtain ⟨h1, h2⟩ := (takeX_iff x y).1 ht
        exact ⟨h1, by rw [h2]; exact h x (by simp), ha, chain_chained xs _ fun z hz => h z (by simp [hz])⟩
      · rw [chain_off ht ha]
        trivial
theorem chain_of : ∀ (ys : List Bat) (last : Int) (fs : List (List UInt8)), Chained ys last → chain (ys.map encX ++ fs) last = ys ++ chain fs (last + (tot ys : Int))
  | [], last, fs, _ => by simp [tot]
  | y :: ys, last, fs, ⟨h1, _, h3, h4⟩ => by
    have e : last + (tot (y :: ys) : Int) = last + (y.es.length : Int) + (tot ys : Int) := by rw [tot_cons]; push_cast; omega
    rw [List.map_cons, List.cons_append, chain_on (takeX_encX h1) h3, chain_of ys _ fs h4, e]
    rfl
theorem chain_is : ∀ (fs : List (List UInt8)) (last : Int), ∃ gs, fs = (chain fs last).map encX ++ gs ∧ chain gs (last + (tot (chain fs last) : Int)) = []
  | [], last => ⟨[], rfl, rfl⟩
  | x :: xs, last => by
    cases ht : takeX x with
    | none =>
      rw [chain_none ht]
      exact ⟨x :: xs, rfl, chain_none ht _ _⟩
    | some y =>
      by_cases ha : y.a = last
      · rw [chain_on ht ha]
        obtain ⟨gs, h1, h2⟩ := chain_is xs (last + (y.es.length : Int))
        refine ⟨gs, ?_, ?_⟩
        · rw [List.map_cons, List.cons_append, ← h1, ((takeX_iff x y).1 ht).2]
        · have e : last + (tot (y :: chain xs (last + (y.es.length : Int))) : Int) = last + (y.es.length : Int) + (tot (chain xs (last + (y.es.length : Int))) : Int) := by rw [tot_cons]; push_cast; omega
          rw [e]
          exact h2
      · rw [chain_off ht ha]
        exact ⟨x :: xs, rfl, by simpa [tot] using chain_off ht ha xs⟩
def bytesW (ys : List Bat) : List UInt8 := joinF (ys.map encX)
theorem bytesW_nil : bytesW [] = [] := rfl
theorem bytesW_append (xs ys : List Bat) : bytesW (xs ++ ys) = bytesW xs ++ bytesW ys := by unfold bytesW; rw [List.map_append, joinF_append]
theorem bytesW_one (y : Bat) : bytesW [y] = frameF (encX y) := by unfold bytesW; rw [List.map_cons, List.map_nil, joinF_one]
def goodB (b : List UInt8) (last : Int) : List Bat := chain (scanF b) last
def goodN (b : List UInt8) (last : Int) : Nat := (bytesW (goodB b last)).length
theorem goodB_chained (b : List UInt8) (last : Int) : Chained (goodB b last) last := by
  obtain ⟨_, _, _, h⟩ := scanF_is b
  exact chain_chained _ _ h
theorem good_is (b : List UInt8) (last : Int) : ∃ r, b = bytesW (goodB b last) ++ r ∧ goodB r (last + (tot (goodB b last) : Int)) = [] := by
  obtain ⟨r, h1, h2, h3⟩ := scanF_is b
  obtain ⟨gs, g1, g2⟩ := chain_is (scanF b) last
  refine ⟨joinF gs ++ r, ?_, ?_⟩
  · unfold bytesW goodB
    rw [← List.append_assoc, ← joinF_append, ← g1]
    exact h1
  · have hg : ∀ x ∈ gs, x.length ≤ maxF := fun x hx => h3 x (by rw [g1]; simp [hx])
    unfold goodB
    rw [scanF_join gs hg, scanF_none h2, List.append_nil]
    exact g2
theorem good_of {ys : List Bat} {last : Int} (h : Chained ys last) (r : List UInt8) : goodB (bytesW ys ++ r) last = ys ++ goodB r (last + (tot ys : Int)) := by
  have hf : ∀ x ∈ ys.map encX, x.length ≤ maxF := fun x hx => by
    obtain ⟨y, hy, rfl⟩ := List.mem_map.1 hx
    exact (h.all y hy).2
  unfold goodB bytesW
  rw [scanF_join _ hf, chain_of ys last _ h]
theorem goodB_nil (last : Int) : goodB [] last = [] := by unfold goodB; rw [scanF_nil]; rfl
theorem good_self {ys : List Bat} {last : Int} (h : Chained ys last) : goodB (bytesW ys) last = ys ∧ goodN (bytesW ys) last = (bytesW ys).length := by
  have h1 := good_of h []
  rw [List.append_nil, goodB_nil, List.append_nil] at h1
  exact ⟨h1, by unfold goodN; rw [h1]⟩
theorem good_le (b : List UInt8) (last : Int) : goodN b last ≤ b.length := by
  obtain ⟨r, h, _⟩ := good_is b last
  have := congrArg List.length h
  rw [List.length_append] at this
  unfold goodN
  omega
theorem good_take (b : List UInt8) (last : Int) : b.take (goodN b last) = bytesW (goodB b last) := by
  obtain ⟨r, h, _⟩ := good_is b last
  unfold goodN
  generalize goodB b last = ys at *
  rw [h, List.take_left]
theorem good_full {b : List UInt8} {last : Int} (h : ¬ goodN b last < b.length) : b = bytesW (goodB b last) := by
  have h1 := good_take b last
  rw [List.take_of_length_le (by omega)] at h1
  exact h1
theorem good_tail {ys : List Bat} {last : Int} (h : Chained ys last) {r : List UInt8} (hr : takeF r = none) : goodB (bytesW ys ++ r) last = ys ∧ goodN (bytesW ys ++ r) last = (bytesW ys).length := by
  have h1 := good_of h r
  have h2 : goodB r (last + (tot ys : Int)) = [] := by unfold goodB; rw [scanF_none hr]; rfl
  rw [h2, List.append_nil] at h1
  exact ⟨h1, by unfold goodN; rw [h1]⟩
def readW : List (List UInt8) → Int → List Bat × Nat × Option Nat
  | [], _ => ([], 0, none)
  | b :: bs, last => if goodN b last < b.length then (goodB b last, 1, some (goodN b last))
    else (goodB b last ++ (readW bs (last + (tot (goodB b last) : Int))).1, (readW bs (last + (tot (goodB b last) : Int))).2.1 + 1, (readW bs (last + (tot (goodB b last) : Int))).2.2)
def fixW : List (List UInt8) → Int → List (List UInt8)
  | [], _ => []
  | b :: bs, last => if goodN b last < b.length then [b.take (goodN b last)] else b :: fixW bs (last + (tot (goodB b last) : Int))
theorem readW_cut {b : List UInt8} {last : Int} (h : goodN b last < b.length) (bs : List (List UInt8)) : readW (b :: bs) last = (goodB b last, 1, some (goodN b last)) := by rw [readW, if_pos h]
theorem readW_on {b : List UInt8} {last : Int} (h : ¬ goodN b last < b.length) (bs : List (List UInt8)) : readW (b :: bs) last = (goodB b last ++ (readW bs (last + (tot (goodB b last) : Int))).1, (readW bs (last + (tot (goodB b last) : Int))).2.1 + 1, (readW bs (last + (tot (goodB b last) : Int))).2.2) := by rw [readW, if_neg h]
theorem readW_chained : ∀ (bs : List (List UInt8)) (last : Int), Chained (readW bs last).1 last
  | [], _ => trivial
  | b :: bs, last => by
    by_cases h : goodN b last < b.length
    · rw [readW_cut h]
      exact goodB_chained b last
    · rw [readW_on h]
      exact chained_append.2 ⟨goodB_chained b last, readW_chained bs _⟩
theorem readW_of : ∀ (ss : List (List Bat)) (last : Int) (bs : List (List UInt8)), Chained ss.flatten last → readW (ss.map bytesW ++ bs) last = (ss.flatten ++ (readW bs (last + (tot ss.flatten : Int))).1, ss.length + (readW bs (last + (tot ss.flatten : Int))).2.1, (readW bs (last + (tot ss.flatten : Int))).2.2)
  | [], last, bs, _ => by simp [tot]
  | s :: ss, last, bs, h => by
    rw [List.flatten_cons] at h ⊢
    obtain ⟨h1, h2⟩ := chained_append.1 h
    obtain ⟨g1, g2⟩ := good_self h1
    have ih := readW_of ss (last + (tot s : Int)) bs h2
    have e : last + (tot (s ++ ss.flatten) : Int) = last + (tot s : Int) + (tot ss.flatten : Int) := by rw [tot_append]; push_cast; omega
    rw [List.map_cons, List.cons_append, readW_on (by rw [g2]; exact Nat.lt_irrefl _), g1, ih, e]
    simp only [List.append_assoc, List.length_cons]
    refine Prod.ext rfl (Prod.ext ?_ rfl)
    simp only
    omega
theorem readW_whole {ss : List (List Bat)} {last : Int} (h : Chained ss.flatten last) : readW (ss.map bytesW) last = (ss.flatten, ss.length, none) := by
  have := readW_of ss last [] h
  rw [List.append_nil] at this
  rw [this]
  simp [readW]
theorem fixW_of : ∀ (ss : List (List Bat)) (last : Int) (bs : List (List UInt8)), Chained ss.flatten last → fixW (ss.map bytesW ++ bs) last = ss.map bytesW ++ fixW bs (last + (tot ss.flatten : Int))
  | [], last, bs, _ => by simp [tot]
  | s :: ss, last, bs, h => by
    rw [List.flatten_cons] at h ⊢
    obtain ⟨h1, h2⟩ := chained_append.1 h
    obtain ⟨g1, g2⟩ := good_self h1
    have ih := fixW_of ss (last + (tot s : Int)) bs h2
    have e : last + (tot (s ++ ss.flatten) : Int) = last + (tot s : Int) + (tot ss.flatten : Int) := by rw [tot_append]; push_cast; omega
    rw [List.map_cons, List.cons_append, fixW, if_neg (by rw [g2]; exact Nat.lt_irrefl _), g1, ih, e]
    rfl
end Go.Proofs.YtppidbdkejkopaaGreatDoor.WlWalk
namespace Go.Proofs.YtppidbdkejkopaaGreatDoor.WlWalk
open Go.RowKit MemRow Ev NameMath NameWalk EvWalk DkWalk FrMath BtWalk
def manyF (D : Dk) : Nat → Nat → Nat
  | 0, n => n
  | f + 1, n => if readC D (segN (n + 1)) = 0 then manyF D f (n + 1) else n
def manyW (D : Dk) : Nat := manyF D 200 0
structure Rd11 where
  c : Int
  D : Dk
  all : List Bat
  many : Nat
  last : Int
  cut : Option Nat
def openR : Nat → Dk → Nat → Int → List Bat → Rd11
  | 0, D, i, last, all => ⟨0, D, all, i, last, none⟩
  | f + 1, D, i, last, all =>
    if goodN (readB D (segN (i + 1))) last < (readB D (segN (i + 1))).length then
      ⟨0, D, all ++ goodB (readB D (segN (i + 1))) last, i + 1, last + (tot (goodB (readB D (segN (i + 1))) last) : Int), some (goodN (readB D (segN (i + 1))) last)⟩
    else if (syncD D (segN (i + 1))).1 ≠ 0 then ⟨(syncD D (segN (i + 1))).1, (syncD D (segN (i + 1))).2, all, i + 1, last, none⟩
    else openR f (syncD D (segN (i + 1))).2 (i + 1) (last + (tot (goodB (readB D (segN (i + 1))) last) : Int)) (all ++ goodB (readB D (segN (i + 1))) last)
def removeW : Nat → Dk → Nat → Int × Dk
  | 0, D, _ => (0, D)
  | f + 1, D, k => if (removeD D (segN k)).1 ≠ 0 then removeD D (segN k) else removeW f (removeD D (segN k)).2 (k - 1)
def cutW (D : Dk) (k many n : Nat) : Int × Dk :=
  if (removeW (k - many) D k).1 ≠ 0 then removeW (k - many) D k
  else if (truncD (removeW (k - many) D k).2 (segN many) (n : Int)).1 ≠ 0 then truncD (removeW (k - many) D k).2 (segN many) (n : Int)
  else syncD (truncD (removeW (k - many) D k).2 (segN many) (n : Int)).2 (segN many)
def openW (D : Dk) : Int × Dk × Rd11 :=
  let r := openR (manyW D) D 0 0 []
  if r.c ≠ 0 then (r.c, r.D, r) else match r.cut with
    | none => (0, r.D, r)
    | some n => ((cutW r.D (manyW D) r.many n).1, (cutW r.D (manyW D) r.many n).2, r)
def nextW (D : Dk) (many : Nat) : Nat := if many = 0 ∨ 2048 ≤ (readB D (segN many)).length then many + 1 else many
def appendW (D : Dk) (many : Nat) (last : Int) (x : Bat) : Int × Dk × Nat × Int :=
  if mayX x ≠ 0 then (mayX x, D, many, last)
  else if x.a ≠ last then (1, D, many, last)
  else if maxF < (encX x).length then (3, D, many, last)
  else if (appendD D (segN (nextW D many)) (frameF (encX x))).1 ≠ 0 then ((appendD D (segN (nextW D many)) (frameF (encX x))).1, (appendD D (segN (nextW D many)) (frameF (encX x))).2, many, last)
  else if (syncD (appendD D (segN (nextW D many)) (frameF (encX x))).2 (segN (nextW D many))).1 ≠ 0 then ((syncD (appendD D (segN (nextW D many)) (frameF (encX x))).2 (segN (nextW D many))).1, (syncD (appendD D (segN (nextW D many)) (frameF (encX x))).2 (segN (nextW D many))).2, nextW D many, last)
  else (0, (syncD (appendD D (segN (nextW D many)) (frameF (encX x))).2 (segN (nextW D many))).2, nextW D many, last + (x.es.length : Int))
structure SegsD (D : Dk) (cs : List (List UInt8 × Nat)) : Prop where
  le : cs.length ≤ 200
  at_ : ∀ t p, lkF D.fs t = some p ↔ ∃ i, cs[i]? = some p ∧ t = segN (i + 1)
section
variable {D D' : Dk} {cs : List (List UInt8 × Nat)}
theorem SegsD.get (h : SegsD D cs) {i : Nat} {p : List UInt8 × Nat} (hi : cs[i]? = some p) : lkF D.fs (segN (i + 1)) = some p := (h.at_ _ _).2 ⟨i, hi, rfl⟩
theorem SegsD.no (h : SegsD D cs) {i : Nat} (hi : cs.length ≤ i) : lkF D.fs (segN (i + 1)) = none := by
  cases hl : lkF D.fs (segN (i + 1)) with
  | none => rfl
  | some p =>
    exfalso
    obtain ⟨j, hj, he⟩ := (h.at_ _ _).1 hl
    have hjl := (List.getElem?_eq_some_iff.1 hj).1
    have := segN_inj (by omega) (by have := h.le; omega) he.symm
    omega
theorem SegsD.same (h : SegsD D cs) (hf : D'.fs = D.fs) : SegsD D' cs := ⟨h.le, by rw [hf]; exact h.at_⟩
theorem SegsD.set (h : SegsD D cs) {i : Nat} (hi : i < cs.length) {q : List UInt8 × Nat} (hl : ∀ t, lkF D'.fs t = if t = segN (i + 1) then some q else lkF D.fs t) : SegsD D' (cs.set i q) := by
  have hle := h.le
  refine ⟨by rw [List.length_set]; exact hle, fun t p => ?_⟩
  rw [hl]
  by_cases ht : t = segN (i + 1)
  · rw [if_pos ht]
    constructor
    · intro he
      exact ⟨i, by rw [List.getElem?_set_self hi, he], ht⟩
    · rintro ⟨j, hj, e⟩
      have hjl := (List.getElem?_eq_some_iff.1 hj).1
      rw [List.length_set] at hjl
      have : i + 1 = j + 1 := segN_inj (by omega) (by omega) (by rw [← ht, e])
      obtain rfl : i = j := by omega
      rw [List.getElem?_set_self hi] at hj
      exact hj
  · rw [if_neg ht, h.at_]
    constructor
    · rintro ⟨j, hj, e⟩
      refine ⟨j, ?_, e⟩
      rw [List.getElem?_set_ne (fun hij => ht (by rw [e, hij]))]
      exact hj
    · rintro ⟨j, hj, e⟩
      refine ⟨j, ?_, e⟩
      rw [List.getElem?_set_ne (fun hij => ht (by rw [e, hij]))] at hj
      exact hj
theorem SegsD.push (h : SegsD D cs) (h2 : cs.length < 200) {q : List UInt8 × Nat} (hl : ∀ t, lkF D'.fs t = if t = segN (cs.length + 1) then some q else lkF D.fs t) : SegsD D' (cs ++ [q]) := by
  refine ⟨by rw [List.length_append]; simp; omega, fun t p => ?_⟩
  rw [hl]
  by_cases ht : t = segN (cs.length + 1)
  · rw [if_pos ht]
    constructor
    · intro he
      exact ⟨cs.length, by rw [List.getElem?_append_right (Nat.le_refl _), Nat.sub_self, ← he]; rfl, ht⟩
    · rintro ⟨j, hj, e⟩
      have hjl := (List.getElem?_eq_some_iff.1 hj).1
      rw [List.length_append, List.length_singleton] at hjl
      have : cs.length + 1 = j + 1 := segN_inj (by omega) (by omega) (by rw [← ht, e])
      obtain rfl : j = cs.length := by omega
      rw [List.getElem?_append_right (Nat.le_refl _), Nat.sub_self] at hj
      exact hj
  · rw [if_neg ht, h.at_]
    constructor
    · rintro ⟨j, hj, e⟩
      have hjl := (List.getElem?_eq_some_iff.1 hj).1
      exact ⟨j, by rw [List.getElem?_append_left hjl]; exact hj, e⟩
    · rintro ⟨j, hj, e⟩
      have hjl := (List.getElem?_eq_some_iff.1 hj).1
      rw [List.length_append, List.length_singleton] at hjl
      have hne : j ≠ cs.length := fun hj2 => ht (by rw [e, hj2])
      exact ⟨j, by rw [List.getElem?_append_left (by omega)] at hj; exact hj, e⟩
theorem SegsD.pop {q : List UInt8 × Nat} (h : SegsD D (cs ++ [q])) (hl : ∀ t, lkF D'.fs t = if t = segN (cs.length + 1) then none else lkF D.fs t) : SegsD D' cs := by
  have hle := h.le
  rw [List.length_append, List.length_singleton] at hle
  refine ⟨by omega, fun t p => ?_⟩
  rw [hl]
  by_cases ht : t = segN (cs.length + 1)
  · rw [if_pos ht]
    constructor
    · intro he
      cases he
    · rintro ⟨j, hj, e⟩
      have hjl := (List.getElem?_eq_some_iff.1 hj).1
      have : cs.length + 1 = j + 1 := segN_inj (by omega) (by omega) (by rw [← ht, e])
      omega
  · rw [if_neg ht, h.at_]
    constructor
    · rintro ⟨j, hj, e⟩
      have hjl := (List.getElem?_eq_some_iff.1 hj).1
      rw [List.length_append, List.length_singleton] at hjl
      have hne : j ≠ cs.length := fun hj2 => ht (by rw [e, hj2])
      exact ⟨j, by rw [List.getElem?_append_left (by omega)] at hj; exact hj, e⟩
    · rintro ⟨j, hj, e⟩
      have hjl := (List.getElem?_eq_some_iff.1 hj).1
      exact ⟨j, by rw [List.getElem?_append_left hjl]; exact hj, e⟩
theorem SegsD.crash (h : SegsD D cs) (hg : DkGo D) (keep : Int) : SegsD (crashD D keep) (cs.map fun p => (p.1.take (cutN keep p), cutN keep p)) := by
  refine ⟨by rw [List.length_map]; exact h.le, fun t p => ?_⟩
  rw [crash_lk hg]
  constructor
  · intro he
    cases hl : lkF D.fs t with
    | none =>
      rw [hl] at he
      cases he
    | some q =>
      rw [hl] at he
      obtain ⟨i, hi, e⟩ := (h.at_ _ _).1 hl
      exact ⟨i, by rw [List.getElem?_map, hi]; exact he, e⟩
  · rintro ⟨i, hi, e⟩
    rw [List.getElem?_map] at hi
    cases hc : cs[i]? with
    | none =>
      rw [hc] at hi
      cases hi
    | some q =>
      rw [hc] at hi
      rw [(h.at_ t q).2 ⟨i, hc, e⟩]
      exact hi
theorem SegsD.new (q : Int) : SegsD (newD q) [] := by
  refine ⟨by simp, fun t p => ?_⟩
  have : lkF (newD q).fs t = none := (lk_none t).2 (by simp [newD])
  rw [this]
  constructor
  · intro h
    cases h
  · rintro ⟨i, hi, _⟩
    simp at hi
theorem many_segs (h : SegsD D cs) : ∀ (f n : Nat), n ≤ cs.length → n + f = 200 → manyF D f n = cs.length
  | 0, n, h1, h2 => by
    have := h.le
    rw [manyF]
    omega
  | f + 1, n, h1, h2 => by
    rw [manyF]
    by_cases hn : n < cs.length
    · have hc : cs[n]? = some cs[n] := List.getElem?_eq_getElem hn
      rw [if_pos (read_some (h.get hc)).1]
      exact many_segs h f (n + 1) hn (by omega)
    · obtain rfl : n = cs.length := by omega
      rw [if_neg (by rw [(read_none (h.no (Nat.le_refl _))).1]; decide)]
theorem manyW_segs (h : SegsD D cs) : manyW D = cs.length := many_segs h 200 0 (Nat.zero_le _) rfl
end
end Go.Proofs.YtppidbdkejkopaaGreatDoor.WlWalk
namespace Go.Proofs.YtppidbdkejkopaaGreatDoor.DkWalk
open Go.RowKit Go.Maps MemRow Ev NameMath NameWalk EvWalk NumMem
def nC : ByteArray := ⟨#[99]⟩
end Go.Proofs.YtppidbdkejkopaaGreatDoor.DkWalk
namespace Go.Proofs.YtppidbdkejkopaaGreatDoor.DkWalk
open Go.RowKit MemRow Ev NameMath NameWalk EvWalk NumMem
def kindN (c : Int) (n : Nat) : Nat := ((if c < 0 then -(c + 1) else c) % n).toNat
theorem kindN_lt (c : Int) {n : Nat} (h : 0 < n) : kindN c n < n := by
  unfold kindN
  have h1 := Int.emod_nonneg (if c < 0 then -(c + 1) else c) (b := (n : Int)) (by omega)
  have h2 := Int.emod_lt_of_pos (if c < 0 then -(c + 1) else c) (b := (n : Int)) (by omega)
  omega
theorem kindN_eq (c : Int) {n : Nat} (h : 0 < n) : ((kindN c n : Nat) : Int) = (if c < 0 then -(c + 1) else c) % n := by
  unfold kindN
  exact Int.toNat_of_nonneg (Int.emod_nonneg _ (by omega))
end Go.Proofs.YtppidbdkejkopaaGreatDoor.DkWalk
namespace Go.Proofs.YtppidbdkejkopaaGreatDoor.DkWalk
open Go.RowKit Go.Maps MemRow Ev NameMath NameWalk EvWalk NumMem
def ptrR (v : Value) : Option (DataW Nat × List MemPlace) :=
  match v with
  | .pointer (some ⟨g, 0, none⟩) => some (.held g, [])
  | .pointer none => some (.nil, [])
  | _ => none
theorem ptrR_some (g : Nat) : ptrR (.pointer (some ⟨g, 0, none⟩)) = some (.held g, []) := rfl
theorem ptrR_none : ptrR (.pointer none) = some (.nil, []) := rfl
theorem ptrR_held {v : Value} {g : Nat} {ps : List MemPlace} (h : ptrR v = some (.held g, ps)) : v = .pointer (some ⟨g, 0, none⟩) := by
  unfold ptrR at h
  split at h
  · simp only [Option.some.injEq, Prod.mk.injEq, DataW.held.injEq] at h
    rw [h.1]
  · simp at h
  · cases h
theorem ptrR_nil {v : Value} {ps : List MemPlace} (h : ptrR v = some (.nil, ps)) : v = .pointer none := by
  unfold ptrR at h
  split at h
  · simp at h
  · rfl
  · cases h
theorem lawK : Keyed Tryz.prog 9 := string_keyed Tryz.underlying9
theorem keyS {s : ByteArray} (h : s.size ≤ maxLen) : keyOf Tryz.prog 9 (.string s) = some (keyF s) := Go.WideMaps.keyOf_string_mk Tryz.underlying9 h
structure Hd where
  k : Nat
  B : Option Addr
  nb : Nat
  cb : Nat
structure FileR (w : World) (F : Nat → Prop) (f : Fl) (h : Hd) : Prop where
  box : w.heap[h.k]? = some (.cells #[.slice h.B h.nb h.cb, .int .i64 f.safe] 97 (0, 0))
  own : Own w 0 5 h.B h.nb h.cb f.b
  fk : F h.k
  fb : ∀ a, h.B = some a → F a.block
def Apart (x y : Hd) : Prop := x.k ≠ y.k ∧ ∀ a b, x.B = some a → y.B = some b → a.block ≠ b.block
theorem Apart.symm {x y : Hd} (h : Apart x y) : Apart y x := ⟨fun e => h.1 e.symm, fun a b ha hb e => h.2 b a hb ha e.symm⟩
section
variable {w w' : World} {F G : Nat → Prop} {f : Fl} {h : Hd}
theorem FileR.lt (r : FileR w F f h) : h.k < w.heap.size := (Array.getElem?_eq_some_iff.1 r.box).1
theorem FileR.blt (r : FileR w F f h) : ∀ a, h.B = some a → a.block < w.heap.size := fun a ha => (World.ownsRow.lt r.own a.block (by simp [Value.ownBlock, ha])).2
theorem FileR.kept (r : FileR w F f h) (h1 : w'.heap[h.k]? = w.heap[h.k]?) (h2 : ∀ a, h.B = some a → w'.heap[a.block]? = w.heap[a.block]?) (hs : ∀ k, F k → G k) : FileR w' G f h :=
  ⟨h1.trans r.box, own8_keep r.own h2, hs _ r.fk, fun a ha => hs _ (r.fb a ha)⟩
theorem FileR.wide (r : FileR w F f h) (hs : ∀ k, F k → G k) : FileR w G f h := ⟨r.box, r.own, hs _ r.fk, fun a ha => hs _ (r.fb a ha)⟩
theorem FileR.grown {row : Option Nat} (r : FileR w F f h) (hg : w.grownBy w' row) (hk : some h.k ≠ row) (hb : ∀ a, h.B = some a → some a.block ≠ row) : FileR w' F f h :=
  r.kept (hg.block _ r.lt hk) (fun a ha => hg.block _ (r.blt a ha) (hb a ha)) fun _ hf => hf
theorem FileR.c0 (r : FileR w F f h) : w.cell? ⟨h.k, 0, none⟩ = some (.slice h.B h.nb h.cb) := by rw [cell_of_row w h.k 0 _ _ _ r.box]; rfl
theorem FileR.c1 (r : FileR w F f h) : w.cell? ⟨h.k, 1, none⟩ = some (.int .i64 f.safe) := by rw [cell_of_row w h.k 1 _ _ _ r.box]; rfl
theorem FileR.frozen (r : FileR w F f h) (i : Nat) : w.frozen? ⟨h.k, i, none⟩ = false := by simp [World.frozen?, r.box]
theorem FileR.not {g : Nat} {o : Obj} (r : FileR w F f h) (hg : w.heap[g]? = some o) (ho : ∀ cs T fr, o = .cells cs T fr → T ≠ 97 ∧ T ≠ 5) : h.k ≠ g ∧ ∀ a, h.B = some a → a.block ≠ g := by
  refine ⟨fun e => ?_, fun a ha e => ?_⟩
  · have h1 := r.box
    rw [e, hg] at h1
    injection h1 with h1
    exact (ho _ _ _ h1).1 rfl
  · rcases r.own.2 with ⟨hv, _⟩ | ⟨g', c, cur, hv, _, hg', _⟩
    · rw [ha] at hv
      cases hv
    · have e1 : h.B = some ⟨g', 0, none⟩ := by injection hv
      rw [ha] at e1
      injection e1 with e1
      rw [e1] at e
      simp only at e
      rw [e, hg] at hg'
      injection hg' with hg'
      exact (ho _ _ _ hg').2 rfl
end
theorem pairSet0 {w : World} {g : Nat} {c0 c1 x : Value} {T : TypeId} (h : w.heap[g]? = some (.cells #[c0, c1] T (0, 0))) : (w.setCell ⟨g, 0, none⟩ x).heap[g]? = some (.cells #[x, c1] T (0, 0)) := two_set0 h
theorem pairSet1 {w : World} {g : Nat} {c0 c1 x : Value} {T : TypeId} (h : w.heap[g]? = some (.cells #[c0, c1] T (0, 0))) : (w.setCell ⟨g, 1, none⟩ x).heap[g]? = some (.cells #[c0, x] T (0, 0)) := two_set1 h
theorem own8_first {w : World} {base : Nat} {t : TypeId} {A : Option Addr} {n cap : Nat} {l : List UInt8} (h : Own w base t A n cap l) {m : Nat} (hm : m ≤ n) : Own w base t A m cap (l.take m) := by
  have hl := h.len
  have h1 := h.1
  refine ⟨by rw [cellsOf_length, List.length_take]; omega, ?_⟩
  rcases h.2 with ⟨hv, hn⟩ | ⟨g, c, cur, hv, hb, hg, hnc, hcm, hcs, ht⟩
  · refine .inl ⟨?_, by omega⟩
    injection hv with e1 e2 e3
    rw [e1, e3]
    congr
    omega
  · injection hv with e1 e2 e3
    subst e1 e3
    refine .inr ⟨g, cap, cur, rfl, hb, hg, by omega, hcm, hcs, ?_⟩
    have e : cellsOf (l.take m) = (cellsOf l).take m := by simp [cellsOf, List.map_take]
    rw [e, ← ht, List.take_take]
    congr 1
    omega
structure LdAt (w : World) (g : Nat) (D : Dk) (F : Nat → Prop) (qv : Int) (mb : Nat) (fu : Bool) (lv : Int) (M : DataW Nat) (hd : ByteArray → Hd) : Prop where
  box : w.heap[g]? = some (.cells #[.int .i64 qv, .map (some mb), .bool fu, .int .i64 lv] 72 (0, 0))
  qz : max qv 0 = D.quota
  lz : D.left = if fu = true then lv else -1
  l0 : fu = true → 0 ≤ lv
  own : w.ownsMap Tryz.prog 9 ptrR mb D.fs.length M
  mp : MapOf M D.fs fun s => (hd s).k
  files : ∀ f ∈ D.fs, FileR w F f (hd f.name)
  apart : ∀ f ∈ D.fs, ∀ f' ∈ D.fs, f.name ≠ f'.name → Apart (hd f.name) (hd f'.name)
  fg : F g
  fm : F mb
  lt : ∀ k, F k → k < w.heap.size
theorem tight {H : Type} {w : World} {P : Program} {k : TypeId} {R : Value → Option (DataW H × List MemPlace)} {b n : Nat} {M : DataW H} (h : w.ownsMap P k R b n M) : w.ownsMap P k R b (Maps.size M) M := by
  obtain ⟨es, clock, hb, F, hs, hD⟩ := h
  refine ⟨es, clock, hb, F, ?_, hD⟩
  rw [hD, size_eq, length_sorted]
  simp
section
variable {w w' : World} {g : Nat} {D : Dk} {F G : Nat → Prop} {qv lv : Int} {mb : Nat} {fu : Bool} {M : DataW Nat} {hd : ByteArray → Hd}
theorem LdAt.c0 (h : LdAt w g D F qv mb fu lv M hd) : w.cell? ⟨g, 0, none⟩ = some (.int .i64 qv) := by rw [cell_of_row w g 0 _ _ _ h.box]; rfl
theorem LdAt.c1 (h : LdAt w g D F qv mb fu lv M hd) : w.cell? ⟨g, 1, none⟩ = some (.map (some mb)) := by rw [cell_of_row w g 1 _ _ _ h.box]; rfl
theorem LdAt.c2 (h : LdAt w g D F qv mb fu lv M hd) : w.cell? ⟨g, 2, none⟩ = some (.bool fu) := by rw [cell_of_row w g 2 _ _ _ h.box]; rfl
theorem LdAt.c3 (h : LdAt w g D F qv mb fu lv M hd) : w.cell? ⟨g, 3, none⟩ = some (.int .i64 lv) := by rw [cell_of_row w g 3 _ _ _ h.box]; rfl
theorem LdAt.frozen (h : LdAt w g D F qv mb fu lv M hd) (i : Nat) : w.frozen? ⟨g, i, none⟩ = false := by simp [World.frozen?, h.box]
theorem LdAt.block (h : LdAt w g D F qv mb fu lv M hd) : ∃ es clock, w.heap[mb]? = some (.map es clock) := by
  obtain ⟨es, clock, hb, _⟩ := h.own
  exact ⟨es, clock, hb⟩
theorem LdAt.ne (h : LdAt w g D F qv mb fu lv M hd) : mb ≠ g := by
  obtain ⟨es, clock, hb⟩ := h.block
  intro e
  rw [e, h.box] at hb
  injection hb with hb
  cases hb
theorem LdAt.far (h : LdAt w g D F qv mb fu lv M hd) {f : Fl} (hf : f ∈ D.fs) : (hd f.name).k ≠ g ∧ (hd f.name).k ≠ mb ∧ ∀ a, (hd f.name).B = some a → a.block ≠ g ∧ a.block ≠ mb := by
  obtain ⟨es, clock, hb⟩ := h.block
  have h1 := (h.files f hf).not h.box fun cs T fr e => by injection e with _ e _; subst e; decide
  have h2 := (h.files f hf).not hb fun cs T fr e => by cases e
  exact ⟨h1.1, h2.1, fun a ha => ⟨h1.2 a ha, h2.2 a ha⟩⟩
theorem LdAt.keep (h : LdAt w g D F qv mb fu lv M hd) (hs : w.heap.size ≤ w'.heap.size) (hk : ∀ k, F k → w'.heap[k]? = w.heap[k]?) : LdAt w' g D F qv mb fu lv M hd := by
  obtain ⟨es, clock, hb, ft, hn, hD⟩ := h.own
  exact ⟨(hk g h.fg).trans h.box, h.qz, h.lz, h.l0, ⟨es, clock, (hk mb h.fm).trans hb, ft, hn, hD⟩, h.mp, fun f hf => (h.files f hf).kept (hk _ (h.files f hf).fk) (fun a ha => hk _ ((h.files f hf).fb a ha)) (fun _ h => h), h.apart, h.fg, h.fm, fun k hf => Nat.lt_of_lt_of_le (h.lt k hf) hs⟩
theorem LdAt.below (h : LdAt w g D F qv mb fu lv M hd) (hb : Below w.heap.size w w') : LdAt w' g D F qv mb fu lv M hd := h.keep hb.size fun k hf => hb.block k (h.lt k hf)
theorem LdAt.wide (h : LdAt w g D F qv mb fu lv M hd) (hs : ∀ k, F k → G k) (hl : ∀ k, G k → k < w.heap.size) : LdAt w g D G qv mb fu lv M hd :=
  ⟨h.box, h.qz, h.lz, h.l0, h.own, h.mp, fun f hf => (h.files f hf).wide hs, h.apart, hs _ h.fg, hs _ h.fm, hl⟩
theorem four_set {w : World} {g i : Nat} {c0 c1 c2 c3 x : Value} {T : TypeId} (h : w.heap[g]? = some (.cells #[c0, c1, c2, c3] T (0, 0))) (hi : i < 4) : (w.setCell ⟨g, i, none⟩ x).heap[g]? = some (.cells (#[c0, c1, c2, c3].set i x (by simpa using hi)) T (0, 0)) := by
  simp only [World.setCell, Array.getElem?_modify, h]
  match i, hi with
  | 0, _ => rfl
  | 1, _ => rfl
  | 2, _ => rfl
  | 3, _ => rfl
theorem LdAt.boxed (h : LdAt w g D F qv mb fu lv M hd) (hg : w.grownBy w' (some g)) {q' l' L' : Int} {fu' : Bool} {Q' : Int} (hb : w'.heap[g]? = some (.cells #[.int .i64 q', .map (some mb), .bool fu', .int .i64 l'] 72 (0, 0))) (hq : max q' 0 = Q') (hl : L' = if fu' = true then l' else -1) (h0 : fu' = true → 0 ≤ l') :
    LdAt w' g ⟨Q', L', D.fs⟩ F q' mb fu' l' M hd :=
  ⟨hb, hq, hl, h0, h.own.kept hg (fun e => h.ne (by injection e)), h.mp, fun f hf => (h.files f hf).grown hg (fun e => (h.far hf).1 (by injection e)) (fun a ha e => ((h.far hf).2.2 a ha).1 (by injection e)), h.apart, h.fg, h.fm, fun k hf => Nat.lt_of_lt_of_le (h.lt k hf) hg.size⟩
theorem LdAt.setL (h : LdAt w g D F qv mb fu lv M hd) (x : Int) (hf : fu = true) (h0 : 0 ≤ x) : LdAt (w.setCell ⟨g, 3, none⟩ (.int .i64 x)) g ⟨D.quota, x, D.fs⟩ F qv mb fu x M hd := by
  have hs := grownSet w g 3 (.int .i64 x)
  exact h.boxed hs (four_set h.box (by omega)) h.qz (by rw [if_pos hf]) (fun _ => h0)
theorem LdAt.size (h : LdAt w g D F qv mb fu lv M hd) (hr : Rising D.fs) : Maps.size M = D.fs.length := h.mp.size (h.own.canon lawK) hr
theorem LdAt.isMap (h : LdAt w g D F qv mb fu lv M hd) : IsMap M := by
  obtain ⟨es, e, _⟩ := h.own.canon lawK
  exact ⟨es, e⟩
def ptrOf (fs : List Fl) (hd : ByteArray → Hd) (s : ByteArray) : Value := if idxF fs s < fs.length then .pointer (some ⟨(hd s).k, 0, none⟩) else .pointer none
theorem zeroPtr (W : World) : (zeroValue 95).run Tryz.prog W = .ok (.pointer none) W := Tryz.zeroValue95 W
theorem LdAt.value (h : LdAt w g D F qv mb fu lv M hd) (s : ByteArray) {v : Value} {ps : List MemPlace} (hv : ptrR v = some (M.atKey (keyF s) .nil, ps)) : v = ptrOf D.fs hd s := by
  unfold ptrOf
  by_cases hk : idxF D.fs s < D.fs.length
  · rw [if_pos hk]
    have h1 := h.mp.at_ _ (fl_get hk) .nil
    rw [idxF_name hk] at h1
    rw [h1] at hv
    exact ptrR_held hv
  · rw [if_neg hk]
    have h1 := h.mp.hasS s
    rw [decide_eq_false hk] at h1
    rw [atKey_of_not_has h1] at hv
    exact ptrR_nil hv
theorem LdAt.look (h : LdAt w g D F qv mb fu lv M hd) {s : ByteArray} (hs : s.size ≤ maxLen) : (Instr.lookup 70 (.map (some mb)) (.string s) false).run Tryz.prog w = .ok (ptrOf D.fs hd s) w := by
  obtain ⟨v, ps, hrun, hv⟩ := h.own.lookup lawK Tryz.underlying70 (zeroPtr w) ptrR_none (keyS hs)
  rw [hrun, h.value s hv]
theorem LdAt.look_ok (h : LdAt w g D F qv mb fu lv M hd) {s : ByteArray} (hs : s.size ≤ maxLen) : (Instr.lookup 70 (.map (some mb)) (.string s) true).run Tryz.prog w = .ok (.tuple #[ptrOf D.fs hd s, .bool (decide (idxF D.fs s < D.fs.length))]) w := by
  obtain ⟨v, ps, hrun, hv⟩ := h.own.look_ok lawK Tryz.underlying70 (zeroPtr w) ptrR_none (keyS hs)
  rw [hrun, h.value s hv, h.mp.hasS s]
theorem LdAt.file (h : LdAt w g D F qv mb fu lv M hd) {s : ByteArray} (hk : idxF D.fs s < D.fs.length) : FileR w F (D.fs.getD (idxF D.fs s) noFl) (hd s) ∧ (hd s).k ≠ g ∧ (hd s).k ≠ mb := by
  have h1 := h.files _ (fl_get hk)
  have h2 := h.far (fl_get hk)
  rw [idxF_name hk] at h1 h2
  exact ⟨h1, h2.1, h2.2.1⟩
def setH (hd : ByteArray → Hd) (s : ByteArray) (x : Hd) : ByteArray → Hd := fun t => if t = s then x else hd t
theorem setH_at (hd : ByteArray → Hd) (s : ByteArray) (x : Hd) : setH hd s x s = x := if_pos rfl
theorem setH_ne (hd : ByteArray → Hd) {s t : ByteArray} (x : Hd) (h : t ≠ s) : setH hd s x t = hd t := if_neg h
theorem LdAt.wroteG (h : LdAt w g D F qv mb fu lv M hd) {s : ByteArray} (hk : idxF D.fs s < D.fs.length) {fs' : List Fl} {f : Fl} {x : Hd} (hn : f.name = s) (hset : SetTo fs' D.fs f) (hlen : fs'.length = D.fs.length) (hxk : x.k = (hd s).k)
    (hc : Ch (fun k => k = (hd s).k ∨ ∃ a, (hd s).B = some a ∧ k = a.block) w w') (hB : ∀ a, x.B = some a → (∃ b, (hd s).B = some b ∧ a.block = b.block) ∨ (w.heap.size ≤ a.block ∧ a.block < w'.heap.size))
    (hFG : ∀ k, F k → G k) (hGl : ∀ k, G k → k < w'.heap.size) (hBG : ∀ a, x.B = some a → G a.block)
    (hb : w'.heap[x.k]? = some (.cells #[.slice x.B x.nb x.cb, .int .i64 f.safe] 97 (0, 0))) (ho : Own w' 0 5 x.B x.nb x.cb f.b) :
    LdAt w' g ⟨D.quota, D.left, fs'⟩ G qv mb fu lv M (setH hd s x) := by
  obtain ⟨fr, fk1, fk2⟩ := h.file hk
  have hfar := h.far (fl_get hk)
  rw [idxF_name hk] at hfar
  have glt := h.lt g h.fg
  have mlt := h.lt mb h.fm
  have kg : w'.heap[g]? = w.heap[g]? := hc.block g glt fun e => by
    rcases e with e | ⟨a, ha, e⟩
    · exact fk1 e.symm
    · exact (hfar.2.2 a ha).1 e.symm
  have km : w'.heap[mb]? = w.heap[mb]? := hc.block mb mlt fun e => by
    rcases e with e | ⟨a, ha, e⟩
    · exact fk2 e.symm
    · exact (hfar.2.2 a ha).2 e.symm
  have hfs : ∀ y ∈ D.fs, y.name ≠ s → Apart (hd y.name) (hd s) := fun y hy hne => by
    have h1 := h.apart y hy _ (fl_get hk) (by rw [idxF_name hk]; exact hne)
    rwa [idxF_name hk] at h1
  have hyk : ∀ y ∈ D.fs, y.name ≠ s → FileR w' F y (hd y.name) := fun y hy hne => by
    have hr := h.files y hy
    have ha := hfs y hy hne
    have e : ∀ b : Nat, b ≠ (hd s).k → (∀ a, (hd s).B = some a → b ≠ a.block) → b < w.heap.size → w'.heap[b]? = w.heap[b]? := fun b h1 h2 h3 => hc.block b h3 fun e => by
      rcases e with e | ⟨a, ha, e⟩
      · exact h1 e
      · exact h2 a ha e
    have tk := hr.not fr.box
    refine hr.kept (e _ ha.1 (fun a hb2 he => ?_) hr.lt) (fun a hb2 => e _ (fun he => ?_) (fun b hb3 => ha.2 a b hb2 hb3) (hr.blt a hb2)) fun _ h => h
    · exact own8_not fr.own hr.box (by decide) a hb2 he.symm
    · exact own8_not hr.own fr.box (by decide) a hb2 he
  obtain ⟨es, clock, hbm, ft, hsz, hD⟩ := h.own
  refine ⟨kg.trans h.box, h.qz, h.lz, h.l0, ⟨es, clock, km.trans hbm, ft, by rw [hlen]; exact hsz, hD⟩, ?_, fun y hy => ?_, fun y hy z hz hne => ?_, hFG _ h.fg, hFG _ h.fm, hGl⟩
  · refine h.mp.same (fun t => ⟨?_, ?_⟩) fun y hy => ?_
    · rintro ⟨y, hy, rfl⟩
      rcases (hset y).1 hy with rfl | ⟨hy, _⟩
      · exact ⟨_, fl_get hk, by rw [idxF_name hk, hn]⟩
      · exact ⟨y, hy, rfl⟩
    · rintro ⟨y, hy, rfl⟩
      by_cases e : y.name = f.name
      · exact ⟨f, (hset f).2 (.inl rfl), e.symm⟩
      · exact ⟨y, (hset y).2 (.inr ⟨hy, e⟩), rfl⟩
    · unfold setH
      split
      · next e => rw [hxk, e]
      · rfl
  · rcases (hset y).1 hy with rfl | ⟨hy, hne⟩
    · rw [hn, setH_at]
      exact ⟨hb, ho, by rw [hxk]; exact hFG _ fr.fk, hBG⟩
    · rw [hn] at hne
      rw [setH_ne _ _ hne]
      exact (hyk y hy hne).wide hFG
  · have new : ∀ y ∈ D.fs, y.name ≠ s → Apart (hd y.name) x := fun y hy hne2 => by
      have ha := hfs y hy hne2
      refine ⟨by rw [hxk]; exact ha.1, fun a b h1 h2 e => ?_⟩
      rcases hB b h2 with ⟨c, hc2, e2⟩ | h3
      · exact ha.2 a c h1 hc2 (by rw [e, e2])
      · have := (h.files y hy).blt a h1
        omega
    rcases (hset y).1 hy with rfl | ⟨hy, hny⟩
    · rcases (hset z).1 hz with rfl | ⟨hz, hnz⟩
      · exact absurd rfl hne
      · rw [hn] at hnz
        rw [hn, setH_at, setH_ne _ _ hnz]
        exact (new z hz hnz).symm
    · rcases (hset z).1 hz with rfl | ⟨hz, hnz⟩
      · rw [hn] at hny
        rw [hn, setH_at, setH_ne _ _ hny]
        exact new y hy hny
      · rw [hn] at hny hnz
        rw [setH_ne _ _ hny, setH_ne _ _ hnz]
        exact h.apart y hy z hz hne
theorem LdAt.wrote (h : LdAt w g D F qv mb fu lv M hd) {s : ByteArray} (hk : idxF D.fs s < D.fs.length) {fs' : List Fl} {f : Fl} {x : Hd} (hn : f.name = s) (hset : SetTo fs' D.fs f) (hlen : fs'.length = D.fs.length) (hxk : x.k = (hd s).k)
    (hc : Ch (fun k => k = (hd s).k ∨ ∃ a, (hd s).B = some a ∧ k = a.block) w w') (hB : ∀ a, x.B = some a → (∃ b, (hd s).B = some b ∧ a.block = b.block) ∨ (w.heap.size ≤ a.block ∧ a.block < w'.heap.size))
    (hb : w'.heap[x.k]? = some (.cells #[.slice x.B x.nb x.cb, .int .i64 f.safe] 97 (0, 0))) (ho : Own w' 0 5 x.B x.nb x.cb f.b) :
    LdAt w' g ⟨D.quota, D.left, fs'⟩ (up F w w') qv mb fu lv M (setH hd s x) :=
  h.wroteG hk hn hset hlen hxk hc hB (fun _ hk => .inl hk) (fun _ hk => up_lt h.lt hc.size hk) (fun a ha => by
    rcases hB a ha with ⟨b, hb2, e⟩ | h2
    · rw [e]
      exact .inl ((h.file hk).1.fb b hb2)
    · exact .inr h2) hb ho
theorem LdAt.named (h : LdAt w g D F qv mb fu lv M hd) {fs' : List Fl} (hr' : Rising fs') {f : Fl} {x : Hd} (hset : SetTo fs' D.fs f) {n' : Nat} (ho : w'.ownsMap Tryz.prog 9 ptrR mb n' (M.put (keyF f.name) (.held x.k))) (hg : w.grownBy w' (some mb)) (hx : FileR w F f x)
    (ha : ∀ y ∈ D.fs, y.name ≠ f.name → Apart (hd y.name) x) : LdAt w' g ⟨D.quota, D.left, fs'⟩ F qv mb fu lv (M.put (keyF f.name) (.held x.k)) (setH hd f.name x) := by
  have hmp : MapOf (M.put (keyF f.name) (.held x.k)) fs' fun s => (setH hd f.name x s).k := h.mp.put h.isMap hset x.k (by rw [setH_at]) fun s hs => by rw [setH_ne _ _ hs]
  have hsz := hmp.size (ho.canon lawK) hr'
  obtain ⟨es, clock, hb⟩ := h.block
  have hxm := hx.not hb fun cs T fr e => by cases e
  refine ⟨(hg.block g (h.lt g h.fg) (fun e => h.ne (by injection e with e; exact e.symm))).trans h.box, h.qz, h.lz, h.l0, by rw [← hsz]; exact tight ho, hmp, fun y hy => ?_, fun y hy z hz hne => ?_, h.fg, h.fm, fun k hf => Nat.lt_of_lt_of_le (h.lt k hf) hg.size⟩
  · rcases (hset y).1 hy with rfl | ⟨hy, hne⟩
    · rw [setH_at]
      exact hx.grown hg (fun e => hxm.1 (by injection e)) fun a ha e => hxm.2 a ha (by injection e)
    · rw [setH_ne _ _ hne]
      exact (h.files y hy).grown hg (fun e => (h.far hy).2.1 (by injection e)) fun a ha e => ((h.far hy).2.2 a ha).2 (by injection e)
  · rcases (hset y).1 hy with rfl | ⟨hy, hny⟩
    · rcases (hset z).1 hz with rfl | ⟨hz, hnz⟩
      · exact absurd rfl hne
      · rw [setH_at, setH_ne _ _ hnz]
        exact (ha z hz hnz).symm
    · rcases (hset z).1 hz with rfl | ⟨hz, hnz⟩
      · rw [setH_at, setH_ne _ _ hny]
        exact ha y hy hny
      · rw [setH_ne _ _ hny, setH_ne _ _ hnz]
        exact h.apart y hy z hz hne
theorem LdAt.dropped (h : LdAt w g D F qv mb fu lv M hd) {s : ByteArray} {fs' : List Fl} (hr' : Rising fs') (hset : ∀ y, y ∈ fs' ↔ y ∈ D.fs ∧ y.name ≠ s) {n' : Nat} (ho : w'.ownsMap Tryz.prog 9 ptrR mb n' (M.del (keyF s))) (hg : w.grownBy w' (some mb)) :
    LdAt w' g ⟨D.quota, D.left, fs'⟩ F qv mb fu lv (M.del (keyF s)) hd := by
  have hmp : MapOf (M.del (keyF s)) fs' fun s => (hd s).k := h.mp.del hset
  have hsz := hmp.size (ho.canon lawK) hr'
  refine ⟨(hg.block g (h.lt g h.fg) (fun e => h.ne (by injection e with e; exact e.symm))).trans h.box, h.qz, h.lz, h.l0, by rw [← hsz]; exact tight ho, hmp, fun y hy => ?_, fun y hy z hz hne => h.apart y ((hset y).1 hy).1 z ((hset z).1 hz).1 hne, h.fg, h.fm, fun k hf => Nat.lt_of_lt_of_le (h.lt k hf) hg.size⟩
  have hy := ((hset y).1 hy).1
  exact (h.files y hy).grown hg (fun e => (h.far hy).2.1 (by injection e)) fun a ha e => ((h.far hy).2.2 a ha).2 (by injection e)
end
def LdIs (w : World) (g : Nat) (D : Dk) (F : Nat → Prop) : Prop := ∃ qv mb fu lv M hd, LdAt w g D F qv mb fu lv M hd
def DidL (c : Int) (D' : Dk) (g : Nat) (F : Nat → Prop) (w : World) (e : Ending) (w' : World) : Prop := e = .returned (.int .i64 c) ∧ LdIs w' g D' (up F w w') ∧ Ch F w w'
theorem DidL.of {c : Int} {D' : Dk} {g : Nat} {F : Nat → Prop} {w w' : World} {qv lv : Int} {mb : Nat} {fu : Bool} {M : DataW Nat} {hd : ByteArray → Hd} (h : LdAt w' g D' F qv mb fu lv M hd) (hl : ∀ k, F k → k < w.heap.size) (hc : Ch F w w') : DidL c D' g F w (.returned (.int .i64 c)) w' :=
  ⟨rfl, ⟨_, _, _, _, _, _, h.wide (fun _ hf => .inl hf) (fun _ hk => up_lt hl hc.size hk)⟩, hc⟩
theorem LdIs.keep {w w' : World} {g : Nat} {D : Dk} {F : Nat → Prop} (h : LdIs w g D F) (hs : w.heap.size ≤ w'.heap.size) (hk : ∀ k, F k → w'.heap[k]? = w.heap[k]?) : LdIs w' g D F := by
  obtain ⟨qv, mb, fu, lv, M, hd, h⟩ := h
  exact ⟨qv, mb, fu, lv, M, hd, h.keep hs hk⟩
theorem LdIs.wide {w : World} {g : Nat} {D : Dk} {F G : Nat → Prop} (h : LdIs w g D F) (hs : ∀ k, F k → G k) (hl : ∀ k, G k → k < w.heap.size) : LdIs w g D G := by
  obtain ⟨qv, mb, fu, lv, M, hd, h⟩ := h
  exact ⟨qv, mb, fu, lv, M, hd, h.wide hs hl⟩
theorem LdIs.lt {w : World} {g : Nat} {D : Dk} {F : Nat → Prop} (h : LdIs w g D F) : ∀ k, F k → k < w.heap.size := by
  obtain ⟨qv, mb, fu, lv, M, hd, h⟩ := h
  exact h.lt
end Go.Proofs.YtppidbdkejkopaaGreatDoor.DkWalk
namespace Go.Proofs.YtppidbdkejkopaaGreatDoor.DkWalk
open Go.RowKit Go.Maps MemRow Ev NameMath NameWalk EvWalk NumMem
set_option maxHeartbeats 4000000 in
set_option maxRecDepth 100000 in
theorem mayHave_any (c : UInt8) (w : World) : Calls Tryz.prog 91 #[.int .u8 (c.toNat : Int)] w fun e w' => e = .returned (.bool (chN c)) ∧ w = w' := by
  have hch : chN c = decide ((97 ≤ c.toNat ∧ c.toNat ≤ 122) ∨ (48 ≤ c.toNat ∧ c.toNat ≤ 57) ∨ c.toNat = 95) := rfl
  have hx := UInt8.toNat_lt c
  generalize chN c = b at *
  generalize c.toNat = x at *
  have HB := Go.Lib.hid hch
  clear hch
  have cases5 : (97 ≤ x ∧ x ≤ 122) ∨ 122 < x ∨ x < 48 ∨ (48 ≤ x ∧ x ≤ 57) ∨ (57 < x ∧ x < 97) := by omega
  rcases cases5 with ⟨h1, h2⟩ | h1 | h1 | ⟨h1, h2⟩ | ⟨h1, h2⟩
  · have hb : b = true := by rw [HB.out]; exact decide_eq_true (by omega)
    subst hb
    have k1 : (97 : Int) ≤ x := by omega
    have k2 : (x : Int) ≤ 122 := by omega
    go_enter Tryz.func91, Tryz.ntmps91
    go_wp2_with fail
    go_ret
    exact ⟨rfl, rfl⟩
  · have hb : b = false := by rw [HB.out]; exact decide_eq_false (by omega)
    subst hb
    have k1 : (97 : Int) ≤ x := by omega
    have k2 : ¬ (x : Int) ≤ 122 := by omega
    have k3 : (48 : Int) ≤ x := by omega
    have k4 : ¬ (x : Int) ≤ 57 := by omega
    have k6 : ((x : Int) == 95) = false := by rw [beq_eq_false_iff_ne]; omega
    go_enter Tryz.func91, Tryz.ntmps91
    go_wp2_with fail
    go_ret
    exact ⟨rfl, rfl⟩
  · have hb : b = false := by rw [HB.out]; exact decide_eq_false (by omega)
    subst hb
    have k1 : ¬ (97 : Int) ≤ x := by omega
    have k3 : ¬ (48 : Int) ≤ x := by omega
    have k6 : ((x : Int) == 95) = false := by rw [beq_eq_false_iff_ne]; omega
    go_enter Tryz.func91, Tryz.ntmps91
    go_wp2_with fail
    go_ret
    exact ⟨rfl, rfl⟩
  · have hb : b = true := by rw [HB.out]; exact decide_eq_true (by omega)
    subst hb
    have k1 : ¬ (97 : Int) ≤ x := by omega
    have k3 : (48 : Int) ≤ x := by omega
    have k4 : (x : Int) ≤ 57 := by omega
    go_enter Tryz.func91, Tryz.ntmps91
    go_wp2_with fail
    go_ret
    exact ⟨rfl, rfl⟩
  · have k1 : ¬ (97 : Int) ≤ x := by omega
    have k3 : (48 : Int) ≤ x := by omega
    have k4 : ¬ (x : Int) ≤ 57 := by omega
    by_cases h95 : x = 95
    · subst h95
      have hb : b = true := by rw [HB.out]; rfl
      subst hb
      go_enter Tryz.func91, Tryz.ntmps91
      go_wp2_with fail
      go_ret
      exact ⟨rfl, rfl⟩
    · have hb : b = false := by rw [HB.out]; exact decide_eq_false (by omega)
      subst hb
      have k6 : ((x : Int) == 95) = false := by rw [beq_eq_false_iff_ne]; omega
      go_enter Tryz.func91, Tryz.ntmps91
      go_wp2_with fail
      go_ret
      exact ⟨rfl, rfl⟩
theorem conv_text (s : ByteArray) (w : World) : ∃ c w2, (convert 9 58 (.string s)).run Tryz.prog w = .ok (.slice (some ⟨w.heap.size, 0, none⟩) s.size c) w2 ∧ Below w.heap.size w w2 ∧ ∀ j (hj : j < s.size), w2.cell? ⟨w.heap.size, j, none⟩ = some (.int .u8 ((s[j]'hj).toNat : Int)) := by
  refine ⟨_, _, Lib.run_convert_string_bytes w _ _ 5 s Tryz.underlying9 Tryz.underlying58 Tryz.underlying5, ⟨rfl, rfl, rfl, by rw [Lib.bytesWorld_size]; omega, fun k hk => Lib.bytesWorld_at_old w _ s k hk⟩, fun j hj => ?_⟩
  rw [Lib.bytesWorld_cell w _ s j hj]
  have hl : j < s.data.toList.length := by have := size_list s; omega
  rw [List.getD_eq_getElem?_getD, List.getElem?_eq_getElem hl]
  rfl
set_option maxHeartbeats 4000000 in
set_option maxRecDepth 100000 in
theorem mayL_any (s : ByteArray) (w : World) (hs : s.size ≤ maxLen) :
    Calls Tryz.prog 60 #[.string s] w fun e w' => e = .returned (.bool (mayN s)) ∧ Below w.heap.size w w' := by
  have hsz := size_list s
  unfold maxLen at hs
  generalize hR : mayN s = R
  have HR := Go.Lib.hid hR
  have HSZ := Go.Lib.hid hsz
  clear hR hsz
  by_cases h1 : 1 ≤ s.size
  · have k1 : ¬ (s.size : Int) < 1 := by omega
    by_cases h2 : s.size ≤ 20
    · have k2 : ¬ (20 : Int) < s.size := by omega
      obtain ⟨c, w2, hq, hb, hc⟩ := conv_text s w
      have B2 := Go.Lib.hid hb
      clear hb
      go_enter Tryz.func60, Tryz.ntmps60
      go_wp2_with fail
      go_loopw [4, 16] (fun _ i wr => ∃ j : Nat, j ≤ s.size ∧ i = .int .i64 j ∧ Hid ((s.data.toList.take j).all chN = true) ∧ w2 = wr) (fun _ i _ => s.size - (intOf i).toNat)
      case atStart => exact ⟨0, Nat.zero_le _, rfl, Go.Lib.hid rfl, rfl⟩
      case round =>
        obtain ⟨j, hj, rfl, HQ, rfl⟩ := hrel
        by_cases hlt : j < s.size
        · have i1 : (j : Int) < s.size := by omega
          have i0 : (0 : Int) ≤ j := by omega
          have HT := Go.Lib.hid (take_byte s j hlt)
          have hcj := hc j hlt
          generalize s[j]'hlt = c at *
          have HA : Hid ((s.data.toList.take (j + 1)).all chN = chN c) := Go.Lib.hid (by rw [HT.out, List.all_append, HQ.out]; simp)
          have HM : Hid (chN c = false → mayN s = false) := Go.Lib.hid (fun h => by
            have h1 := HA.out
            rw [h] at h1
            unfold mayN
            cases ha : s.data.toList.all chN with
            | false => rfl
            | true =>
              exfalso
              have h2 : (s.data.toList.take (j + 1)).all chN = true := List.all_eq_true.2 fun x hx => List.all_eq_true.1 ha x (List.mem_of_mem_take hx)
              rw [h2] at h1
              cases h1)
          clear hc HT
          go_wp2_with fail
          refine (mayHave_any c w2).mono ?_
          rintro e w' ⟨rfl, rfl⟩
          generalize chN c = b at *
          cases b with
          | true =>
            go_wp2_with fail
            go_roundw
            case rel => exact ⟨j + 1, by omega, by go_num, HA, by trivial⟩
            case measure => simp [intOf]; omega
          | false =>
            have hr : R = false := by rw [← HR.out]; exact HM.out rfl
            subst hr
            go_wp2_with fail
            go_ret
            exact ⟨rfl, B2.out⟩
        · obtain rfl : s.size = j := by omega
          have hr : R = true := by
            have h3 := HQ.out
            rw [HSZ.out, List.take_length] at h3
            rw [← HR.out]
            unfold mayN
            rw [h3]
            exact decide_eq_true ⟨h1, h2⟩
          subst hr
          clear HQ HR
          go_wp2_with fail
          go_ret
          exact ⟨rfl, B2.out⟩
    · have k2 : (20 : Int) < s.size := by omega
      obtain rfl : R = false := by rw [← HR.out]; unfold mayN; rw [decide_eq_false (fun h => h2 h.2), Bool.and_false]
      clear HR
      go_enter Tryz.func60, Tryz.ntmps60
      go_wp2_with fail
      go_ret
      exact ⟨rfl, Below.refl _ _⟩
  · have k1 : (s.size : Int) < 1 := by omega
    obtain rfl : R = false := by rw [← HR.out]; unfold mayN; rw [decide_eq_false (fun h => h1 h.1), Bool.and_false]
    clear HR
    go_enter Tryz.func60, Tryz.ntmps60
    go_wp2_with fail
    go_ret
    exact ⟨rfl, Below.refl _ _⟩
set_option maxRecDepth 100000 in
theorem newL_any (q : Int) (w : World) : Calls Tryz.prog 10 #[.int .i64 q] w fun e w' => ∃ g, e = .returned (.pointer (some ⟨g, 0, none⟩)) ∧ LdIs w' g (newD q) (fun k => w.heap.size ≤ k ∧ k < w'.heap.size) ∧ Below w.heap.size w w' := by
  have b1 : Below w.heap.size w ((w.alloc (.map #[] 0)).alloc (.cells #[.int .i64 q, .map (some w.heap.size), .bool false, .int .i64 0] 72)) := ((Below.refl _ _).alloc (Nat.le_refl _) _).alloc (by simp) _
  have hown : ((w.alloc (.map #[] 0)).alloc (.cells #[.int .i64 q, .map (some w.heap.size), .bool false, .int .i64 0] 72)).ownsMap Tryz.prog 9 ptrR w.heap.size 0 (.map []) := (World.ownsMap_made w Tryz.prog 9 ptrR).alloc _
  have e1 : (w.alloc (.map #[] 0)).heap.size = w.heap.size + 1 := by simp
  have hbox := heap_alloc_new (w.alloc (.map #[] 0)) (.cells #[.int .i64 q, .map (some w.heap.size), .bool false, .int .i64 0] 72)
  rw [e1] at hbox
  have hsz : ((w.alloc (.map #[] 0)).alloc (.cells #[.int .i64 q, .map (some w.heap.size), .bool false, .int .i64 0] 72)).heap.size = w.heap.size + 2 := by simp
  have h1 : LdAt ((w.alloc (.map #[] 0)).alloc (.cells #[.int .i64 q, .map (some w.heap.size), .bool false, .int .i64 0] 72)) (w.heap.size + 1) (newD q) (fun k => w.heap.size ≤ k ∧ k < ((w.alloc (.map #[] 0)).alloc (.cells #[.int .i64 q, .map (some w.heap.size), .bool false, .int .i64 0] 72)).heap.size) q w.heap.size false 0 (.map []) (fun _ => ⟨0, none, 0, 0⟩) :=
    ⟨hbox, rfl, rfl, fun h => (by cases h), hown, MapOf.empty _, fun _ h => (by simp [newD] at h), fun _ h => (by simp [newD] at h), ⟨by omega, by omega⟩, ⟨by omega, by omega⟩, fun k hk => hk.2⟩
  have HL := Go.Lib.hid h1
  have HB := Go.Lib.hid b1
  clear h1 b1 hown hbox
  have hmm := fun W => run_makeMap (P := Tryz.prog) 70 W
  go_enter Tryz.func10, Tryz.ntmps10
  go_wp2
  go_ret
  exact ⟨_, rfl, ⟨_, _, _, _, _, _, HL.out⟩, HB.out⟩
set_option maxRecDepth 100000 in
theorem stands_any (g : Nat) (D : Dk) (F : Nat → Prop) (qv : Int) (mb : Nat) (fu : Bool) (lv : Int) (M : DataW Nat) (hd : ByteArray → Hd) (w : World) (h : LdAt w g D F qv mb fu lv M hd) (hl : D.left ≤ 9223372036854775807) :
    Calls Tryz.prog 59 #[.pointer (some ⟨g, 0, none⟩)] w fun e w' => e = .returned (.bool (decide (D.left = 0))) ∧ (∃ lv', LdAt w' g (burnD D) F qv mb fu lv' M hd) ∧ w.grownBy w' (some g) := by
  have k2 := h.c2
  have k3 := h.c3
  have z3 := h.frozen 3
  have hz := h.lz
  have H := Go.Lib.hid h
  cases fu with
  | false =>
    have hz : D.left = -1 := hz
    have hb : burnD D = D := by
      unfold burnD
      rw [if_neg (by omega)]
    rw [hb, decide_eq_false (by omega)]
    clear hb hz h
    go_enter Tryz.func59, Tryz.ntmps59
    go_wp2
    go_ret
    exact ⟨rfl, ⟨_, H.out⟩, World.grownBy.refl _ _⟩
  | true =>
    have hz : D.left = lv := hz
    have h0 := h.l0 rfl
    by_cases hl0 : lv = 0
    · have hb : burnD D = D := by
        unfold burnD
        rw [if_neg (by omega)]
      rw [hb, decide_eq_true (by omega)]
      subst hl0
      clear hb hz h
      go_enter Tryz.func59, Tryz.ntmps59
      go_wp2
      go_ret
      exact ⟨rfl, ⟨_, H.out⟩, World.grownBy.refl _ _⟩
    · have hb : burnD D = ⟨D.quota, lv - 1, D.fs⟩ := by
        unfold burnD
        rw [if_pos (by omega), hz]
      rw [hb, decide_eq_false (by omega)]
      have e0 : (lv == 0) = false := by rw [beq_eq_false_iff_ne]; exact hl0
      have hs := grownSet w g 3 (.int .i64 (lv - 1))
      have HN := Go.Lib.hid (h.setL (lv - 1) rfl (by omega))
      clear hb h
      go_enter Tryz.func59, Tryz.ntmps59
      go_wp2
      go_ret
      exact ⟨rfl, ⟨_, HN.out⟩, hs⟩
def begC (D : Dk) (s : ByteArray) : Int := if D.left = 0 then 14 else if idxF D.fs s < D.fs.length then 0 else 11
def begP (D : Dk) (hd : ByteArray → Hd) (s : ByteArray) : Value := if D.left = 0 then .pointer none else ptrOf D.fs hd s
set_option maxRecDepth 100000 in
theorem beginL_any (g : Nat) (D : Dk) (F : Nat → Prop) (qv : Int) (mb : Nat) (fu : Bool) (lv : Int) (M : DataW Nat) (hd : ByteArray → Hd) (s : ByteArray) (w : World) (h : LdAt w g D F qv mb fu lv M hd) (hl : D.left ≤ 9223372036854775807) (hs : s.size ≤ maxLen) :
    Calls Tryz.prog 72 #[.pointer (some ⟨g, 0, none⟩), .string s] w fun e w' => e = .returned (.tuple #[begP D hd s, .int .i64 (begC D s)]) ∧ (∃ lv', LdAt w' g (burnD D) F qv mb fu lv' M hd) ∧ w.grownBy w' (some g) := by
  generalize hC : begC D s = cc
  generalize hP : begP D hd s = pp
  have HC := Go.Lib.hid hC
  have HP := Go.Lib.hid hP
  clear hC hP
  go_enter Tryz.func72, Tryz.ntmps72
  go_wp2_with fail
  refine (stands_any g D F qv mb fu lv M hd w h hl).mono ?_
  rintro e w1 ⟨rfl, ⟨lv', h1⟩, g1⟩
  have H1 := Go.Lib.hid h1
  have G1 := Go.Lib.hid g1
  by_cases h0 : D.left = 0
  · obtain rfl : cc = 14 := by rw [← HC.out]; unfold begC; rw [if_pos h0]
    obtain rfl : pp = .pointer none := by rw [← HP.out]; unfold begP; rw [if_pos h0]
    rw [decide_eq_true h0]
    clear h1 g1 h h0 HC HP
    go_wp2_with fail
    go_ret2
    exact ⟨rfl, ⟨_, H1.out⟩, G1.out⟩
  · have q1 := h1.look hs
    have k1 := h1.c1
    have ef : (burnD D).fs = D.fs := rfl
    rw [ef] at q1
    rw [decide_eq_false h0]
    by_cases hk : idxF D.fs s < D.fs.length
    · obtain rfl : cc = 0 := by rw [← HC.out]; unfold begC; rw [if_neg h0, if_pos hk]
      have e3 : ptrOf D.fs hd s = .pointer (some ⟨(hd s).k, 0, none⟩) := if_pos hk
      obtain rfl : pp = .pointer (some ⟨(hd s).k, 0, none⟩) := by rw [← HP.out, ← e3]; unfold begP; rw [if_neg h0]
      rw [e3] at q1
      clear h1 g1 e3 h h0 hk ef HC HP
      go_wp2_with fail
      go_ret2
      exact ⟨rfl, ⟨_, H1.out⟩, G1.out⟩
    · obtain rfl : cc = 11 := by rw [← HC.out]; unfold begC; rw [if_neg h0, if_neg hk]
      have e3 : ptrOf D.fs hd s = .pointer none := if_neg hk
      obtain rfl : pp = .pointer none := by rw [← HP.out, ← e3]; unfold begP; rw [if_neg h0]
      rw [e3] at q1
      clear h1 g1 e3 h h0 hk ef HC HP
      go_wp2_with fail
      go_ret2
      exact ⟨rfl, ⟨_, H1.out⟩, G1.out⟩
set_option maxRecDepth 100000 in
theorem putL_any (g : Nat) (D : Dk) (F : Nat → Prop) (qv : Int) (mb : Nat) (fu : Bool) (lv : Int) (M : DataW Nat) (hd : ByteArray → Hd) (f : Fl) (x : Hd) (fs' : List Fl) (w : World) (h : LdAt w g D F qv mb fu lv M hd) (hn : D.fs.length ≤ 1000) (hr : Rising fs') (hset : SetTo fs' D.fs f) (hs : f.name.size ≤ maxLen)
    (hx : FileR w F f x) (ha : ∀ y ∈ D.fs, y.name ≠ f.name → Apart (hd y.name) x) :
    Calls Tryz.prog 61 #[.pointer (some ⟨g, 0, none⟩), .string f.name, .pointer (some ⟨x.k, 0, none⟩)] w fun e w' => e = .returned (.tuple #[]) ∧ LdAt w' g ⟨D.quota, D.left, fs'⟩ F qv mb fu lv (M.put (keyF f.name) (.held x.k)) (setH hd f.name x) ∧ w.grownBy w' (some mb) := by
  have k1 := h.c1
  have hown := h.own
  have hkey := keyS hs
  have qm : ∀ W, (binOp .eql 70 (.map (some mb)) (.map none)).run Tryz.prog W = .ok (.bool (some mb).isNone) W := fun W => run_eql_map_nil W _ _ _ _ Tryz.underlying70
  have H := Go.Lib.hid h
  have HX := Go.Lib.hid hx
  have HA := Go.Lib.hid ha
  clear h hx ha
  go_enter Tryz.func61, Tryz.ntmps61
  go_wp2_with (at_mapUpdate; refine wpList_mapUpdate_own _ rfl _ _ _ 70 rfl 9 95 lawK Tryz.underlying70 ptrR mb D.fs.length M rfl hown (by unfold maxLen; omega) _ _ _ rfl rfl hkey _ [] (ptrR_some x.k) ?_; intro w1 hown1 hgrow1)
  go_end0
  exact ⟨rfl, H.out.named hr hset hown1 hgrow1 HX.out HA.out, hgrow1⟩
end Go.Proofs.YtppidbdkejkopaaGreatDoor.DkWalk
namespace Go.Proofs.YtppidbdkejkopaaGreatDoor.DkWalk
open Go.RowKit Go.Maps MemRow Ev NameMath NameWalk EvWalk NumMem
def mkP (c : Option Nat) : Value := match c with | none => .pointer none | some k => .pointer (some ⟨k, 0, none⟩)
theorem mkP_inv (v : Value) (y : DataW Nat × List MemPlace) (h : ptrR v = some y) : ∃ c, v = mkP c := by
  unfold ptrR at h
  split at h
  · exact ⟨some _, rfl⟩
  · exact ⟨none, rfl⟩
  · cases h
section
variable (w : World) {ops : Array Oper} {rest : List Oper} {o : Oper} {a : Act} {Q : Exit → Act → World → Prop}
theorem wpList_next_fs (hg : o.guard = none) (it : Operand) (hop : o.op = Op.next it false) {M : DataW Nat} {fs : List Fl} {kk : ByteArray → Nat} (mp : MapOf M fs kk) (b r n : Nat) (left : Lit → Bool) (cnt : Nat)
    (hit : a.eval it = .pointer (some ⟨r, 0, none⟩)) (h : w.ranges Tryz.prog 9 ptrR b r n M left cnt)
    (hDone : cnt = 0 → (∀ kl, left kl = false) → wpList Tryz.prog ops Q rest (a.put o.dst (.tuple #[.bool false])) w)
    (hMore : ∀ (f : Fl), f ∈ fs → ∀ (w' : World) (cnt' : Nat), left (keyF f.name) = true → f.name.size ≤ maxLen → w'.ranges Tryz.prog 9 ptrR b r n M (strike left f.name) cnt' → cnt' < cnt → w.grownBy w' (some r) → w'.heap.size = w.heap.size →
      (Instr.entry (.pointer (some ⟨r, 0, none⟩))).run Tryz.prog w' = .ok (.tuple #[.string f.name, .pointer (some ⟨kk f.name, 0, none⟩)]) w' → wpList Tryz.prog ops Q rest (a.put o.dst (.tuple #[.bool true, .string f.name, .pointer (some ⟨kk f.name, 0, none⟩)])) w') :
    wpList Tryz.prog ops Q (o :: rest) a w := by
  refine wpList_next_ranges w hg it hop 9 lawK ptrR Go.Proofs.encStr mkP (fun key kl hk => by obtain ⟨x, hx, _⟩ := Maps.keyOf_str Tryz.underlying9 hk; exact ⟨x, hx⟩) mkP_inv b r n M left cnt hit h hDone ?_
  intro x c kl y w' cnt' hkey hlk hv hat hrg hlt hgr hsz hen
  obtain ⟨x', ex, rfl, hxl⟩ := Maps.keyOf_str Tryz.underlying9 hkey
  obtain rfl := encStr_inj ex
  obtain ⟨f, hf, ek⟩ := (mp.keys _).1 (has_true_of_atKey hat)
  have hx : x = f.name.data.toList := by
    unfold keyF at ek
    injection ek
  have e1 : Go.Proofs.encStr x = .string f.name := by
    rw [hx]
  have e2 : mkP c = .pointer (some ⟨kk f.name, 0, none⟩) := by
    have h1 := hat .nil
    rw [ek, mp.at_ f hf] at h1
    refine ptrR_held (ps := y.2) ?_
    rw [hv, h1]
  rw [ek] at hlk hrg
  rw [e1, e2] at hen ⊢
  refine hMore f hf w' cnt' hlk ?_ hrg hlt hgr hsz hen
  have := size_list f.name
  rw [hx] at hxl
  omega
end
set_option maxHeartbeats 4000000 in
set_option maxRecDepth 100000 in
theorem usedD_any (g : Nat) (D : Dk) (F : Nat → Prop) (qv : Int) (mb : Nat) (fu : Bool) (lv : Int) (M : DataW Nat) (hd : ByteArray → Hd) (w : World) (h : LdAt w g D F qv mb fu lv M hd) (go : DkGo D) :
    Calls Tryz.prog 32 #[.pointer (some ⟨g, 0, none⟩)] w fun e w' => e = .returned (.int .i64 (usedF D.fs : Nat)) ∧ Below w.heap.size w w' := by
  have k1 := h.c1
  have hown := h.own
  have MP := h.mp
  have h65 : usedF D.fs ≤ 65536 * 200 := by
    have h1 := usedF_le (fs := D.fs) fun f hf => (go.ok.fls f hf).1
    have h2 := go.ok.len
    omega
  have hsz := h.lt mb h.fm
  have H := Go.Lib.hid h
  have GO := Go.Lib.hid go
  clear h go
  go_enter Tryz.func32, Tryz.ntmps32
  go_wp2_with (at_range; refine wpList_range_own _ rfl _ 70 rfl 9 95 lawK Tryz.underlying70 ptrR mb D.fs.length M rfl hown ?_; intro w0 hrg0 hg0 hs0)
  go_frame
  go_loopw [3, 5] (fun s _ wr => ∃ (left : Lit → Bool) (cnt u : Nat), s = .int .i64 u ∧ wr.ranges Tryz.prog 9 ptrR mb w.heap.size D.fs.length M left cnt ∧ Hid (u = usedL left D.fs) ∧ Below w.heap.size w wr) (fun _ _ wr => wr.rangeLeft mb w.heap.size)
  case atStart => exact ⟨_, _, 0, rfl, hrg0, Go.Lib.hid (usedL_start fun f hf => (MP.keys _).2 ⟨f, hf, rfl⟩).symm, grown_below hg0⟩
  case round =>
    obtain ⟨left, cnt, u, rfl, hrg, HU, hb⟩ := hrel
    clear hrg0 hg0 hs0
    go_wp2_with (at_next; refine wpList_next_fs _ rfl _ rfl MP mb w.heap.size D.fs.length _ _ rfl hrg ?_ ?_)
    · intro hc0 hl0
      have hu : u = usedF D.fs := by rw [HU.out, usedL_end hl0]
      subst hu
      go_wp2_with fail
      go_ret
      exact ⟨rfl, hb⟩
    · intro f hf w2 cnt2 hlk hfs hrg2 hlt hg2 hs2 hen
      have hb2 : Below w.heap.size w w2 := hb.grown hg2 hb.size (fun r e => by injection e with e; omega)
      have hr := (H.out.below hb2).files f hf
      have x0 := hr.c0
      have HU2 : Hid (u + (hd f.name).nb = usedL (strike left f.name) D.fs) := Go.Lib.hid (by rw [usedL_step GO.out.up hf hlk, HU.out, hr.own.len])
      have hu2 : usedL (strike left f.name) D.fs ≤ 65536 * 200 := Nat.le_trans (usedL_le _ _) h65
      have hu3 : u + (hd f.name).nb ≤ 65536 * 200 := by rw [HU2.out]; exact hu2
      have HLE := hrg.left_eq
      clear hr hu2 hlk hg2 hs2 hrg hf HU
      generalize (hd f.name).nb = nb at *
      go_wp2_with fail
      go_roundw
      case rel => exact ⟨_, cnt2, u + nb, by go_num, hrg2, HU2, hb2⟩
      case measure => rw [hrg2.left_eq, HLE]; exact hlt
set_option maxRecDepth 100000 in
theorem cloneB_any (A : Option Addr) (n c : Nat) (l : List UInt8) (w : World) (h : Own w 0 5 A n c l) (hn : n ≤ 1000000) :
    Calls Tryz.prog 65 #[.slice A n c] w fun e w' => ∃ B cb, e = .returned (.slice B n cb) ∧ Own w' w.heap.size 5 B n cb l ∧ Below w.heap.size w w' := by
  have qn : ∀ W, (binOp .eql 58 (.slice A n c) (.slice none 0 0)).run Tryz.prog W = .ok (.bool A.isNone) W := fun W => Lib.run_eql_slice_nil W _ _ _ _ _ _ _ Tryz.underlying58
  cases A with
  | none =>
    have h0 : n = 0 ∧ l = [] := by
      rcases h.2 with ⟨hv, hn0⟩ | ⟨g, c', cur, hv, _⟩
      · exact ⟨hn0, List.eq_nil_of_length_eq_zero (by rw [h.len, hn0])⟩
      · injection hv with e1
        cases e1
    obtain ⟨rfl, rfl⟩ := h0
    go_enter Tryz.func65, Tryz.ntmps65
    go_wp2_with fail
    go_ret
    exact ⟨none, 0, rfl, ⟨rfl, .inl ⟨rfl, rfl⟩⟩, Below.refl _ _⟩
  | some a =>
    have al : Below w.heap.size w (w.alloc (.cells #[] 5)) := (Below.refl _ _).alloc (Nat.le_refl _) _
    have r2 := (h.below al).rd
    go_enter Tryz.func65, Tryz.ntmps65
    go_wp2_with (at_builtin; refine wpList_append_fresh rfl (.tmp 5) (.tmp 6) 58 rfl 5 Tryz.underlying58 u8_info rfl rfl (Own.empty w 5 (Nat.le_refl _)) r2 (by omega) al.size w al ?_; intro A5 c5 w5 o5 b5)
    go_ret
    exact ⟨A5, c5, rfl, o5, b5⟩
set_option maxHeartbeats 4000000 in
set_option maxRecDepth 100000 in
theorem readL_any (g : Nat) (D : Dk) (F : Nat → Prop) (s : ByteArray) (w : World) (h : LdIs w g D F) (go : DkGo D) (hs : s.size ≤ maxLen) :
    Calls Tryz.prog 34 #[.pointer (some ⟨g, 0, none⟩), .string s] w fun e w' => ∃ B m c, e = .returned (.tuple #[.slice B m c, .int .i64 (readC D s)]) ∧ Rd w' B m c (readB D s) ∧ Below w.heap.size w w' := by
  obtain ⟨qv, mb, fu, lv, M, hd, h⟩ := h
  have k1 := h.c1
  have q1 := h.look hs
  generalize hC : readC D s = cc
  generalize hB : readB D s = bb
  have HC := Go.Lib.hid hC
  have HB := Go.Lib.hid hB
  clear hC hB
  by_cases hk : idxF D.fs s < D.fs.length
  · obtain rfl : cc = 0 := by rw [← HC.out]; unfold readC; rw [if_pos hk]
    obtain rfl : bb = (D.fs.getD (idxF D.fs s) noFl).b := by rw [← HB.out]; unfold readB; rw [if_pos hk]
    have e3 : ptrOf D.fs hd s = .pointer (some ⟨(hd s).k, 0, none⟩) := if_pos hk
    rw [e3] at q1
    have hr := (h.file hk).1
    have hle : (hd s).nb ≤ 1000000 := by
      have := (go.ok.fls _ (fl_get hk)).1
      have := hr.own.len
      omega
    have x0 := hr.c0
    have ho := hr.own
    clear HC HB hr h e3 hk go
    generalize (D.fs.getD (idxF D.fs s) noFl).b = bb at *
    generalize (hd s).k = k at *
    generalize (hd s).B = B at *
    generalize (hd s).nb = nb at *
    generalize (hd s).cb = cb at *
    go_enter Tryz.func34, Tryz.ntmps34
    go_wp2_with fail
    refine (cloneB_any B nb cb bb w ho hle).mono ?_
    rintro e w2 ⟨B2, c2, rfl, o2, b2⟩
    go_wp2_with fail
    go_ret2
    exact ⟨_, _, _, rfl, o2.rd, b2⟩
  · obtain rfl : cc = 11 := by rw [← HC.out]; unfold readC; rw [if_neg hk]
    obtain rfl : bb = [] := by rw [← HB.out]; unfold readB; rw [if_neg hk]
    have e3 : ptrOf D.fs hd s = .pointer none := if_neg hk
    rw [e3] at q1
    clear HC HB h e3 hk
    go_enter Tryz.func34, Tryz.ntmps34
    go_wp2_with fail
    go_ret2
    exact ⟨none, 0, 0, rfl, Rd.nil _, Below.refl _ _⟩
end Go.Proofs.YtppidbdkejkopaaGreatDoor.DkWalk
namespace Go.Proofs.YtppidbdkejkopaaGreatDoor.DkWalk
open Go.RowKit Go.Maps MemRow Ev NameMath NameWalk EvWalk NumMem
theorem setTo_len {fs fs' : List Fl} {f : Fl} (hr : Rising fs) (hr' : Rising fs') (hset : SetTo fs' fs f) (hk : idxF fs f.name < fs.length) : fs'.length = fs.length := by
  have e : names fs' = names fs := up_ext hr' hr fun x => by
    unfold names
    rw [List.mem_map, List.mem_map]
    constructor
    · rintro ⟨y, hy, rfl⟩
      rcases (hset y).1 hy with rfl | ⟨hy, _⟩
      · exact ⟨_, fl_get hk, idxF_name hk⟩
      · exact ⟨y, hy, rfl⟩
    · rintro ⟨y, hy, rfl⟩
      by_cases hn : y.name = f.name
      · exact ⟨f, (hset f).2 (.inl rfl), hn.symm⟩
      · exact ⟨y, (hset y).2 (.inr ⟨hy, hn⟩), rfl⟩
  have := congrArg List.length e
  simpa [names] using this
theorem DidL.join {c : Int} {D' : Dk} {g : Nat} {F : Nat → Prop} {w w1 w' : World} (c1 : Ch F w w1) (hlt : ∀ k, F k → k < w.heap.size) (c2 : Ch F w1 w') (h : LdIs w' g D' (up F w1 w')) : DidL c D' g F w (.returned (.int .i64 c)) w' := by
  have c3 : Ch F w w' := c1.trans (c2.wide fun _ hk => .inl hk)
  refine ⟨rfl, h.wide (fun k hk => ?_) (fun k hk => up_lt hlt c3.size hk), c3⟩
  rcases hk with hk | hk
  · exact .inl hk
  · have := c1.size
    exact .inr ⟨by omega, hk.2⟩
theorem LdAt.is {w : World} {g : Nat} {D : Dk} {F : Nat → Prop} {qv lv : Int} {mb : Nat} {fu : Bool} {M : DataW Nat} {hd : ByteArray → Hd} (h : LdAt w g D F qv mb fu lv M hd) : LdIs w g D F := ⟨_, _, _, _, _, _, h⟩
theorem FileR.ch {w w' : World} {F : Nat → Prop} {f : Fl} {h : Hd} (r : FileR w F f h) (hc : Ch (fun k => k = h.k ∨ ∃ a, h.B = some a ∧ k = a.block) w w') : Ch F w w' :=
  hc.wide fun k hk => by
    rcases hk with rfl | ⟨a, ha, rfl⟩
    · exact r.fk
    · exact r.fb a ha
set_option maxHeartbeats 4000000 in
set_option maxRecDepth 100000 in
theorem syncL_any (g : Nat) (D : Dk) (F : Nat → Prop) (s : ByteArray) (w : World) (h : LdIs w g D F) (go : DkGo D) (hs : s.size ≤ maxLen) :
    Calls Tryz.prog 39 #[.pointer (some ⟨g, 0, none⟩), .string s] w (fun e w' => DidL (syncD D s).1 (syncD D s).2 g F w e w') := by
  obtain ⟨qv, mb, fu, lv, M, hd, h⟩ := h
  have HLT := Go.Lib.hid h.lt
  generalize hR : syncD D s = R
  have HR := Go.Lib.hid hR
  clear hR
  go_enter Tryz.func39, Tryz.ntmps39
  go_wp2_with fail
  refine (beginL_any g D F qv mb fu lv M hd s w h go.ok.left.2 hs).mono ?_
  rintro e w1 ⟨rfl, ⟨lv', h1⟩, g1⟩
  have c1 : Ch F w w1 := Ch.of_grown g1 (fun r e => by injection e with e; subst e; exact .inl h.fg)
  have go1 := burn_go go
  by_cases h0 : D.left = 0
  · have hb0 : burnD D = D := by
      unfold burnD
      rw [if_neg (by omega)]
    rw [hb0] at h1
    obtain rfl : R = (14, D) := by rw [← HR.out]; unfold syncD; rw [if_pos h0]
    rw [show begC D s = 14 by unfold begC; rw [if_pos h0], show begP D hd s = .pointer none by unfold begP; rw [if_pos h0]]
    have HD := Go.Lib.hid (DidL.of (c := 14) h1 HLT.out c1)
    clear HR h1 c1 g1 h0 hb0 h
    go_wp2_with fail
    go_ret
    exact HD.out
  by_cases hk : idxF D.fs s < D.fs.length
  · have hR1 : (0, ⟨(burnD D).quota, (burnD D).left, syncF (burnD D).fs s⟩) = R := by
      rw [← HR.out]
      unfold syncD syncC
      rw [if_neg h0, if_neg (show ¬ ¬ idxF (burnD D).fs s < (burnD D).fs.length from fun h => h hk)]
    rw [show begC D s = 0 by unfold begC; rw [if_neg h0, if_pos hk], show begP D hd s = .pointer (some ⟨(hd s).k, 0, none⟩) by unfold begP ptrOf; rw [if_neg h0, if_pos hk]]
    have hk1 : idxF (burnD D).fs s < (burnD D).fs.length := hk
    clear HR h0 hk h go g1
    generalize burnD D = D1 at *
    subst hR1
    have fr := (h1.file hk1).1
    have hl := fr.own.len
    have hset := syncF_set go1.up hk1
    have x0 := fr.c0
    have x1 := fr.c1
    have z1 := fr.frozen 1
    have hs1 := grownSet w1 (hd s).k 1 (.int .i64 ((hd s).nb : Int))
    have cc : Ch (fun k => k = (hd s).k ∨ ∃ a, (hd s).B = some a ∧ k = a.block) w1 (w1.setCell ⟨(hd s).k, 1, none⟩ (.int .i64 ((hd s).nb : Int))) := Ch.of_grown hs1 (fun r e => by injection e with e; exact .inl (.inl e.symm))
    have hbx : (w1.setCell ⟨(hd s).k, 1, none⟩ (.int .i64 ((hd s).nb : Int))).heap[(hd s).k]? = some (.cells #[.slice (hd s).B (hd s).nb (hd s).cb, .int .i64 ((D1.fs.getD (idxF D1.fs s) noFl).b.length : Nat)] 97 (0, 0)) := by
      rw [hl]
      exact pairSet1 fr.box
    have h2 := h1.wrote hk1 (x := hd s) rfl hset (by simp [syncF]) rfl cc (fun a ha => .inl ⟨a, ha, rfl⟩) hbx (own8_grown fr.own hs1 (fun a ha e => own8_not fr.own fr.box (by decide) a ha (by injection e)))
    have HD := Go.Lib.hid (DidL.join (c := 0) c1 HLT.out (fr.ch cc) h2.is)
    clear h1 c1 h2 hbx cc hs1 hset hl fr
    go_wp2_with fail
    go_ret
    exact HD.out
  · obtain rfl : R = (11, burnD D) := by
      rw [← HR.out]
      unfold syncD syncC
      rw [if_neg h0, if_pos (show ¬ idxF (burnD D).fs s < (burnD D).fs.length from hk)]
    rw [show begC D s = 11 by unfold begC; rw [if_neg h0, if_neg hk], show begP D hd s = .pointer none by unfold begP ptrOf; rw [if_neg h0, if_neg hk]]
    have HD := Go.Lib.hid (DidL.of (c := 11) h1 HLT.out c1)
    clear HR h1 c1 g1 h0 hk h
    go_wp2_with fail
    go_ret
    exact HD.out
set_option maxHeartbeats 4000000 in
set_option maxRecDepth 100000 in
theorem removeL_any (g : Nat) (D : Dk) (F : Nat → Prop) (s : ByteArray) (w : World) (h : LdIs w g D F) (go : DkGo D) (hs : s.size ≤ maxLen) :
    Calls Tryz.prog 70 #[.pointer (some ⟨g, 0, none⟩), .string s] w (fun e w' => DidL (removeD D s).1 (removeD D s).2 g F w e w') := by
  obtain ⟨qv, mb, fu, lv, M, hd, h⟩ := h
  have HLT := Go.Lib.hid h.lt
  generalize hR : removeD D s = R
  have HR := Go.Lib.hid hR
  clear hR
  go_enter Tryz.func70, Tryz.ntmps70
  go_wp2_with fail
  refine (beginL_any g D F qv mb fu lv M hd s w h go.ok.left.2 hs).mono ?_
  rintro e w1 ⟨rfl, ⟨lv', h1⟩, g1⟩
  have c1 : Ch F w w1 := Ch.of_grown g1 (fun r e => by injection e with e; subst e; exact .inl h.fg)
  have go1 := burn_go go
  by_cases h0 : D.left = 0
  · have hb0 : burnD D = D := by
      unfold burnD
      rw [if_neg (by omega)]
    rw [hb0] at h1
    obtain rfl : R = (14, D) := by rw [← HR.out]; unfold removeD; rw [if_pos h0]
    rw [show begC D s = 14 by unfold begC; rw [if_pos h0], show begP D hd s = .pointer none by unfold begP; rw [if_pos h0]]
    have HD := Go.Lib.hid (DidL.of (c := 14) h1 HLT.out c1)
    clear HR h1 c1 g1 h0 hb0 h
    go_wp2_with fail
    go_ret
    exact HD.out
  by_cases hk : idxF D.fs s < D.fs.length
  · have hR1 : (0, ⟨(burnD D).quota, (burnD D).left, dropF (burnD D).fs s⟩) = R := by
      rw [← HR.out]
      unfold removeD removeC
      rw [if_neg h0, if_pos (show idxF (burnD D).fs s < (burnD D).fs.length from hk)]
    rw [show begC D s = 0 by unfold begC; rw [if_neg h0, if_pos hk], show begP D hd s = .pointer (some ⟨(hd s).k, 0, none⟩) by unfold begP ptrOf; rw [if_neg h0, if_pos hk]]
    have hk1 : idxF (burnD D).fs s < (burnD D).fs.length := hk
    clear HR h0 hk h go g1
    generalize burnD D = D1 at *
    subst hR1
    have k1 := h1.c1
    have hown := h1.own
    have hkey := keyS hs
    have H1 := Go.Lib.hid h1
    have C1 := Go.Lib.hid c1
    clear h1 c1
    go_wp2_with (at_delete; refine wpList_delete_own _ rfl _ _ 70 9 rfl 95 lawK Tryz.underlying70 ptrR mb D1.fs.length M rfl hown _ _ rfl hkey ?_; intro w2 hown2 hturn2)
    have h2 := H1.out.dropped (dropF_rising go1.up s) (dropF_set go1.up hk1) hown2 hturn2.grown
    have c2 : Ch F w1 w2 := Ch.of_grown hturn2.grown (fun r e => by injection e with e; subst e; exact .inl H1.out.fm)
    have HD := Go.Lib.hid (DidL.join (c := 0) C1.out HLT.out c2 (h2.wide (fun _ hf => .inl hf) (fun _ hk => up_lt H1.out.lt c2.size hk)).is)
    go_ret
    exact HD.out
  · obtain rfl : R = (11, burnD D) := by
      rw [← HR.out]
      unfold removeD removeC
      rw [if_neg h0, if_neg (show ¬ idxF (burnD D).fs s < (burnD D).fs.length from hk)]
    rw [show begC D s = 11 by unfold begC; rw [if_neg h0, if_neg hk], show begP D hd s = .pointer none by unfold begP ptrOf; rw [if_neg h0, if_neg hk]]
    have HD := Go.Lib.hid (DidL.of (c := 11) h1 HLT.out c1)
    clear HR h1 c1 g1 h0 hk h
    go_wp2_with fail
    go_ret
    exact HD.out
end Go.Proofs.YtppidbdkejkopaaGreatDoor.DkWalk
namespace Go.Proofs.YtppidbdkejkopaaGreatDoor.DkWalk
open Go.RowKit Go.Maps MemRow Ev NameMath NameWalk EvWalk NumMem
set_option maxHeartbeats 4000000 in
set_option maxRecDepth 100000 in
theorem truncL_any (g : Nat) (D : Dk) (F : Nat → Prop) (s : ByteArray) (z : Int) (w : World) (h : LdIs w g D F) (go : DkGo D) (hs : s.size ≤ maxLen) :
    Calls Tryz.prog 71 #[.pointer (some ⟨g, 0, none⟩), .string s, .int .i64 z] w (fun e w' => DidL (truncD D s z).1 (truncD D s z).2 g F w e w') := by
  obtain ⟨qv, mb, fu, lv, M, hd, h⟩ := h
  have HLT := Go.Lib.hid h.lt
  generalize hR : truncD D s z = R
  have HR := Go.Lib.hid hR
  clear hR
  go_enter Tryz.func71, Tryz.ntmps71
  go_wp2_with fail
  refine (beginL_any g D F qv mb fu lv M hd s w h go.ok.left.2 hs).mono ?_
  rintro e w1 ⟨rfl, ⟨lv', h1⟩, g1⟩
  have c1 : Ch F w w1 := Ch.of_grown g1 (fun r e => by injection e with e; subst e; exact .inl h.fg)
  have go1 := burn_go go
  by_cases h0 : D.left = 0
  · have hb0 : burnD D = D := by
      unfold burnD
      rw [if_neg (by omega)]
    rw [hb0] at h1
    obtain rfl : R = (14, D) := by rw [← HR.out]; unfold truncD; rw [if_pos h0]
    rw [show begC D s = 14 by unfold begC; rw [if_pos h0], show begP D hd s = .pointer none by unfold begP; rw [if_pos h0]]
    have HD := Go.Lib.hid (DidL.of (c := 14) h1 HLT.out c1)
    clear HR h1 c1 g1 h0 hb0 h
    go_wp2_with fail
    go_ret
    exact HD.out
  by_cases hk : idxF D.fs s < D.fs.length
  · have hR1 : (if z < 0 ∨ (((burnD D).fs.getD (idxF (burnD D).fs s) noFl).b.length : Int) < z then (1, burnD D) else (0, ⟨(burnD D).quota, (burnD D).left, putF (burnD D).fs ⟨s, ((burnD D).fs.getD (idxF (burnD D).fs s) noFl).b.take z.toNat, min ((burnD D).fs.getD (idxF (burnD D).fs s) noFl).safe z.toNat⟩⟩)) = R := by
      rw [← HR.out]
      unfold truncD truncC
      rw [if_neg h0, if_neg (show ¬ ¬ idxF (burnD D).fs s < (burnD D).fs.length from fun h => h hk)]
    rw [show begC D s = 0 by unfold begC; rw [if_neg h0, if_pos hk], show begP D hd s = .pointer (some ⟨(hd s).k, 0, none⟩) by unfold begP ptrOf; rw [if_neg h0, if_pos hk]]
    have hk1 : idxF (burnD D).fs s < (burnD D).fs.length := hk
    clear HR h0 hk h go g1
    generalize burnD D = D1 at *
    have HR1 := Go.Lib.hid hR1
    clear hR1
    have fr := (h1.file hk1).1
    have hl := fr.own.len
    have hcap := fr.own.rd.le_cap
    have h65 := (go1.ok.fls _ (fl_get hk1))
    have x0 := fr.c0
    have x1 := fr.c1
    have z0 := fr.frozen 0
    generalize D1.fs.getD (idxF D1.fs s) noFl = f at *
    by_cases hbad : z < 0 ∨ (f.b.length : Int) < z
    · obtain rfl : R = (1, D1) := by rw [← HR1.out, if_pos hbad]
      have HD := Go.Lib.hid (DidL.of (c := 1) h1 HLT.out c1)
      rcases hbad with hz | hz
      · clear HR1 h1 c1 fr hl hk1
        go_wp2_with fail
        go_ret
        exact HD.out
      · have hz0 : ¬ z < 0 := by omega
        have hz1 : ((hd s).nb : Int) < z := by omega
        clear HR1 h1 c1 fr hl hk1
        go_wp2_with fail
        go_ret
        exact HD.out
    · obtain ⟨y, hy⟩ : ∃ y : Nat, z = y := ⟨z.toNat, by omega⟩
      subst hy
      have hR2 : (0, ⟨D1.quota, D1.left, putF D1.fs ⟨s, f.b.take y, min f.safe y⟩⟩) = R := by rw [← HR1.out, if_neg hbad, Int.toNat_natCast]
      have hmin : min ((f.safe : Nat) : Int) (y : Int) = ((min f.safe y : Nat) : Int) := by omega
      generalize min f.safe y = mn at *
      subst hR2
      have hz0 : ¬ (y : Int) < 0 := by omega
      have hz1 : ¬ ((hd s).nb : Int) < y := by omega
      have hyn : y ≤ (hd s).nb := by omega
      have qs := slice_upto (hd s).B (hd s).nb (hd s).cb y (Nat.le_trans hyn hcap)
      have hs1 := grownSet w1 (hd s).k 0 (.slice (hd s).B y (hd s).cb)
      have hs2 := grown_setCell hs1 1 (.int .i64 (mn : Int))
      have hb1 := pairSet0 (x := .slice (hd s).B y (hd s).cb) fr.box
      have hb2 := pairSet1 (x := .int .i64 (mn : Int)) hb1
      obtain ⟨y0, y1, yz⟩ := two_cell hb1
      have yz1 := yz 1
      have cc : Ch (fun k => k = (hd s).k ∨ ∃ a, (hd s).B = some a ∧ k = a.block) w1 ((w1.setCell ⟨(hd s).k, 0, none⟩ (.slice (hd s).B y (hd s).cb)).setCell ⟨(hd s).k, 1, none⟩ (.int .i64 (mn : Int))) := Ch.of_grown hs2 (fun r e => by injection e with e; exact .inl (.inl e.symm))
      have hset := putF_set go1.up ⟨s, f.b.take y, mn⟩
      have hlen := setTo_len go1.up (putF_rising go1.up _) hset hk1
      have h2 := h1.wrote hk1 (x := ⟨(hd s).k, (hd s).B, y, (hd s).cb⟩) rfl hset hlen rfl cc (fun a ha => .inl ⟨a, ha, rfl⟩) hb2 (own8_grown (own8_first fr.own hyn) hs2 (fun a ha e => own8_not fr.own fr.box (by decide) a ha (by injection e)))
      have HD := Go.Lib.hid (DidL.join (c := 0) c1 HLT.out (fr.ch cc) h2.is)
      have HM := Go.Lib.hid hmin
      clear h1 c1 h2 hb1 hb2 cc hs1 hs2 hset hlen fr hl HR1 hbad hmin hk1 yz hcap h65
      go_upto_region 8 with (fail)
      rw [HM.out]
      go_wp2_with fail
      go_ret
      exact HD.out
  · obtain rfl : R = (11, burnD D) := by
      rw [← HR.out]
      unfold truncD truncC
      rw [if_neg h0, if_pos (show ¬ idxF (burnD D).fs s < (burnD D).fs.length from hk)]
    rw [show begC D s = 11 by unfold begC; rw [if_neg h0, if_neg hk], show begP D hd s = .pointer none by unfold begP ptrOf; rw [if_neg h0, if_neg hk]]
    have HD := Go.Lib.hid (DidL.of (c := 11) h1 HLT.out c1)
    clear HR h1 c1 g1 h0 hk h
    go_wp2_with fail
    go_ret
    exact HD.out
set_option maxHeartbeats 4000000 in
set_option maxRecDepth 100000 in
theorem turnL_any (g : Nat) (D1 : Dk) (F : Nat → Prop) (s : ByteArray) (z : Int) (w1 : World) (h : LdIs w1 g D1 F) (go1 : DkGo D1) (hs : s.size ≤ maxLen) :
    Calls Tryz.prog 22 #[.pointer (some ⟨g, 0, none⟩), .string s, .int .i64 z] w1 (fun e w' => DidL (turnC D1 s z).1 (turnC D1 s z).2 g F w1 e w') := by
  obtain ⟨qv, mb, fu, lv, M, hd, h1⟩ := h
  have HLT := Go.Lib.hid h1.lt
  generalize hR : turnC D1 s z = R
  have HR := Go.Lib.hid hR
  clear hR
  have k1 := h1.c1
  have q1 := h1.look hs
  by_cases hk1 : idxF D1.fs s < D1.fs.length
  · have hR1 : (if z < 0 ∨ ((D1.fs.getD (idxF D1.fs s) noFl).b.length : Int) ≤ z then (1, D1) else (0, ⟨D1.quota, D1.left, putF D1.fs ⟨s, (D1.fs.getD (idxF D1.fs s) noFl).b.set z.toNat ((D1.fs.getD (idxF D1.fs s) noFl).b.getD z.toNat 0 ^^^ 1), (D1.fs.getD (idxF D1.fs s) noFl).safe⟩⟩)) = R := by
      rw [← HR.out]
      unfold turnC
      rw [if_neg (show ¬ ¬ idxF D1.fs s < D1.fs.length from fun h => h hk1)]
    have HR1 := Go.Lib.hid hR1
    clear hR1 HR
    rw [show ptrOf D1.fs hd s = .pointer (some ⟨(hd s).k, 0, none⟩) from if_pos hk1] at q1
    have fr := (h1.file hk1).1
    have hl := fr.own.len
    have x0 := fr.c0
    by_cases hbad : z < 0 ∨ ((D1.fs.getD (idxF D1.fs s) noFl).b.length : Int) ≤ z
    · obtain rfl : R = (1, D1) := by rw [← HR1.out, if_pos hbad]
      have HD := Go.Lib.hid (DidL.of (c := 1) h1 HLT.out (Ch.refl F w1))
      rcases hbad with hz | hz
      · clear HR1 h1 fr hl hk1
        go_enter Tryz.func22, Tryz.ntmps22
        go_wp2_with fail
        go_ret
        exact HD.out
      · have hz0 : ¬ z < 0 := by omega
        have hz1 : ((hd s).nb : Int) ≤ z := by omega
        clear HR1 h1 fr hl hk1
        go_enter Tryz.func22, Tryz.ntmps22
        go_wp2_with fail
        go_ret
        exact HD.out
    · obtain ⟨y, hy⟩ : ∃ y : Nat, z = y := ⟨z.toNat, by omega⟩
      subst hy
      have hR2 : (0, ⟨D1.quota, D1.left, putF D1.fs ⟨s, (D1.fs.getD (idxF D1.fs s) noFl).b.set y ((D1.fs.getD (idxF D1.fs s) noFl).b.getD y 0 ^^^ 1), (D1.fs.getD (idxF D1.fs s) noFl).safe⟩⟩) = R := by rw [← HR1.out, if_neg hbad, Int.toNat_natCast]
      subst hR2
      have hz0 : ¬ (y : Int) < 0 := by omega
      have hz1 : ¬ ((hd s).nb : Int) ≤ y := by omega
      have hz2 : (0 : Int) ≤ y := by omega
      have hz3 : (y : Int) < (hd s).nb := by omega
      have hyn : y < (hd s).nb := by omega
      obtain ⟨blk, oo, hA, _, hcc⟩ := fr.own.rd.at_ (by omega)
      obtain ⟨rfl, hfz, _⟩ := own_zero (k := 1) (cs := cellsOf (D1.fs.getD (idxF D1.fs s) noFl).b) fr.own hA
      have hc := hcc y hyn
      rw [Nat.zero_add] at hc
      have hzf := hfz y
      have HX := Go.Lib.hid (xor1 ((D1.fs.getD (idxF D1.fs s) noFl).b.getD y 0))
      have hs1 := grownSet w1 blk y (.int .u8 (((D1.fs.getD (idxF D1.fs s) noFl).b.getD y 0 ^^^ 1).toNat : Int))
      have cc : Ch (fun k => k = (hd s).k ∨ ∃ a, (hd s).B = some a ∧ k = a.block) w1 (w1.setCell ⟨blk, y, none⟩ (.int .u8 (((D1.fs.getD (idxF D1.fs s) noFl).b.getD y 0 ^^^ 1).toNat : Int))) := Ch.of_grown hs1 (fun r e => by injection e with e; exact .inl (.inr ⟨_, hA, e.symm⟩))
      have hne : (hd s).k ≠ blk := fun e => own8_not fr.own fr.box (by decide) _ hA e.symm
      have hbx := (hs1.block _ fr.lt (fun e => hne (by injection e))).trans fr.box
      have hset := putF_set go1.up ⟨s, (D1.fs.getD (idxF D1.fs s) noFl).b.set y ((D1.fs.getD (idxF D1.fs s) noFl).b.getD y 0 ^^^ 1), (D1.fs.getD (idxF D1.fs s) noFl).safe⟩
      have hlen := setTo_len go1.up (putF_rising go1.up _) hset hk1
      have h2 := h1.wrote hk1 (x := hd s) rfl hset hlen rfl cc (fun a ha => .inl ⟨a, ha, rfl⟩) hbx (own8_set fr.own hA y _)
      have HD := Go.Lib.hid (DidL.join (c := 0) (Ch.refl F w1) HLT.out (fr.ch cc) h2.is)
      clear h1 h2 cc hs1 hset hlen fr hl HR1 hbad hk1 hcc hfz hne hbx
      rw [hA] at x0
      generalize (D1.fs.getD (idxF D1.fs s) noFl).b.getD y 0 = cv at *
      go_enter Tryz.func22, Tryz.ntmps22
      go_upto_region 7 with (fail)
      rw [HX.out]
      go_wp2_with fail
      go_ret
      exact HD.out
  · obtain rfl : R = (11, D1) := by
      rw [← HR.out]
      unfold turnC
      rw [if_pos hk1]
    rw [show ptrOf D1.fs hd s = .pointer none from if_neg hk1] at q1
    have HD := Go.Lib.hid (DidL.of (c := 11) h1 HLT.out (Ch.refl F w1))
    clear HR h1 hk1
    go_enter Tryz.func22, Tryz.ntmps22
    go_wp2_with fail
    go_ret
    exact HD.out
end Go.Proofs.YtppidbdkejkopaaGreatDoor.DkWalk
