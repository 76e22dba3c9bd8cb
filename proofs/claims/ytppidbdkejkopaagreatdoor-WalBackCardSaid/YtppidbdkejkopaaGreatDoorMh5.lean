/-
  Joined texts: DlA, DlB, DlC, DlD, DlE, DlF, DlG, DkShelf, DlH, DmCom, WlMany, EdShown, EeCom, BtOpen, BtRef, BtRefT, FrOpen, CrcEntry, CrcNew, CrcSum.
-/
import Derived.Lib.ConvBytes
import Derived.Maps.OwnOps
import Derived.WalkSpells
import Derived.Lib.SliceRun
import Derived.Shelf.Sort.Plain
import Derived.Shelf.Slices.In.SortNone
import Derived.Shelf.SlIter.Nil
import Derived.Test.YtppidbdkejkopaaGreatDoorProg
import Derived.Lib.SmallJoins
import Derived.Deep.QuietTactic
import Derived.BigQuiet
import Derived.Deep.RegionHeld
import Derived.Deep.DeepCutAuto
import Derived.Deep.CutBlock
import Derived.Deep.Slices
import Derived.WalkKit
import Derived.KernelRfl
import Derived.Laws.BitsAllLaws
import Derived.Lib.Hide
import Derived.Laws.Rows
import Derived.Deep.WholeRow
import Derived.Test.YtppidbdkejkopaaGreatDoorMh4
namespace Go.Proofs.YtppidbdkejkopaaGreatDoor.DkWalk
open Go.RowKit Go.Maps MemRow Ev NameMath NameWalk EvWalk NumMem
set_option maxHeartbeats 4000000 in
set_option maxRecDepth 100000 in
theorem mayHave_any (c : UInt8) (w : World) : Calls Tryz.prog 91 #[.int .u8 (c.toNat : Int)] w fun e w' => e = .returned (.bool (chN c)) ∧ w = w' := by
  have hch : chN c = decide ((97 ≤ c.toNat ∧ c.toNat ≤ 122) ∨ (48 ≤ c.toNat ∧ c.toNat ≤ 57) ∨ c.toNat = 95) := rfl
  have hx := UInt8.toNat_lt c
  generalize chN c = b at *
  generalize c.toNat = x at *
  have HB := Go.Lib.hid hch
  clear hch
  have cases5 : (97 ≤ x ∧ x ≤ 122) ∨ 122 < x ∨ x < 48 ∨ (48 ≤ x ∧ x ≤ 57) ∨ (57 < x ∧ x < 97) := by omega
  rcases cases5 with ⟨h1, h2⟩ | h1 | h1 | ⟨h1, h2⟩ | ⟨h1, h2⟩
  · have hb : b = true := by rw [HB.out]; exact decide_eq_true (by omega)
    subst hb
    have k1 : (97 : Int) ≤ x := by omega
    have k2 : (x : Int) ≤ 122 := by omega
    go_enter Tryz.func91, Tryz.ntmps91
    go_wp2_with fail
    go_ret
    exact ⟨rfl, rfl⟩
  · have hb : b = false := by rw [HB.out]; exact decide_eq_false (by omega)
    subst hb
    have k1 : (97 : Int) ≤ x := by omega
    have k2 : ¬ (x : Int) ≤ 122 := by omega
    have k3 : (48 : Int) ≤ x := by omega
    have k4 : ¬ (x : Int) ≤ 57 := by omega
    have k6 : ((x : Int) == 95) = false := by rw [beq_eq_false_iff_ne]; omega
    go_enter Tryz.func91, Tryz.ntmps91
    go_wp2_with fail
    go_ret
    exact ⟨rfl, rfl⟩
  · have hb : b = false := by rw [HB.out]; exact decide_eq_false (by omega)
    subst hb
    have k1 : ¬ (97 : Int) ≤ x := by omega
    have k3 : ¬ (48 : Int) ≤ x := by omega
    have k6 : ((x : Int) == 95) = false := by rw [beq_eq_false_iff_ne]; omega
    go_enter Tryz.func91, Tryz.ntmps91
    go_wp2_with fail
    go_ret
    exact ⟨rfl, rfl⟩
  · have hb : b = true := by rw [HB.out]; exact decide_eq_true (by omega)
    subst hb
    have k1 : ¬ (97 : Int) ≤ x := by omega
    have k3 : (48 : Int) ≤ x := by omega
    have k4 : (x : Int) ≤ 57 := by omega
    go_enter Tryz.func91, Tryz.ntmps91
    go_wp2_with fail
    go_ret
    exact ⟨rfl, rfl⟩
  · have k1 : ¬ (97 : Int) ≤ x := by omega
    have k3 : (48 : Int) ≤ x := by omega
    have k4 : ¬ (x : Int) ≤ 57 := by omega
    by_cases h95 : x = 95
    · subst h95
      have hb : b = true := by rw [HB.out]; rfl
      subst hb
      go_enter Tryz.func91, Tryz.ntmps91
      go_wp2_with fail
      go_ret
      exact ⟨rfl, rfl⟩
    · have hb : b = false := by rw [HB.out]; exact decide_eq_false (by omega)
      subst hb
      have k6 : ((x : Int) == 95) = false := by rw [beq_eq_false_iff_ne]; omega
      go_enter Tryz.func91, Tryz.ntmps91
      go_wp2_with fail
      go_ret
      exact ⟨rfl, rfl⟩
theorem conv_text (s : ByteArray) (w : World) : ∃ c w2, (convert 9 58 (.string s)).run Tryz.prog w = .ok (.slice (some ⟨w.heap.size, 0, none⟩) s.size c) w2 ∧ Below w.heap.size w w2 ∧ ∀ j (hj : j < s.size), w2.cell? ⟨w.heap.size, j, none⟩ = some (.int .u8 ((s[j]'hj).toNat : Int)) := by
  refine ⟨_, _, Lib.run_convert_string_bytes w _ _ 5 s Tryz.underlying9 Tryz.underlying58 Tryz.underlying5, ⟨rfl, rfl, rfl, by rw [Lib.bytesWorld_size]; omega, fun k hk => Lib.bytesWorld_at_old w _ s k hk⟩, fun j hj => ?_⟩
  rw [Lib.bytesWorld_cell w _ s j hj]
  have hl : j < s.data.toList.length := by have := size_list s; omega
  rw [List.getD_eq_getElem?_getD, List.getElem?_eq_getElem hl]
  rfl
set_option maxHeartbeats 4000000 in
set_option maxRecDepth 100000 in
theorem mayL_any (s : ByteArray) (w : World) (hs : s.size ≤ maxLen) :
    Calls Tryz.prog 60 #[.string s] w fun e w' => e = .returned (.bool (mayN s)) ∧ Below w.heap.size w w' := by
  have hsz := size_list s
  unfold maxLen at hs
  generalize hR : mayN s = R
  have HR := Go.Lib.hid hR
  have HSZ := Go.Lib.hid hsz
  clear hR hsz
  by_cases h1 : 1 ≤ s.size
  · have k1 : ¬ (s.size : Int) < 1 := by omega
    by_cases h2 : s.size ≤ 20
    · have k2 : ¬ (20 : Int) < s.size := by omega
      obtain ⟨c, w2, hq, hb, hc⟩ := conv_text s w
      have B2 := Go.Lib.hid hb
      clear hb
      go_enter Tryz.func60, Tryz.ntmps60
      go_wp2_with fail
      go_loopw [4, 16] (fun _ i wr => ∃ j : Nat, j ≤ s.size ∧ i = .int .i64 j ∧ Hid ((s.data.toList.take j).all chN = true) ∧ w2 = wr) (fun _ i _ => s.size - (intOf i).toNat)
      case atStart => exact ⟨0, Nat.zero_le _, rfl, Go.Lib.hid rfl, rfl⟩
      case round =>
        obtain ⟨j, hj, rfl, HQ, rfl⟩ := hrel
        by_cases hlt : j < s.size
        · have i1 : (j : Int) < s.size := by omega
          have i0 : (0 : Int) ≤ j := by omega
          have HT := Go.Lib.hid (take_byte s j hlt)
          have hcj := hc j hlt
          generalize s[j]'hlt = c at *
          have HA : Hid ((s.data.toList.take (j + 1)).all chN = chN c) := Go.Lib.hid (by rw [HT.out, List.all_append, HQ.out]; simp)
          have HM : Hid (chN c = false → mayN s = false) := Go.Lib.hid (fun h => by
            have h1 := HA.out
            rw [h] at h1
            unfold mayN
            cases ha : s.data.toList.all chN with
            | false => rfl
            | true =>
              exfalso
              have h2 : (s.data.toList.take (j + 1)).all chN = true := List.all_eq_true.2 fun x hx => List.all_eq_true.1 ha x (List.mem_of_mem_take hx)
              rw [h2] at h1
              cases h1)
          clear hc HT
          go_wp2_with fail
          refine (mayHave_any c w2).mono ?_
          rintro e w' ⟨rfl, rfl⟩
          generalize chN c = b at *
          cases b with
          | true =>
            go_wp2_with fail
            go_roundw
            case rel => exact ⟨j + 1, by omega, by go_num, HA, by trivial⟩
            case measure => simp [intOf]; omega
          | false =>
            have hr : R = false := by rw [← HR.out]; exact HM.out rfl
            subst hr
            go_wp2_with fail
            go_ret
            exact ⟨rfl, B2.out⟩
        · obtain rfl : s.size = j := by omega
          have hr : R = true := by
            have h3 := HQ.out
            rw [HSZ.out, List.take_length] at h3
            rw [← HR.out]
            unfold mayN
            rw [h3]
            exact decide_eq_true ⟨h1, h2⟩
          subst hr
          clear HQ HR
          go_wp2_with fail
          go_ret
          exact ⟨rfl, B2.out⟩
    · have k2 : (20 : Int) < s.size := by omega
      obtain rfl : R = false := by rw [← HR.out]; unfold mayN; rw [decide_eq_false (fun h => h2 h.2), Bool.and_false]
      clear HR
      go_enter Tryz.func60, Tryz.ntmps60
      go_wp2_with fail
      go_ret
      exact ⟨rfl, Below.refl _ _⟩
  · have k1 : (s.size : Int) < 1 := by omega
    obtain rfl : R = false := by rw [← HR.out]; unfold mayN; rw [decide_eq_false (fun h => h1 h.1), Bool.and_false]
    clear HR
    go_enter Tryz.func60, Tryz.ntmps60
    go_wp2_with fail
    go_ret
    exact ⟨rfl, Below.refl _ _⟩
set_option maxRecDepth 100000 in
theorem newL_any (q : Int) (w : World) : Calls Tryz.prog 10 #[.int .i64 q] w fun e w' => ∃ g, e = .returned (.pointer (some ⟨g, 0, none⟩)) ∧ LdIs w' g (newD q) (fun k => w.heap.size ≤ k ∧ k < w'.heap.size) ∧ Below w.heap.size w w' := by
  have b1 : Below w.heap.size w ((w.alloc (.map #[] 0)).alloc (.cells #[.int .i64 q, .map (some w.heap.size), .bool false, .int .i64 0] 72)) := ((Below.refl _ _).alloc (Nat.le_refl _) _).alloc (by simp) _
  have hown : ((w.alloc (.map #[] 0)).alloc (.cells #[.int .i64 q, .map (some w.heap.size), .bool false, .int .i64 0] 72)).ownsMap Tryz.prog 9 ptrR w.heap.size 0 (.map []) := (World.ownsMap_made w Tryz.prog 9 ptrR).alloc _
  have e1 : (w.alloc (.map #[] 0)).heap.size = w.heap.size + 1 := by simp
  have hbox := heap_alloc_new (w.alloc (.map #[] 0)) (.cells #[.int .i64 q, .map (some w.heap.size), .bool false, .int .i64 0] 72)
  rw [e1] at hbox
  have hsz : ((w.alloc (.map #[] 0)).alloc (.cells #[.int .i64 q, .map (some w.heap.size), .bool false, .int .i64 0] 72)).heap.size = w.heap.size + 2 := by simp
  have h1 : LdAt ((w.alloc (.map #[] 0)).alloc (.cells #[.int .i64 q, .map (some w.heap.size), .bool false, .int .i64 0] 72)) (w.heap.size + 1) (newD q) (fun k => w.heap.size ≤ k ∧ k < ((w.alloc (.map #[] 0)).alloc (.cells #[.int .i64 q, .map (some w.heap.size), .bool false, .int .i64 0] 72)).heap.size) q w.heap.size false 0 (.map []) (fun _ => ⟨0, none, 0, 0⟩) :=
    ⟨hbox, rfl, rfl, fun h => (by cases h), hown, MapOf.empty _, fun _ h => (by simp [newD] at h), fun _ h => (by simp [newD] at h), ⟨by omega, by omega⟩, ⟨by omega, by omega⟩, fun k hk => hk.2⟩
  have HL := Go.Lib.hid h1
  have HB := Go.Lib.hid b1
  clear h1 b1 hown hbox
  have hmm := fun W => run_makeMap (P := Tryz.prog) 70 W
  go_enter Tryz.func10, Tryz.ntmps10
  go_wp2
  go_ret
  exact ⟨_, rfl, ⟨_, _, _, _, _, _, HL.out⟩, HB.out⟩
set_option maxRecDepth 100000 in
theorem stands_any (g : Nat) (D : Dk) (F : Nat → Prop) (qv : Int) (mb : Nat) (fu : Bool) (lv : Int) (M : DataW Nat) (hd : ByteArray → Hd) (w : World) (h : LdAt w g D F qv mb fu lv M hd) (hl : D.left ≤ 9223372036854775807) :
    Calls Tryz.prog 59 #[.pointer (some ⟨g, 0, none⟩)] w fun e w' => e = .returned (.bool (decide (D.left = 0))) ∧ (∃ lv', LdAt w' g (burnD D) F qv mb fu lv' M hd) ∧ w.grownBy w' (some g) := by
  have k2 := h.c2
  have k3 := h.c3
  have z3 := h.frozen 3
  have hz := h.lz
  have H := Go.Lib.hid h
  cases fu with
  | false =>
    have hz : D.left = -1 := hz
    have hb : burnD D = D := by
      unfold burnD
      rw [if_neg (by omega)]
    rw [hb, decide_eq_false (by omega)]
    clear hb hz h
    go_enter Tryz.func59, Tryz.ntmps59
    go_wp2
    go_ret
    exact ⟨rfl, ⟨_, H.out⟩, World.grownBy.refl _ _⟩
  | true =>
    have hz : D.left = lv := hz
    have h0 := h.l0 rfl
    by_cases hl0 : lv = 0
    · have hb : burnD D = D := by
        unfold burnD
        rw [if_neg (by omega)]
      rw [hb, decide_eq_true (by omega)]
      subst hl0
      clear hb hz h
      go_enter Tryz.func59, Tryz.ntmps59
      go_wp2
      go_ret
      exact ⟨rfl, ⟨_, H.out⟩, World.grownBy.refl _ _⟩
    · have hb : burnD D = ⟨D.quota, lv - 1, D.fs⟩ := by
        unfold burnD
        rw [if_pos (by omega), hz]
      rw [hb, decide_eq_false (by omega)]
      have e0 : (lv == 0) = false := by rw [beq_eq_false_iff_ne]; exact hl0
      have hs := grownSet w g 3 (.int .i64 (lv - 1))
      have HN := Go.Lib.hid (h.setL (lv - 1) rfl (by omega))
      clear hb h
      go_enter Tryz.func59, Tryz.ntmps59
      go_wp2
      go_ret
      exact ⟨rfl, ⟨_, HN.out⟩, hs⟩
def begC (D : Dk) (s : ByteArray) : Int := if D.left = 0 then 14 else if idxF D.fs s < D.fs.length then 0 else 11
def begP (D : Dk) (hd : ByteArray → Hd) (s : ByteArray) : Value := if D.left = 0 then .pointer none else ptrOf D.fs hd s
set_option maxRecDepth 100000 in
theorem beginL_any (g : Nat) (D : Dk) (F : Nat → Prop) (qv : Int) (mb : Nat) (fu : Bool) (lv : Int) (M : DataW Nat) (hd : ByteArray → Hd) (s : ByteArray) (w : World) (h : LdAt w g D F qv mb fu lv M hd) (hl : D.left ≤ 9223372036854775807) (hs : s.size ≤ maxLen) :
    Calls Tryz.prog 72 #[.pointer (some ⟨g, 0, none⟩), .string s] w fun e w' => e = .returned (.tuple #[begP D hd s, .int .i64 (begC D s)]) ∧ (∃ lv', LdAt w' g (burnD D) F qv mb fu lv' M hd) ∧ w.grownBy w' (some g) := by
  generalize hC : begC D s = cc
  generalize hP : begP D hd s = pp
  have HC := Go.Lib.hid hC
  have HP := Go.Lib.hid hP
  clear hC hP
  go_enter Tryz.func72, Tryz.ntmps72
  go_wp2_with fail
  refine (stands_any g D F qv mb fu lv M hd w h hl).mono ?_
  rintro e w1 ⟨rfl, ⟨lv', h1⟩, g1⟩
  have H1 := Go.Lib.hid h1
  have G1 := Go.Lib.hid g1
  by_cases h0 : D.left = 0
  · obtain rfl : cc = 14 := by rw [← HC.out]; unfold begC; rw [if_pos h0]
    obtain rfl : pp = .pointer none := by rw [← HP.out]; unfold begP; rw [if_pos h0]
    rw [decide_eq_true h0]
    clear h1 g1 h h0 HC HP
    go_wp2_with fail
    go_ret2
    exact ⟨rfl, ⟨_, H1.out⟩, G1.out⟩
  · have q1 := h1.look hs
    have k1 := h1.c1
    have ef : (burnD D).fs = D.fs := rfl
    rw [ef] at q1
    rw [decide_eq_false h0]
    by_cases hk : idxF D.fs s < D.fs.length
    · obtain rfl : cc = 0 := by rw [← HC.out]; unfold begC; rw [if_neg h0, if_pos hk]
      have e3 : ptrOf D.fs hd s = .pointer (some ⟨(hd s).k, 0, none⟩) := if_pos hk
      obtain rfl : pp = .pointer (some ⟨(hd s).k, 0, none⟩) := by rw [← HP.out, ← e3]; unfold begP; rw [if_neg h0]
      rw [e3] at q1
      clear h1 g1 e3 h h0 hk ef HC HP
      go_wp2_with fail
      go_ret2
      exact ⟨rfl, ⟨_, H1.out⟩, G1.out⟩
    · obtain rfl : cc = 11 := by rw [← HC.out]; unfold begC; rw [if_neg h0, if_neg hk]
      have e3 : ptrOf D.fs hd s = .pointer none := if_neg hk
      obtain rfl : pp = .pointer none := by rw [← HP.out, ← e3]; unfold begP; rw [if_neg h0]
      rw [e3] at q1
      clear h1 g1 e3 h h0 hk ef HC HP
      go_wp2_with fail
      go_ret2
      exact ⟨rfl, ⟨_, H1.out⟩, G1.out⟩
set_option maxRecDepth 100000 in
theorem putL_any (g : Nat) (D : Dk) (F : Nat → Prop) (qv : Int) (mb : Nat) (fu : Bool) (lv : Int) (M : DataW Nat) (hd : ByteArray → Hd) (f : Fl) (x : Hd) (fs' : List Fl) (w : World) (h : LdAt w g D F qv mb fu lv M hd) (hn : D.fs.length ≤ 1000) (hr : Rising fs') (hset : SetTo fs' D.fs f) (hs : f.name.size ≤ maxLen)
    (hx : FileR w F f x) (ha : ∀ y ∈ D.fs, y.name ≠ f.name → Apart (hd y.name) x) :
    Calls Tryz.prog 61 #[.pointer (some ⟨g, 0, none⟩), .string f.name, .pointer (some ⟨x.k, 0, none⟩)] w fun e w' => e = .returned (.tuple #[]) ∧ LdAt w' g ⟨D.quota, D.left, fs'⟩ F qv mb fu lv (M.put (keyF f.name) (.held x.k)) (setH hd f.name x) ∧ w.grownBy w' (some mb) := by
  have k1 := h.c1
  have hown := h.own
  have hkey := keyS hs
  have qm : ∀ W, (binOp .eql 70 (.map (some mb)) (.map none)).run Tryz.prog W = .ok (.bool (some mb).isNone) W := fun W => run_eql_map_nil W _ _ _ _ Tryz.underlying70
  have H := Go.Lib.hid h
  have HX := Go.Lib.hid hx
  have HA := Go.Lib.hid ha
  clear h hx ha
  go_enter Tryz.func61, Tryz.ntmps61
  go_wp2_with (at_mapUpdate; refine wpList_mapUpdate_own _ rfl _ _ _ 70 rfl 9 95 lawK Tryz.underlying70 ptrR mb D.fs.length M rfl hown (by unfold maxLen; omega) _ _ _ rfl rfl hkey _ [] (ptrR_some x.k) ?_; intro w1 hown1 hgrow1)
  go_end0
  exact ⟨rfl, H.out.named hr hset hown1 hgrow1 HX.out HA.out, hgrow1⟩
set_option maxRecDepth 100000 in
theorem fuseL_any (g : Nat) (D : Dk) (F : Nat → Prop) (k : Int) (w : World) (h : LdIs w g D F) :
    Calls Tryz.prog 28 #[.pointer (some ⟨g, 0, none⟩), .int .i64 k] w fun e w' => e = .returned (.tuple #[]) ∧ LdIs w' g (fuseD D k) (up F w w') ∧ Ch F w w' := by
  obtain ⟨qv, mb, fu, lv, M, hd, h⟩ := h
  have z2 := h.frozen 2
  have hs1 := grownSet w g 2 (.bool true)
  have hs2 := grown_setCell hs1 3 (.int .i64 (max k 0))
  have hb2 := four_set (x := .int .i64 (max k 0)) (i := 3) (four_set (x := .bool true) (i := 2) h.box (by omega)) (by omega)
  have h2 : LdAt ((w.setCell ⟨g, 2, none⟩ (.bool true)).setCell ⟨g, 3, none⟩ (.int .i64 (max k 0))) g (fuseD D k) F qv mb true (max k 0) M hd := h.boxed hs2 hb2 h.qz (by rw [if_pos rfl]) (fun _ => by omega)
  have hc : Ch F w ((w.setCell ⟨g, 2, none⟩ (.bool true)).setCell ⟨g, 3, none⟩ (.int .i64 (max k 0))) := Ch.of_grown hs2 (fun r e => by injection e with e; subst e; exact .inl h.fg)
  have hr : LdIs ((w.setCell ⟨g, 2, none⟩ (.bool true)).setCell ⟨g, 3, none⟩ (.int .i64 (max k 0))) g (fuseD D k) (up F w ((w.setCell ⟨g, 2, none⟩ (.bool true)).setCell ⟨g, 3, none⟩ (.int .i64 (max k 0)))) := ⟨_, _, _, _, _, _, h2.wide (fun _ hf => .inl hf) (fun _ hk => up_lt h.lt hc.size hk)⟩
  have HR := Go.Lib.hid hr
  have HC := Go.Lib.hid hc
  have z3 : (w.setCell ⟨g, 2, none⟩ (.bool true)).frozen? ⟨g, 3, none⟩ = false := by simp [World.frozen?, four_set (x := .bool true) (i := 2) h.box (by omega)]
  have k2 := h.c2
  have k3 := h.c3
  clear h2 hb2 hs2 hc hr
  by_cases h0 : k ≤ 0
  · have hm : max k 0 = 0 := by omega
    rw [hm] at HR HC
    go_enter Tryz.func28, Tryz.ntmps28
    go_wp2
    go_end0
    exact ⟨rfl, HR.out, HC.out⟩
  · have hm : max k 0 = k := by omega
    rw [hm] at HR HC
    go_enter Tryz.func28, Tryz.ntmps28
    go_wp2
    go_end0
    exact ⟨rfl, HR.out, HC.out⟩
end Go.Proofs.YtppidbdkejkopaaGreatDoor.DkWalk
namespace Go.Proofs.YtppidbdkejkopaaGreatDoor.DkWalk
open Go.RowKit Go.Maps MemRow Ev NameMath NameWalk EvWalk NumMem
def mkP (c : Option Nat) : Value := match c with | none => .pointer none | some k => .pointer (some ⟨k, 0, none⟩)
theorem mkP_inv (v : Value) (y : DataW Nat × List MemPlace) (h : ptrR v = some y) : ∃ c, v = mkP c := by
  unfold ptrR at h
  split at h
  · exact ⟨some _, rfl⟩
  · exact ⟨none, rfl⟩
  · cases h
section
variable (w : World) {ops : Array Oper} {rest : List Oper} {o : Oper} {a : Act} {Q : Exit → Act → World → Prop}
theorem wpList_next_fs (hg : o.guard = none) (it : Operand) (hop : o.op = Op.next it false) {M : DataW Nat} {fs : List Fl} {kk : ByteArray → Nat} (mp : MapOf M fs kk) (b r n : Nat) (left : Lit → Bool) (cnt : Nat)
    (hit : a.eval it = .pointer (some ⟨r, 0, none⟩)) (h : w.ranges Tryz.prog 9 ptrR b r n M left cnt)
    (hDone : cnt = 0 → (∀ kl, left kl = false) → wpList Tryz.prog ops Q rest (a.put o.dst (.tuple #[.bool false])) w)
    (hMore : ∀ (f : Fl), f ∈ fs → ∀ (w' : World) (cnt' : Nat), left (keyF f.name) = true → f.name.size ≤ maxLen → w'.ranges Tryz.prog 9 ptrR b r n M (strike left f.name) cnt' → cnt' < cnt → w.grownBy w' (some r) → w'.heap.size = w.heap.size →
      (Instr.entry (.pointer (some ⟨r, 0, none⟩))).run Tryz.prog w' = .ok (.tuple #[.string f.name, .pointer (some ⟨kk f.name, 0, none⟩)]) w' → wpList Tryz.prog ops Q rest (a.put o.dst (.tuple #[.bool true, .string f.name, .pointer (some ⟨kk f.name, 0, none⟩)])) w') :
    wpList Tryz.prog ops Q (o :: rest) a w := by
  refine wpList_next_ranges w hg it hop 9 lawK ptrR Go.Proofs.encStr mkP (fun key kl hk => by obtain ⟨x, hx, _⟩ := Maps.keyOf_str Tryz.underlying9 hk; exact ⟨x, hx⟩) mkP_inv b r n M left cnt hit h hDone ?_
  intro x c kl y w' cnt' hkey hlk hv hat hrg hlt hgr hsz hen
  obtain ⟨x', ex, rfl, hxl⟩ := Maps.keyOf_str Tryz.underlying9 hkey
  obtain rfl := encStr_inj ex
  obtain ⟨f, hf, ek⟩ := (mp.keys _).1 (has_true_of_atKey hat)
  have hx : x = f.name.data.toList := by
    unfold keyF at ek
    injection ek
  have e1 : Go.Proofs.encStr x = .string f.name := by
    rw [hx]
  have e2 : mkP c = .pointer (some ⟨kk f.name, 0, none⟩) := by
    have h1 := hat .nil
    rw [ek, mp.at_ f hf] at h1
    refine ptrR_held (ps := y.2) ?_
    rw [hv, h1]
  rw [ek] at hlk hrg
  rw [e1, e2] at hen ⊢
  refine hMore f hf w' cnt' hlk ?_ hrg hlt hgr hsz hen
  have := size_list f.name
  rw [hx] at hxl
  omega
end
set_option maxHeartbeats 4000000 in
set_option maxRecDepth 100000 in
theorem usedD_any (g : Nat) (D : Dk) (F : Nat → Prop) (qv : Int) (mb : Nat) (fu : Bool) (lv : Int) (M : DataW Nat) (hd : ByteArray → Hd) (w : World) (h : LdAt w g D F qv mb fu lv M hd) (go : DkGo D) :
    Calls Tryz.prog 32 #[.pointer (some ⟨g, 0, none⟩)] w fun e w' => e = .returned (.int .i64 (usedF D.fs : Nat)) ∧ Below w.heap.size w w' := by
  have k1 := h.c1
  have hown := h.own
  have MP := h.mp
  have h65 : usedF D.fs ≤ 65536 * 200 := by
    have h1 := usedF_le (fs := D.fs) fun f hf => (go.ok.fls f hf).1
    have h2 := go.ok.len
    omega
  have hsz := h.lt mb h.fm
  have H := Go.Lib.hid h
  have GO := Go.Lib.hid go
  clear h go
  go_enter Tryz.func32, Tryz.ntmps32
  go_wp2_with (at_range; refine wpList_range_own _ rfl _ 70 rfl 9 95 lawK Tryz.underlying70 ptrR mb D.fs.length M rfl hown ?_; intro w0 hrg0 hg0 hs0)
  go_frame
  go_loopw [3, 5] (fun s _ wr => ∃ (left : Lit → Bool) (cnt u : Nat), s = .int .i64 u ∧ wr.ranges Tryz.prog 9 ptrR mb w.heap.size D.fs.length M left cnt ∧ Hid (u = usedL left D.fs) ∧ Below w.heap.size w wr) (fun _ _ wr => wr.rangeLeft mb w.heap.size)
  case atStart => exact ⟨_, _, 0, rfl, hrg0, Go.Lib.hid (usedL_start fun f hf => (MP.keys _).2 ⟨f, hf, rfl⟩).symm, grown_below hg0⟩
  case round =>
    obtain ⟨left, cnt, u, rfl, hrg, HU, hb⟩ := hrel
    clear hrg0 hg0 hs0
    go_wp2_with (at_next; refine wpList_next_fs _ rfl _ rfl MP mb w.heap.size D.fs.length _ _ rfl hrg ?_ ?_)
    · intro hc0 hl0
      have hu : u = usedF D.fs := by rw [HU.out, usedL_end hl0]
      subst hu
      go_wp2_with fail
      go_ret
      exact ⟨rfl, hb⟩
    · intro f hf w2 cnt2 hlk hfs hrg2 hlt hg2 hs2 hen
      have hb2 : Below w.heap.size w w2 := hb.grown hg2 hb.size (fun r e => by injection e with e; omega)
      have hr := (H.out.below hb2).files f hf
      have x0 := hr.c0
      have HU2 : Hid (u + (hd f.name).nb = usedL (strike left f.name) D.fs) := Go.Lib.hid (by rw [usedL_step GO.out.up hf hlk, HU.out, hr.own.len])
      have hu2 : usedL (strike left f.name) D.fs ≤ 65536 * 200 := Nat.le_trans (usedL_le _ _) h65
      have hu3 : u + (hd f.name).nb ≤ 65536 * 200 := by rw [HU2.out]; exact hu2
      have HLE := hrg.left_eq
      clear hr hu2 hlk hg2 hs2 hrg hf HU
      generalize (hd f.name).nb = nb at *
      go_wp2_with fail
      go_roundw
      case rel => exact ⟨_, cnt2, u + nb, by go_num, hrg2, HU2, hb2⟩
      case measure => rw [hrg2.left_eq, HLE]; exact hlt
set_option maxRecDepth 100000 in
theorem cloneB_any (A : Option Addr) (n c : Nat) (l : List UInt8) (w : World) (h : Own w 0 5 A n c l) (hn : n ≤ 1000000) :
    Calls Tryz.prog 65 #[.slice A n c] w fun e w' => ∃ B cb, e = .returned (.slice B n cb) ∧ Own w' w.heap.size 5 B n cb l ∧ Below w.heap.size w w' := by
  have qn : ∀ W, (binOp .eql 58 (.slice A n c) (.slice none 0 0)).run Tryz.prog W = .ok (.bool A.isNone) W := fun W => Lib.run_eql_slice_nil W _ _ _ _ _ _ _ Tryz.underlying58
  cases A with
  | none =>
    have h0 : n = 0 ∧ l = [] := by
      rcases h.2 with ⟨hv, hn0⟩ | ⟨g, c', cur, hv, _⟩
      · exact ⟨hn0, List.eq_nil_of_length_eq_zero (by rw [h.len, hn0])⟩
      · injection hv with e1
        cases e1
    obtain ⟨rfl, rfl⟩ := h0
    go_enter Tryz.func65, Tryz.ntmps65
    go_wp2_with fail
    go_ret
    exact ⟨none, 0, rfl, ⟨rfl, .inl ⟨rfl, rfl⟩⟩, Below.refl _ _⟩
  | some a =>
    have al : Below w.heap.size w (w.alloc (.cells #[] 5)) := (Below.refl _ _).alloc (Nat.le_refl _) _
    have r2 := (h.below al).rd
    go_enter Tryz.func65, Tryz.ntmps65
    go_wp2_with (at_builtin; refine wpList_append_fresh rfl (.tmp 5) (.tmp 6) 58 rfl 5 Tryz.underlying58 u8_info rfl rfl (Own.empty w 5 (Nat.le_refl _)) r2 (by omega) al.size w al ?_; intro A5 c5 w5 o5 b5)
    go_ret
    exact ⟨A5, c5, rfl, o5, b5⟩
set_option maxHeartbeats 4000000 in
set_option maxRecDepth 100000 in
theorem readL_any (g : Nat) (D : Dk) (F : Nat → Prop) (s : ByteArray) (w : World) (h : LdIs w g D F) (go : DkGo D) (hs : s.size ≤ maxLen) :
    Calls Tryz.prog 34 #[.pointer (some ⟨g, 0, none⟩), .string s] w fun e w' => ∃ B m c, e = .returned (.tuple #[.slice B m c, .int .i64 (readC D s)]) ∧ Rd w' B m c (readB D s) ∧ Below w.heap.size w w' := by
  obtain ⟨qv, mb, fu, lv, M, hd, h⟩ := h
  have k1 := h.c1
  have q1 := h.look hs
  generalize hC : readC D s = cc
  generalize hB : readB D s = bb
  have HC := Go.Lib.hid hC
  have HB := Go.Lib.hid hB
  clear hC hB
  by_cases hk : idxF D.fs s < D.fs.length
  · obtain rfl : cc = 0 := by rw [← HC.out]; unfold readC; rw [if_pos hk]
    obtain rfl : bb = (D.fs.getD (idxF D.fs s) noFl).b := by rw [← HB.out]; unfold readB; rw [if_pos hk]
    have e3 : ptrOf D.fs hd s = .pointer (some ⟨(hd s).k, 0, none⟩) := if_pos hk
    rw [e3] at q1
    have hr := (h.file hk).1
    have hle : (hd s).nb ≤ 1000000 := by
      have := (go.ok.fls _ (fl_get hk)).1
      have := hr.own.len
      omega
    have x0 := hr.c0
    have ho := hr.own
    clear HC HB hr h e3 hk go
    generalize (D.fs.getD (idxF D.fs s) noFl).b = bb at *
    generalize (hd s).k = k at *
    generalize (hd s).B = B at *
    generalize (hd s).nb = nb at *
    generalize (hd s).cb = cb at *
    go_enter Tryz.func34, Tryz.ntmps34
    go_wp2_with fail
    refine (cloneB_any B nb cb bb w ho hle).mono ?_
    rintro e w2 ⟨B2, c2, rfl, o2, b2⟩
    go_wp2_with fail
    go_ret2
    exact ⟨_, _, _, rfl, o2.rd, b2⟩
  · obtain rfl : cc = 11 := by rw [← HC.out]; unfold readC; rw [if_neg hk]
    obtain rfl : bb = [] := by rw [← HB.out]; unfold readB; rw [if_neg hk]
    have e3 : ptrOf D.fs hd s = .pointer none := if_neg hk
    rw [e3] at q1
    clear HC HB h e3 hk
    go_enter Tryz.func34, Tryz.ntmps34
    go_wp2_with fail
    go_ret2
    exact ⟨none, 0, 0, rfl, Rd.nil _, Below.refl _ _⟩
end Go.Proofs.YtppidbdkejkopaaGreatDoor.DkWalk
namespace Go.Proofs.YtppidbdkejkopaaGreatDoor.DkWalk
open Go.RowKit Go.Maps MemRow Ev NameMath NameWalk EvWalk NumMem
theorem setTo_len {fs fs' : List Fl} {f : Fl} (hr : Rising fs) (hr' : Rising fs') (hset : SetTo fs' fs f) (hk : idxF fs f.name < fs.length) : fs'.length = fs.length := by
  have e : names fs' = names fs := up_ext hr' hr fun x => by
    unfold names
    rw [List.mem_map, List.mem_map]
    constructor
    · rintro ⟨y, hy, rfl⟩
      rcases (hset y).1 hy with rfl | ⟨hy, _⟩
      · exact ⟨_, fl_get hk, idxF_name hk⟩
      · exact ⟨y, hy, rfl⟩
    · rintro ⟨y, hy, rfl⟩
      by_cases hn : y.name = f.name
      · exact ⟨f, (hset f).2 (.inl rfl), hn.symm⟩
      · exact ⟨y, (hset y).2 (.inr ⟨hy, hn⟩), rfl⟩
  have := congrArg List.length e
  simpa [names] using this
theorem DidL.join {c : Int} {D' : Dk} {g : Nat} {F : Nat → Prop} {w w1 w' : World} (c1 : Ch F w w1) (hlt : ∀ k, F k → k < w.heap.size) (c2 : Ch F w1 w') (h : LdIs w' g D' (up F w1 w')) : DidL c D' g F w (.returned (.int .i64 c)) w' := by
  have c3 : Ch F w w' := c1.trans (c2.wide fun _ hk => .inl hk)
  refine ⟨rfl, h.wide (fun k hk => ?_) (fun k hk => up_lt hlt c3.size hk), c3⟩
  rcases hk with hk | hk
  · exact .inl hk
  · have := c1.size
    exact .inr ⟨by omega, hk.2⟩
theorem LdAt.is {w : World} {g : Nat} {D : Dk} {F : Nat → Prop} {qv lv : Int} {mb : Nat} {fu : Bool} {M : DataW Nat} {hd : ByteArray → Hd} (h : LdAt w g D F qv mb fu lv M hd) : LdIs w g D F := ⟨_, _, _, _, _, _, h⟩
theorem FileR.ch {w w' : World} {F : Nat → Prop} {f : Fl} {h : Hd} (r : FileR w F f h) (hc : Ch (fun k => k = h.k ∨ ∃ a, h.B = some a ∧ k = a.block) w w') : Ch F w w' :=
  hc.wide fun k hk => by
    rcases hk with rfl | ⟨a, ha, rfl⟩
    · exact r.fk
    · exact r.fb a ha
set_option maxHeartbeats 4000000 in
set_option maxRecDepth 100000 in
theorem syncL_any (g : Nat) (D : Dk) (F : Nat → Prop) (s : ByteArray) (w : World) (h : LdIs w g D F) (go : DkGo D) (hs : s.size ≤ maxLen) :
    Calls Tryz.prog 39 #[.pointer (some ⟨g, 0, none⟩), .string s] w (fun e w' => DidL (syncD D s).1 (syncD D s).2 g F w e w') := by
  obtain ⟨qv, mb, fu, lv, M, hd, h⟩ := h
  have HLT := Go.Lib.hid h.lt
  generalize hR : syncD D s = R
  have HR := Go.Lib.hid hR
  clear hR
  go_enter Tryz.func39, Tryz.ntmps39
  go_wp2_with fail
  refine (beginL_any g D F qv mb fu lv M hd s w h go.ok.left.2 hs).mono ?_
  rintro e w1 ⟨rfl, ⟨lv', h1⟩, g1⟩
  have c1 : Ch F w w1 := Ch.of_grown g1 (fun r e => by injection e with e; subst e; exact .inl h.fg)
  have go1 := burn_go go
  by_cases h0 : D.left = 0
  · have hb0 : burnD D = D := by
      unfold burnD
      rw [if_neg (by omega)]
    rw [hb0] at h1
    obtain rfl : R = (14, D) := by rw [← HR.out]; unfold syncD; rw [if_pos h0]
    rw [show begC D s = 14 by unfold begC; rw [if_pos h0], show begP D hd s = .pointer none by unfold begP; rw [if_pos h0]]
    have HD := Go.Lib.hid (DidL.of (c := 14) h1 HLT.out c1)
    clear HR h1 c1 g1 h0 hb0 h
    go_wp2_with fail
    go_ret
    exact HD.out
  by_cases hk : idxF D.fs s < D.fs.length
  · have hR1 : (0, ⟨(burnD D).quota, (burnD D).left, syncF (burnD D).fs s⟩) = R := by
      rw [← HR.out]
      unfold syncD syncC
      rw [if_neg h0, if_neg (show ¬ ¬ idxF (burnD D).fs s < (burnD D).fs.length from fun h => h hk)]
    rw [show begC D s = 0 by unfold begC; rw [if_neg h0, if_pos hk], show begP D hd s = .pointer (some ⟨(hd s).k, 0, none⟩) by unfold begP ptrOf; rw [if_neg h0, if_pos hk]]
    have hk1 : idxF (burnD D).fs s < (burnD D).fs.length := hk
    clear HR h0 hk h go g1
    generalize burnD D = D1 at *
    subst hR1
    have fr := (h1.file hk1).1
    have hl := fr.own.len
    have hset := syncF_set go1.up hk1
    have x0 := fr.c0
    have x1 := fr.c1
    have z1 := fr.frozen 1
    have hs1 := grownSet w1 (hd s).k 1 (.int .i64 ((hd s).nb : Int))
    have cc : Ch (fun k => k = (hd s).k ∨ ∃ a, (hd s).B = some a ∧ k = a.block) w1 (w1.setCell ⟨(hd s).k, 1, none⟩ (.int .i64 ((hd s).nb : Int))) := Ch.of_grown hs1 (fun r e => by injection e with e; exact .inl (.inl e.symm))
    have hbx : (w1.setCell ⟨(hd s).k, 1, none⟩ (.int .i64 ((hd s).nb : Int))).heap[(hd s).k]? = some (.cells #[.slice (hd s).B (hd s).nb (hd s).cb, .int .i64 ((D1.fs.getD (idxF D1.fs s) noFl).b.length : Nat)] 97 (0, 0)) := by
      rw [hl]
      exact pairSet1 fr.box
    have h2 := h1.wrote hk1 (x := hd s) rfl hset (by simp [syncF]) rfl cc (fun a ha => .inl ⟨a, ha, rfl⟩) hbx (own8_grown fr.own hs1 (fun a ha e => own8_not fr.own fr.box (by decide) a ha (by injection e)))
    have HD := Go.Lib.hid (DidL.join (c := 0) c1 HLT.out (fr.ch cc) h2.is)
    clear h1 c1 h2 hbx cc hs1 hset hl fr
    go_wp2_with fail
    go_ret
    exact HD.out
  · obtain rfl : R = (11, burnD D) := by
      rw [← HR.out]
      unfold syncD syncC
      rw [if_neg h0, if_pos (show ¬ idxF (burnD D).fs s < (burnD D).fs.length from hk)]
    rw [show begC D s = 11 by unfold begC; rw [if_neg h0, if_neg hk], show begP D hd s = .pointer none by unfold begP ptrOf; rw [if_neg h0, if_neg hk]]
    have HD := Go.Lib.hid (DidL.of (c := 11) h1 HLT.out c1)
    clear HR h1 c1 g1 h0 hk h
    go_wp2_with fail
    go_ret
    exact HD.out
set_option maxHeartbeats 4000000 in
set_option maxRecDepth 100000 in
theorem removeL_any (g : Nat) (D : Dk) (F : Nat → Prop) (s : ByteArray) (w : World) (h : LdIs w g D F) (go : DkGo D) (hs : s.size ≤ maxLen) :
    Calls Tryz.prog 70 #[.pointer (some ⟨g, 0, none⟩), .string s] w (fun e w' => DidL (removeD D s).1 (removeD D s).2 g F w e w') := by
  obtain ⟨qv, mb, fu, lv, M, hd, h⟩ := h
  have HLT := Go.Lib.hid h.lt
  generalize hR : removeD D s = R
  have HR := Go.Lib.hid hR
  clear hR
  go_enter Tryz.func70, Tryz.ntmps70
  go_wp2_with fail
  refine (beginL_any g D F qv mb fu lv M hd s w h go.ok.left.2 hs).mono ?_
  rintro e w1 ⟨rfl, ⟨lv', h1⟩, g1⟩
  have c1 : Ch F w w1 := Ch.of_grown g1 (fun r e => by injection e with e; subst e; exact .inl h.fg)
  have go1 := burn_go go
  by_cases h0 : D.left = 0
  · have hb0 : burnD D = D := by
      unfold burnD
      rw [if_neg (by omega)]
    rw [hb0] at h1
    obtain rfl : R = (14, D) := by rw [← HR.out]; unfold removeD; rw [if_pos h0]
    rw [show begC D s = 14 by unfold begC; rw [if_pos h0], show begP D hd s = .pointer none by unfold begP; rw [if_pos h0]]
    have HD := Go.Lib.hid (DidL.of (c := 14) h1 HLT.out c1)
    clear HR h1 c1 g1 h0 hb0 h
    go_wp2_with fail
    go_ret
    exact HD.out
  by_cases hk : idxF D.fs s < D.fs.length
  · have hR1 : (0, ⟨(burnD D).quota, (burnD D).left, dropF (burnD D).fs s⟩) = R := by
      rw [← HR.out]
      unfold removeD removeC
      rw [if_neg h0, if_pos (show idxF (burnD D).fs s < (burnD D).fs.length from hk)]
    rw [show begC D s = 0 by unfold begC; rw [if_neg h0, if_pos hk], show begP D hd s = .pointer (some ⟨(hd s).k, 0, none⟩) by unfold begP ptrOf; rw [if_neg h0, if_pos hk]]
    have hk1 : idxF (burnD D).fs s < (burnD D).fs.length := hk
    clear HR h0 hk h go g1
    generalize burnD D = D1 at *
    subst hR1
    have k1 := h1.c1
    have hown := h1.own
    have hkey := keyS hs
    have H1 := Go.Lib.hid h1
    have C1 := Go.Lib.hid c1
    clear h1 c1
    go_wp2_with (at_delete; refine wpList_delete_own _ rfl _ _ 70 9 rfl 95 lawK Tryz.underlying70 ptrR mb D1.fs.length M rfl hown _ _ rfl hkey ?_; intro w2 hown2 hturn2)
    have h2 := H1.out.dropped (dropF_rising go1.up s) (dropF_set go1.up hk1) hown2 hturn2.grown
    have c2 : Ch F w1 w2 := Ch.of_grown hturn2.grown (fun r e => by injection e with e; subst e; exact .inl H1.out.fm)
    have HD := Go.Lib.hid (DidL.join (c := 0) C1.out HLT.out c2 (h2.wide (fun _ hf => .inl hf) (fun _ hk => up_lt H1.out.lt c2.size hk)).is)
    go_ret
    exact HD.out
  · obtain rfl : R = (11, burnD D) := by
      rw [← HR.out]
      unfold removeD removeC
      rw [if_neg h0, if_neg (show ¬ idxF (burnD D).fs s < (burnD D).fs.length from hk)]
    rw [show begC D s = 11 by unfold begC; rw [if_neg h0, if_neg hk], show begP D hd s = .pointer none by unfold begP ptrOf; rw [if_neg h0, if_neg hk]]
    have HD := Go.Lib.hid (DidL.of (c := 11) h1 HLT.out c1)
    clear HR h1 c1 g1 h0 hk h
    go_wp2_with fail
    go_ret
    exact HD.out
end Go.Proofs.YtppidbdkejkopaaGreatDoor.DkWalk
namespace Go.Proofs.YtppidbdkejkopaaGreatDoor.DkWalk
open Go.RowKit Go.Maps MemRow Ev NameMath NameWalk EvWalk NumMem
set_option maxHeartbeats 4000000 in
set_option maxRecDepth 100000 in
theorem truncL_any (g : Nat) (D : Dk) (F : Nat → Prop) (s : ByteArray) (z : Int) (w : World) (h : LdIs w g D F) (go : DkGo D) (hs : s.size ≤ maxLen) :
    Calls Tryz.prog 71 #[.pointer (some ⟨g, 0, none⟩), .string s, .int .i64 z] w (fun e w' => DidL (truncD D s z).1 (truncD D s z).2 g F w e w') := by
  obtain ⟨qv, mb, fu, lv, M, hd, h⟩ := h
  have HLT := Go.Lib.hid h.lt
  generalize hR : truncD D s z = R
  have HR := Go.Lib.hid hR
  clear hR
  go_enter Tryz.func71, Tryz.ntmps71
  go_wp2_with fail
  refine (beginL_any g D F qv mb fu lv M hd s w h go.ok.left.2 hs).mono ?_
  rintro e w1 ⟨rfl, ⟨lv', h1⟩, g1⟩
  have c1 : Ch F w w1 := Ch.of_grown g1 (fun r e => by injection e with e; subst e; exact .inl h.fg)
  have go1 := burn_go go
  by_cases h0 : D.left = 0
  · have hb0 : burnD D = D := by
      unfold burnD
      rw [if_neg (by omega)]
    rw [hb0] at h1
    obtain rfl : R = (14, D) := by rw [← HR.out]; unfold truncD; rw [if_pos h0]
    rw [show begC D s = 14 by unfold begC; rw [if_pos h0], show begP D hd s = .pointer none by unfold begP; rw [if_pos h0]]
    have HD := Go.Lib.hid (DidL.of (c := 14) h1 HLT.out c1)
    clear HR h1 c1 g1 h0 hb0 h
    go_wp2_with fail
    go_ret
    exact HD.out
  by_cases hk : idxF D.fs s < D.fs.length
  · have hR1 : (if z < 0 ∨ (((burnD D).fs.getD (idxF (burnD D).fs s) noFl).b.length : Int) < z then (1, burnD D) else (0, ⟨(burnD D).quota, (burnD D).left, putF (burnD D).fs ⟨s, ((burnD D).fs.getD (idxF (burnD D).fs s) noFl).b.take z.toNat, min ((burnD D).fs.getD (idxF (burnD D).fs s) noFl).safe z.toNat⟩⟩)) = R := by
      rw [← HR.out]
      unfold truncD truncC
      rw [if_neg h0, if_neg (show ¬ ¬ idxF (burnD D).fs s < (burnD D).fs.length from fun h => h hk)]
    rw [show begC D s = 0 by unfold begC; rw [if_neg h0, if_pos hk], show begP D hd s = .pointer (some ⟨(hd s).k, 0, none⟩) by unfold begP ptrOf; rw [if_neg h0, if_pos hk]]
    have hk1 : idxF (burnD D).fs s < (burnD D).fs.length := hk
    clear HR h0 hk h go g1
    generalize burnD D = D1 at *
    have HR1 := Go.Lib.hid hR1
    clear hR1
    have fr := (h1.file hk1).1
    have hl := fr.own.len
    have hcap := fr.own.rd.le_cap
    have h65 := (go1.ok.fls _ (fl_get hk1))
    have x0 := fr.c0
    have x1 := fr.c1
    have z0 := fr.frozen 0
    generalize D1.fs.getD (idxF D1.fs s) noFl = f at *
    by_cases hbad : z < 0 ∨ (f.b.length : Int) < z
    · obtain rfl : R = (1, D1) := by rw [← HR1.out, if_pos hbad]
      have HD := Go.Lib.hid (DidL.of (c := 1) h1 HLT.out c1)
      rcases hbad with hz | hz
      · clear HR1 h1 c1 fr hl hk1
        go_wp2_with fail
        go_ret
        exact HD.out
      · have hz0 : ¬ z < 0 := by omega
        have hz1 : ((hd s).nb : Int) < z := by omega
        clear HR1 h1 c1 fr hl hk1
        go_wp2_with fail
        go_ret
        exact HD.out
    · obtain ⟨y, hy⟩ : ∃ y : Nat, z = y := ⟨z.toNat, by omega⟩
      subst hy
      have hR2 : (0, ⟨D1.quota, D1.left, putF D1.fs ⟨s, f.b.take y, min f.safe y⟩⟩) = R := by rw [← HR1.out, if_neg hbad, Int.toNat_natCast]
      have hmin : min ((f.safe : Nat) : Int) (y : Int) = ((min f.safe y : Nat) : Int) := by omega
      generalize min f.safe y = mn at *
      subst hR2
      have hz0 : ¬ (y : Int) < 0 := by omega
      have hz1 : ¬ ((hd s).nb : Int) < y := by omega
      have hyn : y ≤ (hd s).nb := by omega
      have qs := slice_upto (hd s).B (hd s).nb (hd s).cb y (Nat.le_trans hyn hcap)
      have hs1 := grownSet w1 (hd s).k 0 (.slice (hd s).B y (hd s).cb)
      have hs2 := grown_setCell hs1 1 (.int .i64 (mn : Int))
      have hb1 := pairSet0 (x := .slice (hd s).B y (hd s).cb) fr.box
      have hb2 := pairSet1 (x := .int .i64 (mn : Int)) hb1
      obtain ⟨y0, y1, yz⟩ := two_cell hb1
      have yz1 := yz 1
      have cc : Ch (fun k => k = (hd s).k ∨ ∃ a, (hd s).B = some a ∧ k = a.block) w1 ((w1.setCell ⟨(hd s).k, 0, none⟩ (.slice (hd s).B y (hd s).cb)).setCell ⟨(hd s).k, 1, none⟩ (.int .i64 (mn : Int))) := Ch.of_grown hs2 (fun r e => by injection e with e; exact .inl (.inl e.symm))
      have hset := putF_set go1.up ⟨s, f.b.take y, mn⟩
      have hlen := setTo_len go1.up (putF_rising go1.up _) hset hk1
      have h2 := h1.wrote hk1 (x := ⟨(hd s).k, (hd s).B, y, (hd s).cb⟩) rfl hset hlen rfl cc (fun a ha => .inl ⟨a, ha, rfl⟩) hb2 (own8_grown (own8_first fr.own hyn) hs2 (fun a ha e => own8_not fr.own fr.box (by decide) a ha (by injection e)))
      have HD := Go.Lib.hid (DidL.join (c := 0) c1 HLT.out (fr.ch cc) h2.is)
      have HM := Go.Lib.hid hmin
      clear h1 c1 h2 hb1 hb2 cc hs1 hs2 hset hlen fr hl HR1 hbad hmin hk1 yz hcap h65
      go_upto_region 8 with (fail)
      rw [HM.out]
      go_wp2_with fail
      go_ret
      exact HD.out
  · obtain rfl : R = (11, burnD D) := by
      rw [← HR.out]
      unfold truncD truncC
      rw [if_neg h0, if_pos (show ¬ idxF (burnD D).fs s < (burnD D).fs.length from hk)]
    rw [show begC D s = 11 by unfold begC; rw [if_neg h0, if_neg hk], show begP D hd s = .pointer none by unfold begP ptrOf; rw [if_neg h0, if_neg hk]]
    have HD := Go.Lib.hid (DidL.of (c := 11) h1 HLT.out c1)
    clear HR h1 c1 g1 h0 hk h
    go_wp2_with fail
    go_ret
    exact HD.out
set_option maxHeartbeats 4000000 in
set_option maxRecDepth 100000 in
theorem turnL_any (g : Nat) (D1 : Dk) (F : Nat → Prop) (s : ByteArray) (z : Int) (w1 : World) (h : LdIs w1 g D1 F) (go1 : DkGo D1) (hs : s.size ≤ maxLen) :
    Calls Tryz.prog 22 #[.pointer (some ⟨g, 0, none⟩), .string s, .int .i64 z] w1 (fun e w' => DidL (turnC D1 s z).1 (turnC D1 s z).2 g F w1 e w') := by
  obtain ⟨qv, mb, fu, lv, M, hd, h1⟩ := h
  have HLT := Go.Lib.hid h1.lt
  generalize hR : turnC D1 s z = R
  have HR := Go.Lib.hid hR
  clear hR
  have k1 := h1.c1
  have q1 := h1.look hs
  by_cases hk1 : idxF D1.fs s < D1.fs.length
  · have hR1 : (if z < 0 ∨ ((D1.fs.getD (idxF D1.fs s) noFl).b.length : Int) ≤ z then (1, D1) else (0, ⟨D1.quota, D1.left, putF D1.fs ⟨s, (D1.fs.getD (idxF D1.fs s) noFl).b.set z.toNat ((D1.fs.getD (idxF D1.fs s) noFl).b.getD z.toNat 0 ^^^ 1), (D1.fs.getD (idxF D1.fs s) noFl).safe⟩⟩)) = R := by
      rw [← HR.out]
      unfold turnC
      rw [if_neg (show ¬ ¬ idxF D1.fs s < D1.fs.length from fun h => h hk1)]
    have HR1 := Go.Lib.hid hR1
    clear hR1 HR
    rw [show ptrOf D1.fs hd s = .pointer (some ⟨(hd s).k, 0, none⟩) from if_pos hk1] at q1
    have fr := (h1.file hk1).1
    have hl := fr.own.len
    have x0 := fr.c0
    by_cases hbad : z < 0 ∨ ((D1.fs.getD (idxF D1.fs s) noFl).b.length : Int) ≤ z
    · obtain rfl : R = (1, D1) := by rw [← HR1.out, if_pos hbad]
      have HD := Go.Lib.hid (DidL.of (c := 1) h1 HLT.out (Ch.refl F w1))
      rcases hbad with hz | hz
      · clear HR1 h1 fr hl hk1
        go_enter Tryz.func22, Tryz.ntmps22
        go_wp2_with fail
        go_ret
        exact HD.out
      · have hz0 : ¬ z < 0 := by omega
        have hz1 : ((hd s).nb : Int) ≤ z := by omega
        clear HR1 h1 fr hl hk1
        go_enter Tryz.func22, Tryz.ntmps22
        go_wp2_with fail
        go_ret
        exact HD.out
    · obtain ⟨y, hy⟩ : ∃ y : Nat, z = y := ⟨z.toNat, by omega⟩
      subst hy
      have hR2 : (0, ⟨D1.quota, D1.left, putF D1.fs ⟨s, (D1.fs.getD (idxF D1.fs s) noFl).b.set y ((D1.fs.getD (idxF D1.fs s) noFl).b.getD y 0 ^^^ 1), (D1.fs.getD (idxF D1.fs s) noFl).safe⟩⟩) = R := by rw [← HR1.out, if_neg hbad, Int.toNat_natCast]
      subst hR2
      have hz0 : ¬ (y : Int) < 0 := by omega
      have hz1 : ¬ ((hd s).nb : Int) ≤ y := by omega
      have hz2 : (0 : Int) ≤ y := by omega
      have hz3 : (y : Int) < (hd s).nb := by omega
      have hyn : y < (hd s).nb := by omega
      obtain ⟨blk, oo, hA, _, hcc⟩ := fr.own.rd.at_ (by omega)
      obtain ⟨rfl, hfz, _⟩ := own_zero (k := 1) (cs := cellsOf (D1.fs.getD (idxF D1.fs s) noFl).b) fr.own hA
      have hc := hcc y hyn
      rw [Nat.zero_add] at hc
      have hzf := hfz y
      have HX := Go.Lib.hid (xor1 ((D1.fs.getD (idxF D1.fs s) noFl).b.getD y 0))
      have hs1 := grownSet w1 blk y (.int .u8 (((D1.fs.getD (idxF D1.fs s) noFl).b.getD y 0 ^^^ 1).toNat : Int))
      have cc : Ch (fun k => k = (hd s).k ∨ ∃ a, (hd s).B = some a ∧ k = a.block) w1 (w1.setCell ⟨blk, y, none⟩ (.int .u8 (((D1.fs.getD (idxF D1.fs s) noFl).b.getD y 0 ^^^ 1).toNat : Int))) := Ch.of_grown hs1 (fun r e => by injection e with e; exact .inl (.inr ⟨_, hA, e.symm⟩))
      have hne : (hd s).k ≠ blk := fun e => own8_not fr.own fr.box (by decide) _ hA e.symm
      have hbx := (hs1.block _ fr.lt (fun e => hne (by injection e))).trans fr.box
      have hset := putF_set go1.up ⟨s, (D1.fs.getD (idxF D1.fs s) noFl).b.set y ((D1.fs.getD (idxF D1.fs s) noFl).b.getD y 0 ^^^ 1), (D1.fs.getD (idxF D1.fs s) noFl).safe⟩
      have hlen := setTo_len go1.up (putF_rising go1.up _) hset hk1
      have h2 := h1.wrote hk1 (x := hd s) rfl hset hlen rfl cc (fun a ha => .inl ⟨a, ha, rfl⟩) hbx (own8_set fr.own hA y _)
      have HD := Go.Lib.hid (DidL.join (c := 0) (Ch.refl F w1) HLT.out (fr.ch cc) h2.is)
      clear h1 h2 cc hs1 hset hlen fr hl HR1 hbad hk1 hcc hfz hne hbx
      rw [hA] at x0
      generalize (D1.fs.getD (idxF D1.fs s) noFl).b.getD y 0 = cv at *
      go_enter Tryz.func22, Tryz.ntmps22
      go_upto_region 7 with (fail)
      rw [HX.out]
      go_wp2_with fail
      go_ret
      exact HD.out
  · obtain rfl : R = (11, D1) := by
      rw [← HR.out]
      unfold turnC
      rw [if_pos hk1]
    rw [show ptrOf D1.fs hd s = .pointer none from if_neg hk1] at q1
    have HD := Go.Lib.hid (DidL.of (c := 11) h1 HLT.out (Ch.refl F w1))
    clear HR h1 hk1
    go_enter Tryz.func22, Tryz.ntmps22
    go_wp2_with fail
    go_ret
    exact HD.out
end Go.Proofs.YtppidbdkejkopaaGreatDoor.DkWalk
namespace Go.Proofs.YtppidbdkejkopaaGreatDoor.DkWalk
open Go.RowKit Go.Maps MemRow Ev NameMath NameWalk EvWalk NumMem
theorem rdc_of {w : World} {A : Option Addr} {n cap : Nat} {l : List UInt8} (h : Rd w A n cap l) : RdC 1 w A n cap (cellsOf l) := by
  refine ⟨by rw [cellsOf_length, h.len, Nat.mul_one], h.2.1, h.2.2.1, fun hn => ?_⟩
  obtain ⟨b, o, hA, hc⟩ := h.2.2.2 hn
  refine ⟨b, o, hA, fun i v hi => ?_⟩
  have hl := h.len
  have hil : i < l.length := by
    have := (List.getElem?_eq_some_iff.1 hi).1
    rwa [cellsOf_length] at this
  rw [hc i (by omega)]
  unfold cellsOf at hi
  rw [List.getElem?_map, List.getElem?_eq_getElem hil] at hi
  rw [← hi, List.getD_eq_getElem?_getD, List.getElem?_eq_getElem hil]
  rfl
theorem LdAt.noByte {w : World} {g : Nat} {D : Dk} {F : Nat → Prop} {qv lv : Int} {mb : Nat} {fu : Bool} {M : DataW Nat} {hd : ByteArray → Hd} (h : LdAt w g D F qv mb fu lv M hd) : ∀ o k, w.cell? ⟨g, o, none⟩ ≠ some (.int .u8 k) := by
  intro o k
  rw [cell_of_row w g o _ _ _ h.box]
  match o with
  | 0 => simp
  | 1 => simp
  | 2 => simp
  | 3 => simp
  | n + 4 => simp
structure AppRel (w : World) (F G : Nat → Prop) (D : Dk) (hd : ByteArray → Hd) (s : ByteArray) (x : Hd) : Prop where
  fr : FileR w G (fileOf D.fs s) x
  ap : ∀ y ∈ D.fs, y.name ≠ s → Apart (hd y.name) x
  old : idxF D.fs s < D.fs.length → x = hd s
  new : ¬ idxF D.fs s < D.fs.length → ∀ k, F k → k ≠ x.k ∧ ∀ a, x.B = some a → k ≠ a.block
section
variable {w w' : World} {F G : Nat → Prop} {D : Dk} {hd : ByteArray → Hd} {s : ByteArray} {x : Hd}
theorem AppRel.below (h : AppRel w F G D hd s x) (hb : Below w.heap.size w w') : AppRel w' F G D hd s x :=
  ⟨h.fr.kept (hb.block _ h.fr.lt) (fun a ha => hb.block _ (h.fr.blt a ha)) (fun _ h => h), h.ap, h.old, h.new⟩
theorem AppRel.wide {G' : Nat → Prop} (h : AppRel w F G D hd s x) (hs : ∀ k, G k → G' k) : AppRel w F G' D hd s x := ⟨h.fr.wide hs, h.ap, h.old, h.new⟩
end
theorem app_ready {w w' : World} {g : Nat} {D : Dk} {F G : Nat → Prop} {qv lv : Int} {mb : Nat} {fu : Bool} {M : DataW Nat} {hd : ByteArray → Hd} {s : ByteArray} {x x' : Hd} {f' : Fl} (h : LdAt w g D F qv mb fu lv M hd) (go : DkGo D) (r : AppRel w F G D hd s x) (hFG : ∀ k, F k → G k) (hG : ∀ k, G k → k < w.heap.size)
    (hn : f'.name = s) (hk : x'.k = x.k) (hc : Ch (fun k => k = x.k ∨ ∃ a, x.B = some a ∧ k = a.block) w w') (hB : ∀ a, x'.B = some a → (∃ b, x.B = some b ∧ a.block = b.block) ∨ (w.heap.size ≤ a.block ∧ a.block < w'.heap.size))
    (hb : w'.heap[x'.k]? = some (.cells #[.slice x'.B x'.nb x'.cb, .int .i64 f'.safe] 97 (0, 0))) (ho : Own w' 0 5 x'.B x'.nb x'.cb f'.b) :
    ∃ fq hq, LdAt w' g ⟨D.quota, D.left, fq⟩ (up G w w') qv mb fu lv M hq ∧ fq.length ≤ 1000 ∧ SetTo (putF D.fs f') fq f' ∧ FileR w' (up G w w') f' x' ∧ ∀ y ∈ fq, y.name ≠ f'.name → Apart (hq y.name) x' := by
  subst hn
  have fr' : FileR w' (up G w w') f' x' := ⟨hb, ho, by rw [hk]; exact .inl r.fr.fk, fun a ha => by
    rcases hB a ha with ⟨b, hb2, e⟩ | h2
    · rw [e]
      exact .inl (r.fr.fb b hb2)
    · exact .inr h2⟩
  have hset := putF_set go.up f'
  have hl200 := go.ok.len
  have hup : ∀ k, up G w w' k → k < w'.heap.size := fun k hk => up_lt hG hc.size hk
  have new : ∀ y ∈ D.fs, y.name ≠ f'.name → Apart (hd y.name) x' := fun y hy hne2 => by
    have ha := r.ap y hy hne2
    refine ⟨by rw [hk]; exact ha.1, fun a b h1 h2 e => ?_⟩
    rcases hB b h2 with ⟨c, hc2, e2⟩ | h3
    · exact ha.2 a c h1 hc2 (by rw [e, e2])
    · have := (h.files y hy).blt a h1
      omega
  by_cases hkx : idxF D.fs f'.name < D.fs.length
  · obtain rfl := r.old hkx
    have hlen := setTo_len go.up (putF_rising go.up f') hset hkx
    have h2 := h.wrote hkx rfl hset hlen hk hc hB hb ho
    refine ⟨_, _, h2.wide (fun k hk => ?_) hup, by omega, fun y => ?_, fr', fun y hy hne => ?_⟩
    · rcases hk with hk | hk
      · exact .inl (hFG k hk)
      · exact .inr hk
    · constructor
      · intro hy
        rcases (hset y).1 hy with rfl | ⟨_, h4⟩
        · exact .inl rfl
        · exact .inr ⟨hy, h4⟩
      · rintro (rfl | ⟨hy, _⟩)
        · exact (hset y).2 (.inl rfl)
        · exact hy
    · rcases (hset y).1 hy with rfl | ⟨hy, _⟩
      · exact absurd rfl hne
      · rw [setH_ne _ _ hne]
        exact new y hy hne
  · have hkeep := r.new hkx
    have h2 := h.keep hc.size fun k hk => hc.block k (h.lt k hk) fun e => by
      rcases e with e | ⟨a, ha, e⟩
      · exact (hkeep k hk).1 e
      · exact (hkeep k hk).2 a ha e
    exact ⟨D.fs, hd, h2.wide (fun k hk => .inl (hFG k hk)) hup, by omega, hset, fr', new⟩
set_option maxHeartbeats 8000000 in
set_option maxRecDepth 100000 in
theorem appendL_any (g : Nat) (D : Dk) (F : Nat → Prop) (s : ByteArray) (Bb : Option Addr) (m cb : Nat) (b : List UInt8) (w : World) (h : LdIs w g D F) (go : DkGo D) (hs : s.size ≤ maxLen) (rb : Rd w Bb m cb b) (hm : m ≤ 1000000) :
    Calls Tryz.prog 30 #[.pointer (some ⟨g, 0, none⟩), .string s, .slice Bb m cb] w (fun e w' => DidL (appendD D s b).1 (appendD D s b).2 g F w e w') := by
  obtain ⟨qv, mb, fu, lv, M, hd, h⟩ := h
  have HLT := Go.Lib.hid h.lt
  have hbl := rb.len
  generalize hR : appendD D s b = R
  have HR := Go.Lib.hid hR
  clear hR
  go_enter Tryz.func30, Tryz.ntmps30
  go_wp2_with fail
  refine (stands_any g D F qv mb fu lv M hd w h go.ok.left.2).mono ?_
  rintro e w1 ⟨rfl, ⟨lv', h1⟩, g1⟩
  have rb1 := Rd.grown rb g1 h.noByte
  have c1 : Ch F w w1 := Ch.of_grown g1 (fun r e => by injection e with e; subst e; exact .inl h.fg)
  have C1 := Go.Lib.hid c1
  by_cases h0 : D.left = 0
  · have hb0 : burnD D = D := by
      unfold burnD
      rw [if_neg (by omega)]
    rw [hb0] at h1
    obtain rfl : R = (14, D) := by rw [← HR.out]; unfold appendD; rw [if_pos h0]
    rw [decide_eq_true h0]
    have HD := Go.Lib.hid (DidL.of (c := 14) h1 HLT.out c1)
    clear HR h1 c1 g1 h0 hb0 h rb rb1
    go_wp2_with fail
    go_ret
    exact HD.out
  rw [decide_eq_false h0]
  have HR1 : Hid (appendC (burnD D) s b = R) := Go.Lib.hid (by rw [← HR.out]; unfold appendD; rw [if_neg h0])
  have go1 := burn_go go
  clear HR h0 h go rb g1
  generalize burnD D = D1 at *
  have k1 := h1.c1
  have q1 := h1.look_ok hs
  go_upto_region 4 with (fail)
  go_upto_if 21 with (fail)
  go_cut [7, 8] (fun v v8 wx => ∃ x, v = .pointer (some ⟨x.k, 0, none⟩) ∧ v8 = .bool (decide (idxF D1.fs s < D1.fs.length)) ∧ Below w1.heap.size w1 wx ∧ AppRel wx F (up F w1 wx) D1 hd s x)
  case first =>
    by_cases hk : idxF D1.fs s < D1.fs.length
    · rw [decide_eq_true hk, show ptrOf D1.fs hd s = .pointer (some ⟨(hd s).k, 0, none⟩) from if_pos hk]
      have HA : Hid (AppRel w1 F (up F w1 w1) D1 hd s (hd s)) := Go.Lib.hid (by
        refine ⟨?_, fun y hy hne => ?_, fun _ => rfl, fun h => absurd hk h⟩
        · have fr := (h1.file hk).1
          rw [show fileOf D1.fs s = D1.fs.getD (idxF D1.fs s) noFl from if_pos hk]
          exact fr.wide fun _ hf => .inl hf
        · have ha := h1.apart y hy _ (fl_get hk) (by rw [idxF_name hk]; exact hne)
          rwa [idxF_name hk] at ha)
      clear h1 c1 q1
      go_wp2_with fail
      go_meet
      exact ⟨_, rfl, by simp [hk], Below.refl _ _, HA.out⟩
    · rw [decide_eq_false hk, show ptrOf D1.fs hd s = .pointer none from if_neg hk]
      have al : Below w1.heap.size w1 (w1.alloc (.cells #[.slice none 0 0, .int .i64 0] 97)) := (Below.refl _ _).alloc (Nat.le_refl _) _
      have hx := heap_alloc_new w1 (.cells #[.slice none 0 0, .int .i64 0] 97)
      have HA : Hid (AppRel (w1.alloc (.cells #[.slice none 0 0, .int .i64 0] 97)) F (up F w1 (w1.alloc (.cells #[.slice none 0 0, .int .i64 0] 97))) D1 hd s ⟨w1.heap.size, none, 0, 0⟩) := Go.Lib.hid (by
        have e : fileOf D1.fs s = ⟨s, [], 0⟩ := if_neg hk
        refine ⟨?_, fun y hy hne => ?_, fun h => absurd h hk, fun _ k hf => ⟨?_, fun a ha => (by cases ha)⟩⟩
        · rw [e]
          exact ⟨hx, ⟨rfl, .inl ⟨rfl, rfl⟩⟩, .inr ⟨Nat.le_refl _, by simp⟩, fun a ha => (by cases ha)⟩
        · have := (h1.files y hy).lt
          exact ⟨by simp only; omega, fun a b _ hb => (by cases hb)⟩
        · have := h1.lt k hf
          simp only
          omega)
      have AL := Go.Lib.hid al
      clear h1 c1 q1 hx al
      go_wp2_with fail
      go_meet
      exact ⟨_, rfl, by simp [hk], AL.out, HA.out⟩
  case rest =>
    obtain ⟨x, rfl, rfl, bc, ar⟩ := hcut
    have hc := h1.below bc
    have hup : ∀ k, up F w1 wc k → k < wc.heap.size := fun k hk => up_lt h1.lt bc.size hk
    have cc := c1.then_below bc
    have rbc := rb1.below bc
    clear q1 k1
    go_wp2_with fail
    refine (mayL_any s wc hs).mono ?_
    rintro e w2 ⟨rfl, b2⟩
    have h2 := hc.below b2
    have c2 := cc.then_below b2
    have r2 := rbc.below b2
    have a2 := ar.below b2
    cases hmay : mayN s with
    | false =>
      obtain rfl : R = (5, D1) := by rw [← HR1.out]; unfold appendC; rw [if_pos hmay]
      have HD := Go.Lib.hid (DidL.of (c := 5) h2 HLT.out c2)
      clear HR1 h1 c1 hc cc h2 c2 hmay
      go_wp2_with fail
      go_ret
      exact HD.out
    | true =>
      have hR2 : (if 65536 < (fileOf D1.fs s).b.length + b.length ∨ (¬ idxF D1.fs s < D1.fs.length ∧ 200 ≤ D1.fs.length) then (3, D1) else if D1.quota < (usedF D1.fs + b.length : Nat) then (10, D1) else (0, ⟨D1.quota, D1.left, putF D1.fs ⟨s, (fileOf D1.fs s).b ++ b, (fileOf D1.fs s).safe⟩⟩)) = R := by
        rw [← HR1.out]
        unfold appendC
        rw [if_neg (show ¬ mayN s = false by rw [hmay]; decide)]
      have HR2 := Go.Lib.hid hR2
      have x0 := a2.fr.c0
      have hxl := a2.fr.own.len
      have k2 := h2.c1
      have hsz := h2.size go1.up
      have ql : ∀ ty, (Builtin.len_ #[70] ty #[.map (some mb)]).run Tryz.prog w2 = .ok (.int .i64 (D1.fs.length : Nat)) w2 := fun ty => by rw [← hsz]; exact h2.own.len Tryz.underlying70 ty
      have h65 : (fileOf D1.fs s).b.length ≤ 65536 := (fileOf_ok go1.ok s).1
      have h200 := go1.ok.len
      have H1 := Go.Lib.hid h1
      have C2 := Go.Lib.hid c2
      have A2 := Go.Lib.hid a2
      have H2 := Go.Lib.hid h2
      have R2 := Go.Lib.hid r2
      clear HR1 h1 c1 hc cc hmay hR2 h2 c2 a2 ar rb1 rbc r2
      go_upto_region 8 with (fail)
      go_cut [8, 28] (fun v8 v wx => v8 = .bool (decide (idxF D1.fs s < D1.fs.length)) ∧ v = .bool (decide (65536 < (fileOf D1.fs s).b.length + b.length ∨ (¬ idxF D1.fs s < D1.fs.length ∧ 200 ≤ D1.fs.length))) ∧ w2 = wx)
      case first =>
        generalize hL : (fileOf D1.fs s).b.length = L at *
        generalize hI : idxF D1.fs s = ix at *
        generalize hN : D1.fs.length = N at *
        clear hL hI hN HR2 H1 C2 A2 H2 R2
        by_cases hbig : 65536 < L + b.length
        · have hd : decide (65536 < L + b.length ∨ (¬ ix < N ∧ 200 ≤ N)) = true := decide_eq_true (.inl hbig)
          have HD := Go.Lib.hid hd
          have i0 : (65536 : Int) < (x.nb : Int) + m := by omega
          clear hd hbig
          go_wp2_with fail
          go_meet
          exact ⟨rfl, by rw [HD.out], rfl⟩
        · have i0 : ¬ (65536 : Int) < (x.nb : Int) + m := by omega
          by_cases hk : ix < N
          · have hd : decide (65536 < L + b.length ∨ (¬ ix < N ∧ 200 ≤ N)) = false := decide_eq_false (fun h => by rcases h with h | h; exact hbig h; exact h.1 hk)
            have HD := Go.Lib.hid hd
            have HK := Go.Lib.hid (decide_eq_true hk)
            rw [decide_eq_true hk]
            clear hd hbig hk
            go_wp2_with fail
            go_meet
            exact ⟨by rw [HK.out], by rw [HD.out], rfl⟩
          · have HK := Go.Lib.hid (decide_eq_false hk)
            by_cases h2 : 200 ≤ N
            · have hd : decide (65536 < L + b.length ∨ (¬ ix < N ∧ 200 ≤ N)) = true := decide_eq_true (.inr ⟨hk, h2⟩)
              have HD := Go.Lib.hid hd
              have i2 : (200 : Int) ≤ N := by omega
              rw [decide_eq_false hk]
              clear hd hbig hk
              go_wp2_with fail
              go_meet
              exact ⟨by rw [HK.out], by rw [HD.out], rfl⟩
            · have hd : decide (65536 < L + b.length ∨ (¬ ix < N ∧ 200 ≤ N)) = false := decide_eq_false (fun h => by rcases h with h | h; exact hbig h; exact h2 h.2)
              have HD := Go.Lib.hid hd
              have i2 : ¬ (200 : Int) ≤ N := by omega
              rw [decide_eq_false hk]
              clear hd hbig hk
              go_wp2_with fail
              go_meet
              exact ⟨by rw [HK.out], by rw [HD.out], rfl⟩
      case rest =>
        obtain ⟨rfl, rfl, rfl⟩ := hcut
        clear ql k2 x0
        by_cases hbig : 65536 < (fileOf D1.fs s).b.length + b.length ∨ (¬ idxF D1.fs s < D1.fs.length ∧ 200 ≤ D1.fs.length)
        · obtain rfl : R = (3, D1) := by rw [← HR2.out, if_pos hbig]
          rw [decide_eq_true hbig]
          have HD := Go.Lib.hid (DidL.of (c := 3) H2.out HLT.out C2.out)
          clear HR2 hbig
          go_wp2_with fail
          go_ret
          exact HD.out
        · rw [decide_eq_false hbig]
          have HR3 : Hid ((if D1.quota < (usedF D1.fs + b.length : Nat) then (10, D1) else (0, ⟨D1.quota, D1.left, putF D1.fs ⟨s, (fileOf D1.fs s).b ++ b, (fileOf D1.fs s).safe⟩⟩)) = R) := Go.Lib.hid (by rw [← HR2.out, if_neg hbig])
          have hsum : (fileOf D1.fs s).b.length + b.length ≤ 65536 := by omega
          have hu := usedF_le (fs := D1.fs) fun f hf => (go1.ok.fls f hf).1
          clear HR2 hbig
          have h2 := H2.out
          have k0 := h2.c0
          have b0 : Below w2.heap.size w2 w2.drew := bel_drew (Below.refl _ _)
          have hcd := h2.below b0
          have hqz := h2.qz
          generalize hU : usedF D1.fs = U at *
          have HU := Go.Lib.hid hU
          clear hU
          have hw : IntKind.i64.wrap ((U : Int) + m) = (U : Int) + m := IntWalk.i64_in _ (by omega)
          go_wp2_with fail
          go_region_held (fun w' => w'.cell? ⟨g, 0, none⟩ = some (.int .i64 qv))
            (first | exact k0 | exact bcell b8 k0)
            (first | (go_at_call 32; refine (usedD_any g D1 F qv mb fu lv' M hd w2.drew hcd go1).mono ?_; rintro e w8 ⟨rfl, bb⟩; rw [HU.out]; have b8 := below_chain b0 bb; clear bb))
          all_goals
            have h8 := h2.below b8
            have c8 := C2.out.then_below b8
            have a8 := A2.out.below b8
            have p8 := R2.out.below b8
            have HUP := Go.Lib.hid hup
            clear k0 b0 hcd h2
            by_cases hov : D1.quota < (U + b.length : Nat)
            · obtain rfl : R = (10, D1) := by rw [← HR3.out, if_pos hov]
              have HD := Go.Lib.hid (DidL.of (c := 10) h8 HLT.out c8)
              have i3 : D1.quota < (U : Int) + m := by omega
              clear HR3 hov h8 c8 a8 p8 hqz hup
              go_wp2_with fail
              go_ret
              exact HD.out
            · have hR4 : (0, ⟨D1.quota, D1.left, putF D1.fs ⟨s, (fileOf D1.fs s).b ++ b, (fileOf D1.fs s).safe⟩⟩) = R := by rw [← HR3.out, if_neg hov]
              have i3 : ¬ D1.quota < (U : Int) + m := by omega
              clear HR3 hov hqz hup
              generalize hf0 : fileOf D1.fs s = f0 at *
              subst hR4
              have fr8 := a8.fr
              rw [hf0] at fr8
              have x0 := fr8.c0
              have hxlt := fr8.lt
              have h63 : x.nb + m ≤ maxLen := by unfold maxLen; omega
              have hsz8 : (x.nb + m) * 1 ≤ 140737488355328 := by omega
              have d8 := rdc_of p8
              have HF0 := Go.Lib.hid hf0
              have FR8 := Go.Lib.hid fr8
              have H8 := Go.Lib.hid h8
              have C8 := Go.Lib.hid c8
              have A8 := Go.Lib.hid a8
              have own8 : OwnC 1 w8 0 5 x.B x.nb x.cb (cellsOf f0.b) := fr8.own
              have lt8 : ∀ k, up F w1 wc k → k < w8.heap.size := fun k hk => Nat.lt_of_lt_of_le (HUP.out k hk) (Nat.le_trans b2.size b8.size)
              have LT8 := Go.Lib.hid lt8
              clear fr8 h8 c8 a8 p8 hf0 hu hw lt8
              go_upto_region 12 with (fail)
              go_wp2_with (at_builtin; refine wpList_append_cells rfl (.tmp 66) (.tmp 67) 58 rfl 5 (.int .u8 0) 1 Tryz.underlying58 u8_info rfl (by decide) rfl rfl own8 d8 (cellsOf_one b) h63 hsz8 (Nat.zero_le _) ?_; intro A9 c9 w9 o9 g9 loc; have bx9 := (g9.block _ hxlt (fun e => (by cases hB : x.B with
                  | none => rw [hB] at e; cases e
                  | some a => rw [hB] at e; injection e with e; exact own8_not FR8.out.own FR8.out.box (by decide) a hB e.symm))).trans FR8.out.box; obtain ⟨y0, y1, yz⟩ := two_cell bx9; have yz0 := yz 0)
              have hs10 := grownSet w9 x.k 0 (.slice A9 (x.nb + m) c9)
              have c89 : Ch (fun k => k = x.k ∨ ∃ a, x.B = some a ∧ k = a.block) w8 w9 := Ch.of_grown g9 (fun r e => by
                cases hB : x.B with
                | none => rw [hB] at e; cases e
                | some a => rw [hB] at e; injection e with e; exact .inl (.inr ⟨a, rfl, e.symm⟩))
              have c10 : Ch (fun k => k = x.k ∨ ∃ a, x.B = some a ∧ k = a.block) w8 (w9.setCell ⟨x.k, 0, none⟩ (.slice A9 (x.nb + m) c9)) := c89.then_grown hs10 (fun r e => by injection e with e; exact .inl (.inl (.inl e.symm)))
              have hb10 := pairSet0 (x := .slice A9 (x.nb + m) c9) bx9
              have o9' : Own w9 0 5 A9 (x.nb + m) c9 (f0.b ++ b) := by
                unfold Own
                rw [cellsOf_append]
                exact o9
              have ho10 := own8_grown o9' hs10 (fun a ha e => own8_not o9' bx9 (by decide) a ha (by injection e))
              have hB10 : ∀ a, A9 = some a → (∃ b, x.B = some b ∧ a.block = b.block) ∨ (w8.heap.size ≤ a.block ∧ a.block < (w9.setCell ⟨x.k, 0, none⟩ (.slice A9 (x.nb + m) c9)).heap.size) := fun a ha => by
                rcases loc with h | h
                · cases hB : x.B with
                  | none => rw [ha, hB] at h; cases h
                  | some b => rw [ha, hB] at h; injection h with h; exact .inl ⟨b, rfl, h⟩
                · rw [ha] at h
                  injection h with h
                  have h : a.block = w8.heap.size := h
                  have := (World.ownsRow.lt o9' a.block (by simp [Value.ownBlock, ha])).2
                  have := hs10.size
                  exact .inr ⟨by omega, by omega⟩
              obtain ⟨fq, hq, l10, q1, q2, q3, q4⟩ := app_ready (x' := ⟨x.k, A9, x.nb + m, c9⟩) (f' := ⟨s, f0.b ++ b, f0.safe⟩) H8.out go1 A8.out (fun _ hf => .inl hf) LT8.out rfl rfl c10 hB10 hb10 ho10
              have PU := putL_any g ⟨D1.quota, D1.left, fq⟩ _ qv mb fu lv' M hq ⟨s, f0.b ++ b, f0.safe⟩ ⟨x.k, A9, x.nb + m, c9⟩ _ _ l10 q1 (putF_rising go1.up _) q2 hs q3 q4
              have P := Go.Lib.hid PU
              have C10 := Go.Lib.hid c10
              have L10 := Go.Lib.hid l10
              clear PU l10 q2 q3 q4 hB10 ho10 o9' hb10 c10 c89 hs10 loc o9 g9 bx9 y0 y1 yz yz0 own8 d8
              refine (P.out).mono ?_
              rintro e w11 ⟨rfl, l11, g11⟩
              have glt8 := H8.out.lt
              have c811 : Ch (up F w1 wc) w8 w11 := (C10.out.wide fun k hk => (by
                rcases hk with rfl | ⟨a, ha, rfl⟩
                · exact FR8.out.fk
                · exact FR8.out.fb a ha)).trans (Ch.of_grown g11 (fun r e => by injection e with e; subst e; exact .inl (.inl (.inl H8.out.fm))))
              have c111 : Ch F w1 w11 := (Ch.of_below bc).trans (((Ch.of_below b2).trans ((Ch.of_below b8).trans (c811.wide fun k hk => .inl (.inl hk)))).wide fun k hk => hk)
              have HD := Go.Lib.hid (DidL.join (c := 0) C1.out HLT.out c111 (l11.is.wide (fun k hk => by
                have z1 := bc.size
                have z2 := b2.size
                have z3 := b8.size
                have z4 := g11.size
                have z5 := c811.size
                rcases hk with (hk | hk) | hk
                · exact .inl hk
                · exact .inr ⟨by omega, by omega⟩
                · exact .inr ⟨by omega, by omega⟩) (fun k hk => up_lt H1.out.lt c111.size hk)))
              clear l11 g11 c811 c111 glt8 P C10 L10 FR8 H8 A8 LT8 C8
              go_wp2_with fail
              go_ret
              exact HD.out
end Go.Proofs.YtppidbdkejkopaaGreatDoor.DkWalk
namespace Go.Proofs.YtppidbdkejkopaaGreatDoor.DkWalk
open Go.RowKit Go.Maps MemRow Ev NameMath NameWalk EvWalk NumMem
theorem crashIf_rising {left : Lit → Bool} {keep : Int} {fs : List Fl} (h : Rising fs) : Rising (fs.map (crashIf left keep)) := by
  unfold Rising
  rw [crashIf_names]
  exact h
set_option maxHeartbeats 8000000 in
set_option maxRecDepth 100000 in
theorem crashLd_any (g : Nat) (D : Dk) (F : Nat → Prop) (keep : Int) (w : World) (h : LdIs w g D F) (go : DkGo D) (hkp : -9223372036854775808 ≤ keep ∧ keep ≤ 9223372036854775807) :
    Calls Tryz.prog 20 #[.pointer (some ⟨g, 0, none⟩), .int .i64 keep] w fun e w' => e = .returned (.tuple #[]) ∧ LdIs w' g (crashD D keep) (up F w w') ∧ Ch F w w' := by
  obtain ⟨qv, mb, fu, lv, M, hd, h⟩ := h
  have k1 := h.c1
  have hown := h.own
  have MP := h.mp
  have hsz := h.lt mb h.fm
  have HLT := Go.Lib.hid h.lt
  have H := Go.Lib.hid h
  have GO := Go.Lib.hid go
  obtain ⟨K, hK⟩ : ∃ K : Nat, max keep 0 = K := ⟨(max keep 0).toNat, by omega⟩
  have HK := Go.Lib.hid hK
  clear h go hK
  go_enter Tryz.func20, Tryz.ntmps20
  go_wp2_with (at_range; refine wpList_range_own _ rfl _ 70 rfl 9 95 lawK Tryz.underlying70 ptrR mb D.fs.length M rfl hown ?_; intro w0 hrg0 hg0 hs0)
  go_frame
  go_loopw [5, 6] (fun _ _ wr => ∃ (left : Lit → Bool) (cnt : Nat) (hd' : ByteArray → Hd), wr.ranges Tryz.prog 9 ptrR mb w.heap.size D.fs.length M left cnt ∧ Hid (LdAt wr g ⟨D.quota, D.left, D.fs.map (crashIf left keep)⟩ F qv mb fu lv M hd') ∧ Hid (∀ y ∈ D.fs, (hd' y.name).k = (hd y.name).k) ∧ Hid (Ch F w wr)) (fun _ _ wr => wr.rangeLeft mb w.heap.size)
  case atStart =>
    have hl : ∀ f ∈ D.fs, has M (keyF f.name) = true := fun f hf => (MP.keys _).2 ⟨f, hf, rfl⟩
    refine ⟨_, _, hd, hrg0, Go.Lib.hid ?_, Go.Lib.hid fun _ _ => rfl, Go.Lib.hid (Ch.of_below (grown_below hg0))⟩
    rw [crashIf_start keep hl]
    exact H.out.below (grown_below hg0)
  case round =>
    obtain ⟨left, cnt, hd', hrg, HA, HE, HC⟩ := hrel
    clear hrg0 hg0 hs0
    go_wp2_with (at_next; refine wpList_next_fs _ rfl _ rfl MP mb w.heap.size D.fs.length _ _ rfl hrg ?_ ?_)
    · intro hc0 hl0
      have ha := HA.out
      rw [crashIf_end _ _ hl0] at ha
      have k2 := ha.c2
      have k3 := ha.c3
      have z2 := ha.frozen 2
      have hb1 := four_set (x := .bool false) (i := 2) ha.box (by omega)
      have z3 : (wr.setCell ⟨g, 2, none⟩ (.bool false)).frozen? ⟨g, 3, none⟩ = false := by simp [World.frozen?, hb1]
      have hb2 := four_set (x := .int .i64 0) (i := 3) hb1 (by omega)
      have hs1 := grownSet wr g 2 (.bool false)
      have hs2 := grown_setCell hs1 3 (.int .i64 0)
      have h2 : LdAt ((wr.setCell ⟨g, 2, none⟩ (.bool false)).setCell ⟨g, 3, none⟩ (.int .i64 0)) g (crashD D keep) F qv mb false 0 M hd' := ha.boxed hs2 hb2 ha.qz rfl (fun h => by cases h)
      have c2 : Ch F w ((wr.setCell ⟨g, 2, none⟩ (.bool false)).setCell ⟨g, 3, none⟩ (.int .i64 0)) := HC.out.then_grown hs2 (fun r e => by injection e with e; subst e; exact .inl (.inl ha.fg))
      have HR := Go.Lib.hid (h2.is.wide (G := up F w _) (fun _ hf => .inl hf) (fun _ hk => up_lt HLT.out c2.size hk))
      have HC2 := Go.Lib.hid c2
      clear h2 c2 hs1 hs2 hb1 hb2 ha hrg HA HC HE
      go_wp2_with fail
      go_end0
      exact ⟨rfl, HR.out, HC2.out⟩
    · intro f hf w2 cnt2 hlk hfs hrg2 hlt hg2 hs2 hen
      have hne : ∀ k, F k → k ≠ w.heap.size := fun k hk e => by have := HLT.out k hk; omega
      have hF2 : ∀ k, F k → w2.heap[k]? = wr.heap[k]? := fun k hk => hg2.block k (HA.out.lt k hk) (fun e => hne k hk (by injection e))
      have h2 := HA.out.keep hg2.size hF2
      have c2 : Ch F w w2 := HC.out.then_grown hg2 (fun r e => by injection e with e; subst e; exact .inl (.inr ⟨Nat.le_refl _, hrg.lt⟩))
      have hr' : Rising (D.fs.map (crashIf left keep)) := crashIf_rising GO.out.up
      have efc : crashIf left keep f = f := if_pos hlk
      have hf' : f ∈ D.fs.map (crashIf left keep) := List.mem_map.2 ⟨f, hf, efc⟩
      have hidx := idx_lt hf'
      have hat := idx_at hr' hf'
      have fr := (h2.file hidx).1
      rw [hat] at fr
      have hkk := HE.out f hf
      have x0 := fr.c0
      have x1 := fr.c1
      have z0 := fr.frozen 0
      rw [hkk] at x0 x1 z0
      have hl := fr.own.len
      have hcap := fr.own.rd.le_cap
      have hok := GO.out.ok.fls f hf
      have hset := crashIf_step GO.out.up hf keep hlk
      have hN : crashN keep f = f.safe + min K (f.b.length - f.safe) := by
        unfold crashN
        have := HK.out
        congr 2
        omega
      have hmn : min (max keep 0) (((hd' f.name).nb : Int) - (f.safe : Int)) = ((min K (f.b.length - f.safe) : Nat) : Int) := by
        rw [HK.out]
        omega
      have hmle : f.safe + min K (f.b.length - f.safe) ≤ (hd' f.name).nb := by omega
      generalize min K (f.b.length - f.safe) = mn at *
      obtain ⟨N, hNN⟩ : ∃ N, N = f.safe + mn := ⟨_, rfl⟩
      rw [← hNN] at hN hmle
      have w1' : IntKind.i64.wrap (((hd' f.name).nb : Int) - (f.safe : Int)) = ((hd' f.name).nb : Int) - (f.safe : Int) := IntWalk.i64_in _ (by omega)
      have w2' : IntKind.i64.wrap ((f.safe : Int) + (mn : Int)) = (f.safe : Int) + (mn : Int) := IntWalk.i64_in _ (by omega)
      have qs := slice_upto (hd' f.name).B (hd' f.name).nb (hd' f.name).cb N (Nat.le_trans hmle hcap)
      rw [show ((N : Nat) : Int) = (f.safe : Int) + (mn : Int) by omega] at qs
      have hs3 := grownSet w2 (hd' f.name).k 0 (.slice (hd' f.name).B N (hd' f.name).cb)
      have hs4 := grown_setCell hs3 1 (.int .i64 (N : Int))
      have hb3 := pairSet0 (x := .slice (hd' f.name).B N (hd' f.name).cb) fr.box
      have hb4 := pairSet1 (x := .int .i64 (N : Int)) hb3
      obtain ⟨y0, y1, yz⟩ := two_cell hb3
      have yz1 := yz 1
      have cc : Ch (fun k => k = (hd' f.name).k ∨ ∃ a, (hd' f.name).B = some a ∧ k = a.block) w2 ((w2.setCell ⟨(hd' f.name).k, 0, none⟩ (.slice (hd' f.name).B N (hd' f.name).cb)).setCell ⟨(hd' f.name).k, 1, none⟩ (.int .i64 (N : Int))) := Ch.of_grown hs4 (fun r e => by injection e with e; exact .inl (.inl e.symm))
      have efl : crashL keep f = ⟨f.name, f.b.take N, N⟩ := by unfold crashL; rw [hN]
      rw [efl] at hset
      have h4 := h2.wroteG (G := F) hidx (fs' := D.fs.map (crashIf (strike left f.name) keep)) (f := ⟨f.name, f.b.take N, N⟩) (x := ⟨(hd' f.name).k, (hd' f.name).B, N, (hd' f.name).cb⟩) rfl hset (by simp) rfl cc (fun a ha => .inl ⟨a, ha, rfl⟩) (fun _ h => h) (fun k hk => Nat.lt_of_lt_of_le (h2.lt k hk) hs4.size) fr.fb hb4 (own8_grown (own8_first fr.own hmle) hs4 (fun a ha e => own8_not fr.own fr.box (by decide) a ha (by injection e)))
      have c4 : Ch F w ((w2.setCell ⟨(hd' f.name).k, 0, none⟩ (.slice (hd' f.name).B N (hd' f.name).cb)).setCell ⟨(hd' f.name).k, 1, none⟩ (.int .i64 (N : Int))) := c2.trans ((fr.ch cc).wide fun _ hk => .inl hk)
      have e4 : ∀ y ∈ D.fs, (setH hd' f.name ⟨(hd' f.name).k, (hd' f.name).B, N, (hd' f.name).cb⟩ y.name).k = (hd y.name).k := fun y hy => by
        unfold setH
        split
        · next e => rw [e]; exact hkk
        · exact HE.out y hy
      have hrg4 := hrg2.kept hs4 (fun e => (h2.file hidx).2.2 (by injection e with e; exact e.symm)) (fun e => hne _ fr.fk (by injection e with e; exact e.symm))
      have HLEFT := hrg.left_eq
      have HMN := Go.Lib.hid hmn
      have H4 := Go.Lib.hid h4
      have C4 := Go.Lib.hid c4
      have E4 := Go.Lib.hid e4
      rw [hkk] at H4 C4 E4 hrg4 y0 y1 yz1
      clear hmn h4 c4 e4 cc efl hset hb3 hb4 hs3 hs4 fr hat hidx hf' efc hr' c2 h2 hF2 hne yz hrg2 hkk hN hl hcap hok HE HC HA hrg hmle hNN hg2 hs2
      generalize (hd f.name).k = kf at *
      generalize (hd' f.name).B = B at *
      generalize (hd' f.name).nb = nb at *
      generalize (hd' f.name).cb = cb at *
      generalize f.safe = sf at *
      go_upto_region 3 with (fail)
      go_region
      rw [HMN.out]
      go_upto_region 4 with (fail)
      go_region
      go_wp2_with fail
      go_roundw
      case rel =>
        have bdd := fun W : World => (bel_drew (bel_drew (Below.refl W.heap.size W)))
        exact ⟨_, cnt2, _, hrg4, Go.Lib.hid (H4.out.below (bdd _)), Go.Lib.hid E4.out, Go.Lib.hid (C4.out.then_below (bdd _))⟩
      case measure =>
        have e := hrg4.left_eq
        rw [HLEFT]
        exact Nat.lt_of_le_of_lt (Nat.le_of_eq e) hlt
end Go.Proofs.YtppidbdkejkopaaGreatDoor.DkWalk
namespace Go.Proofs
open Go.Shelf
def Tryz.lays190_ren : Go.Shelf.Ren := ⟨fun | 190 => 96 | 125 => 127 | 258 => 126 | 128 => 166 | 129 => 146 | 302 => 157 | 303 => 158 | 304 => 159 | 305 => 160 | 306 => 161 | 307 => 162 | 308 => 163 | 309 => 164 | 310 => 165 | 333 => 178 | 329 => 179 | 330 => 180 | 334 => 181 | 335 => 182 | 336 => 183 | 344 => 191 | n => n, fun | 31 => 61 | 9 => 9 | 3 => 3 | 46 => 135 | 0 => 0 | 51 => 76 | 53 => 145 | 4 => 4 | 183 => 178 | 182 => 177 | 131 => 183 | 5 => 5 | 218 => 196 | 222 => 200 | 228 => 208 | 229 => 209 | n => n, fun | n => n⟩
theorem Tryz.lays190 : Go.Proofs.Lays.n190 Tryz.prog Tryz.lays190_ren := {
  mixed := by kernel_rfl
  f125 := Tryz.func127.trans (congrArg some (by kernel_rfl))
  f128 := Tryz.func166.trans (congrArg some (by kernel_rfl))
  f129 := Tryz.func146.trans (congrArg some (by kernel_rfl))
  f190 := Tryz.func96.trans (congrArg some (by kernel_rfl))
  f258 := Tryz.func126.trans (congrArg some (by kernel_rfl))
  f302 := Tryz.func157.trans (congrArg some (by kernel_rfl))
  f303 := Tryz.func158.trans (congrArg some (by kernel_rfl))
  f304 := Tryz.func159.trans (congrArg some (by kernel_rfl))
  f305 := Tryz.func160.trans (congrArg some (by kernel_rfl))
  f306 := Tryz.func161.trans (congrArg some (by kernel_rfl))
  f307 := Tryz.func162.trans (congrArg some (by kernel_rfl))
  f308 := Tryz.func163.trans (congrArg some (by kernel_rfl))
  f309 := Tryz.func164.trans (congrArg some (by kernel_rfl))
  f310 := Tryz.func165.trans (congrArg some (by kernel_rfl))
  f329 := Tryz.func179.trans (congrArg some (by kernel_rfl))
  f330 := Tryz.func180.trans (congrArg some (by kernel_rfl))
  f333 := Tryz.func178.trans (congrArg some (by kernel_rfl))
  f334 := Tryz.func181.trans (congrArg some (by kernel_rfl))
  f335 := Tryz.func182.trans (congrArg some (by kernel_rfl))
  f336 := Tryz.func183.trans (congrArg some (by kernel_rfl))
  f344 := Tryz.func191.trans (congrArg some (by kernel_rfl))
  t0 := Tryz.underlying0
  a0 := Tryz.isAgg0
  z0 := Tryz.sizeOf0
  v0 := Tryz.zeroValue0
  t3 := Tryz.underlying3
  a3 := Tryz.isAgg3
  z3 := Tryz.sizeOf3
  v3 := Tryz.zeroValue3
  t4 := Tryz.underlying4
  a4 := Tryz.isAgg4
  z4 := Tryz.sizeOf4
  v4 := Tryz.zeroValue4
  t5 := Tryz.underlying5
  a5 := Tryz.isAgg5
  z5 := Tryz.sizeOf5
  v5 := Tryz.zeroValue5
  t9 := Tryz.underlying9
  a9 := Tryz.isAgg9
  z9 := Tryz.sizeOf9
  v9 := Tryz.zeroValue9
  t31 := Tryz.underlying61
  a31 := Tryz.isAgg61
  z31 := Tryz.sizeOf61
  v31 := Tryz.zeroValue61
  t46 := Tryz.underlying135
  a46 := Tryz.isAgg135
  z46 := Tryz.sizeOf135
  v46 := Tryz.zeroValue135
  t51 := Tryz.underlying76
  a51 := Tryz.isAgg76
  z51 := Tryz.sizeOf76
  v51 := Tryz.zeroValue76
  t53 := Tryz.underlying145
  a53 := Tryz.isAgg145
  z53 := Tryz.sizeOf145
  v53 := Tryz.zeroValue145
  t131 := Tryz.underlying183
  a131 := Tryz.isAgg183
  z131 := Tryz.sizeOf183
  v131 := Tryz.zeroValue183
  t182 := Tryz.underlying177
  a182 := Tryz.isAgg177
  z182 := Tryz.sizeOf177
  v182 := Tryz.zeroValue177
  t183 := Tryz.underlying178
  a183 := Tryz.isAgg178
  z183 := Tryz.sizeOf178
  v183 := Tryz.zeroValue178
  t218 := Tryz.underlying196
  a218 := Tryz.isAgg196
  z218 := Tryz.sizeOf196
  v218 := Tryz.zeroValue196
  t222 := Tryz.underlying200
  a222 := Tryz.isAgg200
  z222 := Tryz.sizeOf200
  v222 := Tryz.zeroValue200
  t228 := Tryz.underlying208
  a228 := Tryz.isAgg208
  z228 := Tryz.sizeOf208
  v228 := Tryz.zeroValue208
  t229 := Tryz.underlying209
  a229 := Tryz.isAgg209
  z229 := Tryz.sizeOf209
  v229 := Tryz.zeroValue209 }
open Go.Sort Go.RowKit in
theorem Tryz.slices_Sort_string (blk off cap : Nat) (ss : List (List UInt8)) (w : World) (hH : Holds encStr w blk off ss.toArray) (hblk : blk < w.heap.size) (hsz : ss.length < 4611686018427387904) :
    Calls Tryz.prog 96 #[.slice (some ⟨blk, off, none⟩) ss.length cap] w fun e w' =>
      e = .returned (.tuple #[]) ∧ ∃ n os, w' = grow (putRow encStr (Sort.ahead w n) blk off (ss.mergeSort fun x y => decide (x ≤ y)).toArray) os := Any.slices_Sort_string Tryz.lays190 blk off cap ss w hH hblk hsz
open Go.RowKit Go.Sort in
theorem Tryz.slices_Sort_string_none (p : Option Addr) (cap : Nat) (w : World) :
    Calls Tryz.prog 96 #[.slice p 0 cap] w fun e w' => e = .returned (.tuple #[]) ∧ w' = w := Any.slices_Sort_string_none Tryz.lays190 p cap w
def Tryz.keysA_ren : Go.Shelf.Ren := ⟨fun | 7 => 64 | 10 => 97 | n => n, fun | 23 => 70 | 26 => 9 | 3 => 95 | 28 => 110 | 0 => 0 | 27 => 109 | 33 => 105 | 4 => 4 | n => n, fun | n => n⟩
theorem Tryz.keysA : Go.Proofs.SlLaysZ.n7 Tryz.prog Tryz.keysA_ren := {
  mixed := by kernel_rfl
  f7 := ⟨Tryz.f64.name, by decide, Tryz.func64.trans (congrArg some (by kernel_rfl))⟩
  f10 := ⟨Tryz.f97.name, by decide, Tryz.func97.trans (congrArg some (by kernel_rfl))⟩
  t0 := Tryz.underlying0
  a0 := Tryz.isAgg0
  z0 := Tryz.sizeOf0
  v0 := Tryz.zeroValue0
  t4 := Tryz.underlying4
  a4 := Tryz.isAgg4
  z4 := Tryz.sizeOf4
  v4 := Tryz.zeroValue4
  t23 := Tryz.underlying70
  a23 := Tryz.isAgg70
  z23 := Tryz.sizeOf70
  v23 := Tryz.zeroValue70
  t26 := Tryz.underlying9
  a26 := Tryz.isAgg9
  z26 := Tryz.sizeOf9
  v26 := Tryz.zeroValue9
  t27 := Tryz.underlying109
  a27 := Tryz.isAgg109
  z27 := Tryz.sizeOf109
  v27 := Tryz.zeroValue109
  t28 := Tryz.underlying110
  a28 := Tryz.isAgg110
  z28 := Tryz.sizeOf110
  v28 := Tryz.zeroValue110
  t33 := Tryz.underlying105
  a33 := Tryz.isAgg105
  z33 := Tryz.sizeOf105
  v33 := Tryz.zeroValue105 }
def Tryz.sortedA_ren : Go.Shelf.Ren := ⟨fun | 6 => 63 | 8 => 95 | 9 => 96 | 11 => 125 | 13 => 127 | 12 => 126 | 23 => 166 | 24 => 146 | 14 => 157 | 15 => 158 | 16 => 159 | 17 => 160 | 18 => 161 | 19 => 162 | 20 => 163 | 21 => 164 | 22 => 165 | 25 => 178 | 26 => 179 | 27 => 180 | 28 => 181 | 29 => 182 | 30 => 183 | 31 => 191 | n => n, fun | 26 => 9 | 28 => 110 | 24 => 61 | 0 => 0 | 3 => 3 | 37 => 135 | 48 => 76 | 50 => 145 | 4 => 4 | 40 => 178 | 39 => 177 | 45 => 183 | 5 => 5 | 9 => 9 | 51 => 196 | 55 => 200 | 57 => 208 | 58 => 209 | 33 => 105 | n => n, fun | n => n⟩
theorem Tryz.sortedA : Go.Proofs.SlLaysZ.n6 Tryz.prog Tryz.sortedA_ren := {
  mixed := by kernel_rfl
  f6 := ⟨Tryz.f63.name, by decide, Tryz.func63.trans (congrArg some (by kernel_rfl))⟩
  f8 := ⟨Tryz.f95.name, by decide, Tryz.func95.trans (congrArg some (by kernel_rfl))⟩
  f11 := ⟨Tryz.f125.name, by decide, Tryz.func125.trans (congrArg some (by kernel_rfl))⟩
  t0 := Tryz.underlying0
  a0 := Tryz.isAgg0
  z0 := Tryz.sizeOf0
  v0 := Tryz.zeroValue0
  t24 := Tryz.underlying61
  a24 := Tryz.isAgg61
  z24 := Tryz.sizeOf61
  v24 := Tryz.zeroValue61
  t26 := Tryz.underlying9
  a26 := Tryz.isAgg9
  z26 := Tryz.sizeOf9
  v26 := Tryz.zeroValue9
  t28 := Tryz.underlying110
  a28 := Tryz.isAgg110
  z28 := Tryz.sizeOf110
  v28 := Tryz.zeroValue110
  i26 := by kernel_rfl }
end Go.Proofs
namespace Go.Proofs.YtppidbdkejkopaaGreatDoor.DkWalk
open Go.RowKit Go.Maps Go.Sort Go.Shelf Go.Proofs MemRow Ev NameMath NameWalk EvWalk NumMem
theorem sortsA (m : Nat) : AnyZ.SortsIn Tryz.prog Tryz.sortedA_ren Fence.wide m :=
  ⟨fun blk off cap ss W hH hblk hsz => callsIn_wide.2 (Tryz.slices_Sort_string blk off cap ss W hH hblk hsz),
   fun p cap W => callsIn_wide.2 (Tryz.slices_Sort_string_none p cap W)⟩
set_option maxHeartbeats 4000000 in
set_option maxRecDepth 100000 in
theorem listL_any (g : Nat) (D : Dk) (F : Nat → Prop) (w : World) (h : LdIs w g D F) (go : DkGo D) :
    Calls Tryz.prog 33 #[.pointer (some ⟨g, 0, none⟩)] w fun e w' => ∃ B m c, e = .returned (.slice B m c) ∧ RdS w' B m c (names D.fs) ∧ Below w.heap.size w w' := by
  obtain ⟨qv, mb, fu, lv, M, hd, h⟩ := h
  have k1 := h.c1
  have hsz := h.size go.up
  have h200 := go.ok.len
  have hmax : Maps.size M ≤ maxLen := by unfold maxLen; omega
  have hbytes : Maps.size M * 16 ≤ 140737488355328 := by omega
  have hown := h.own
  have hbl := hown.lt
  have hseq : SeqGives Fence.wide 2 Tryz.prog 97 #[.pointer (some ⟨w.heap.size, 0, none⟩)] encStr (fun ss => ss.Perm (strKeys M)) (Maps.size M) (w.alloc (.cells #[.map (some mb)] 70)) :=
    AnyZ.keys_gives (ρ := Tryz.keysA_ren) { Tryz.keysA with } Fence.wide _ trivial rfl (by omega) w.heap.size mb D.fs.length M _ (by simp) (by simp) (by
      obtain ⟨es, clock, hb, Ft, hs, hD⟩ := hown
      exact ⟨es, clock, (Below.heap_alloc _ _ mb hbl).trans hb, Ft, hs, hD⟩)
  have cK : Calls Tryz.prog 64 #[.map (some mb)] w fun e w' => e = .returned (.func (.func 97) #[] #[.pointer (some ⟨w.heap.size, 0, none⟩)]) ∧ w' = w.alloc (.cells #[.map (some mb)] 70) := (callsIn_wide (n := 5)).1 (AnyZ.keys_in Tryz.keysA Fence.wide 5 trivial rfl (some mb) w)
  have cS := AnyZ.sorted_in Tryz.sortedA Fence.wide 5 trivial trivial trivial trivial rfl (by omega) (sortsA _) (enters_of Tryz.func96 (by kernel_rfl) rfl) 97 #[.pointer (some ⟨w.heap.size, 0, none⟩)] trivial (enters_of Tryz.func97 (by kernel_rfl) rfl) _ _ hmax hbytes _ hseq
  have cS' := (callsIn_wide (n := 5)).1 cS
  change Calls Tryz.prog 63 _ _ _ at cS'
  have al : Below w.heap.size w (w.alloc (.cells #[.map (some mb)] 70)) := (Below.refl _ _).alloc (Nat.le_refl _) _
  have CS := Go.Lib.hid cS'
  have CK := Go.Lib.hid cK
  have HP := Go.Lib.hid (h.mp.strs (hown.canon lawK) go.up)
  have HG := Go.Lib.hid go.up
  clear cS cS' cK hseq hown h go hbl hbytes hmax hsz
  go_enter Tryz.func33, Tryz.ntmps33
  go_wp2_with fail
  refine (CK.out).mono ?_
  rintro e w1 ⟨rfl, rfl⟩
  go_wp2_with fail
  refine (CS.out).mono ?_
  rintro e w2 ⟨v, ss, rfl, hS, hrow, hnil, hb⟩
  have hss := sorted_names HG.out (hS.trans HP.out)
  have hss' : (ss.mergeSort fun x y => decide (x ≤ y)).map encStr = MemRow.strs (names D.fs) := hss
  have hln : ss.length = D.fs.length := by
    have := (hS.trans HP.out).length_eq
    simpa using this
  rw [hss', hln] at hrow
  have bw := below_chain al hb
  obtain ⟨B, c, hv⟩ : ∃ B c, v = .slice B D.fs.length c := by
    rcases hrow.2 with ⟨e, h0⟩ | ⟨g', cap, cur, e, _⟩
    · exact ⟨none, 0, by rw [e, h0]⟩
    · exact ⟨_, _, e⟩
  subst hv
  have hr : RdS w2 B D.fs.length c (names D.fs) := OwnC.rd (k := 1) hrow
  clear hss hss' hS hnil
  go_wp2_with fail
  go_ret
  exact ⟨_, _, _, rfl, hr, bw⟩
end Go.Proofs.YtppidbdkejkopaaGreatDoor.DkWalk
namespace Go.Proofs.YtppidbdkejkopaaGreatDoor.DkWalk
open Go.RowKit Go.Maps MemRow Ev NameMath NameWalk EvWalk NumMem
abbrev Thing := World → (Nat → Prop) → Prop
structure Keeps (P : Thing) : Prop where
  keep : ∀ {w w' : World} {F : Nat → Prop}, P w F → w.heap.size ≤ w'.heap.size → (∀ k, F k → w'.heap[k]? = w.heap[k]?) → P w' F
  lt : ∀ {w : World} {F : Nat → Prop}, P w F → ∀ k, F k → k < w.heap.size
def NoT : Thing := fun _ F => ∀ k, ¬ F k
theorem noT_keeps : Keeps NoT := ⟨fun h _ _ => h, fun h k hk => absurd hk (h k)⟩
def LdT (g : Nat) (D : Dk) : Thing := fun w F => LdIs w g D F
theorem ldT_keeps (g : Nat) (D : Dk) : Keeps (LdT g D) := ⟨fun h hs hk => LdIs.keep h hs hk, fun h => LdIs.lt h⟩
def RfT (g : Nat) (D : Dk) : Thing := fun w F => RefIs w g D F
theorem rfT_keeps (g : Nat) (D : Dk) : Keeps (RfT g D) := ⟨fun ⟨A, n, cap, cs, h⟩ hs hk => ⟨A, n, cap, cs, h.keep hs hk⟩, fun ⟨_, _, _, _, h⟩ => h.lt⟩
def Pair (base : Nat) (w : World) (P Q : Thing) : Prop := ∃ F G, P w F ∧ Q w G ∧ (∀ k, F k → base ≤ k) ∧ (∀ k, G k → base ≤ k) ∧ ∀ k, F k → ¬ G k
theorem ch_below {base : Nat} {F : Nat → Prop} {a w w' : World} (hb : Below base a w) (hc : Ch F w w') (hF : ∀ k, F k → base ≤ k) (ha : base ≤ a.heap.size) : Below base a w' :=
  ⟨hc.os.trans hb.os, hc.tape.trans hb.tape, hc.output.trans hb.output, Nat.le_trans hb.size hc.size, fun k hk => (hc.block k (Nat.lt_of_lt_of_le hk (Nat.le_trans ha hb.size)) (fun hf => by have := hF k hf; omega)).trans (hb.block k hk)⟩
section
variable {base : Nat} {w w' : World} {P P' Q Q' : Thing}
theorem Pair.below (h : Pair base w P Q) (kp : Keeps P) (kq : Keeps Q) (hb : Below w.heap.size w w') : Pair base w' P Q := by
  obtain ⟨F, G, hp, hq, h1, h2, h3⟩ := h
  exact ⟨F, G, kp.keep hp hb.size fun k hk => hb.block k (kp.lt hp k hk), kq.keep hq hb.size fun k hk => hb.block k (kq.lt hq k hk), h1, h2, h3⟩
theorem Pair.left {F G : Nat → Prop} (hq : Q w G) (kq : Keeps Q) (h1 : ∀ k, F k → base ≤ k) (h2 : ∀ k, G k → base ≤ k) (h3 : ∀ k, F k → ¬ G k) (hb : base ≤ w.heap.size) (hp' : P' w' (up F w w')) (hc : Ch F w w') : Pair base w' P' Q := by
  refine ⟨_, G, hp', kq.keep hq hc.size fun k hk => hc.block k (kq.lt hq k hk) fun hf => h3 k hf hk, fun k hk => ?_, h2, fun k hk hg => ?_⟩
  · rcases hk with hk | hk
    · exact h1 k hk
    · omega
  · rcases hk with hk | hk
    · exact h3 k hk hg
    · have := kq.lt hq k hg
      omega
theorem Pair.fresh {G : Nat → Prop} (hq : Q w G) (kq : Keeps Q) (h2 : ∀ k, G k → base ≤ k) (hb : base ≤ w.heap.size) (hp' : P' w' (fun k => w.heap.size ≤ k ∧ k < w'.heap.size)) (hc : Below w.heap.size w w') : Pair base w' P' Q :=
  ⟨_, G, hp', kq.keep hq hc.size fun k hk => hc.block k (kq.lt hq k hk), fun k hk => by have := hk.1; omega, h2, fun k hk hg => by
    have := kq.lt hq k hg
    have := hk.1
    omega⟩
end
section
variable {base : Nat} {w : World} {g : Nat} {D : Dk} {Q : Thing}
theorem pr_did {c : Int} {D' : Dk} {F G : Nat → Prop} {e : Ending} {w' : World} (hq : Q w G) (kq : Keeps Q) (h1 : ∀ k, F k → base ≤ k) (h2 : ∀ k, G k → base ≤ k) (h3 : ∀ k, F k → ¬ G k) (hb : base ≤ w.heap.size) (h : DidL c D' g F w e w') :
    e = .returned (.int .i64 c) ∧ Pair base w' (LdT g D') Q ∧ Below base w w' :=
  ⟨h.1, Pair.left hq kq h1 h2 h3 hb h.2.1 h.2.2, ch_below (Below.refl _ _) h.2.2 h1 hb⟩
theorem pr_append (h : Pair base w (LdT g D) Q) (kq : Keeps Q) (hb : base ≤ w.heap.size) (go : DkGo D) {s : ByteArray} (hs : s.size ≤ maxLen) {A : Option Addr} {m c : Nat} {b : List UInt8} (rb : Rd w A m c b) (hm : m ≤ 1000000) :
    Calls Tryz.prog 30 #[.pointer (some ⟨g, 0, none⟩), .string s, .slice A m c] w fun e w' => e = .returned (.int .i64 (appendD D s b).1) ∧ Pair base w' (LdT g (appendD D s b).2) Q ∧ Below base w w' := by
  obtain ⟨F, G, hp, hq, h1, h2, h3⟩ := h
  exact (appendL_any g D F s A m c b w hp go hs rb hm).mono fun e w' h => pr_did hq kq h1 h2 h3 hb h
theorem pr_sync (h : Pair base w (LdT g D) Q) (kq : Keeps Q) (hb : base ≤ w.heap.size) (go : DkGo D) {s : ByteArray} (hs : s.size ≤ maxLen) :
    Calls Tryz.prog 39 #[.pointer (some ⟨g, 0, none⟩), .string s] w fun e w' => e = .returned (.int .i64 (syncD D s).1) ∧ Pair base w' (LdT g (syncD D s).2) Q ∧ Below base w w' := by
  obtain ⟨F, G, hp, hq, h1, h2, h3⟩ := h
  exact (syncL_any g D F s w hp go hs).mono fun e w' h => pr_did hq kq h1 h2 h3 hb h
theorem pr_remove (h : Pair base w (LdT g D) Q) (kq : Keeps Q) (hb : base ≤ w.heap.size) (go : DkGo D) {s : ByteArray} (hs : s.size ≤ maxLen) :
    Calls Tryz.prog 70 #[.pointer (some ⟨g, 0, none⟩), .string s] w fun e w' => e = .returned (.int .i64 (removeD D s).1) ∧ Pair base w' (LdT g (removeD D s).2) Q ∧ Below base w w' := by
  obtain ⟨F, G, hp, hq, h1, h2, h3⟩ := h
  exact (removeL_any g D F s w hp go hs).mono fun e w' h => pr_did hq kq h1 h2 h3 hb h
theorem pr_trunc (h : Pair base w (LdT g D) Q) (kq : Keeps Q) (hb : base ≤ w.heap.size) (go : DkGo D) {s : ByteArray} (hs : s.size ≤ maxLen) (z : Int) :
    Calls Tryz.prog 71 #[.pointer (some ⟨g, 0, none⟩), .string s, .int .i64 z] w fun e w' => e = .returned (.int .i64 (truncD D s z).1) ∧ Pair base w' (LdT g (truncD D s z).2) Q ∧ Below base w w' := by
  obtain ⟨F, G, hp, hq, h1, h2, h3⟩ := h
  exact (truncL_any g D F s z w hp go hs).mono fun e w' h => pr_did hq kq h1 h2 h3 hb h
theorem pr_turn (h : Pair base w (LdT g D) Q) (kq : Keeps Q) (hb : base ≤ w.heap.size) (go : DkGo D) {s : ByteArray} (hs : s.size ≤ maxLen) (z : Int) :
    Calls Tryz.prog 22 #[.pointer (some ⟨g, 0, none⟩), .string s, .int .i64 z] w fun e w' => e = .returned (.int .i64 (turnC D s z).1) ∧ Pair base w' (LdT g (turnC D s z).2) Q ∧ Below base w w' := by
  obtain ⟨F, G, hp, hq, h1, h2, h3⟩ := h
  exact (turnL_any g D F s z w hp go hs).mono fun e w' h => pr_did hq kq h1 h2 h3 hb h
theorem pr_crash (h : Pair base w (LdT g D) Q) (kq : Keeps Q) (hb : base ≤ w.heap.size) (go : DkGo D) {keep : Int} (hk : -9223372036854775808 ≤ keep ∧ keep ≤ 9223372036854775807) :
    Calls Tryz.prog 20 #[.pointer (some ⟨g, 0, none⟩), .int .i64 keep] w fun e w' => e = .returned (.tuple #[]) ∧ Pair base w' (LdT g (crashD D keep)) Q ∧ Below base w w' := by
  obtain ⟨F, G, hp, hq, h1, h2, h3⟩ := h
  exact (crashLd_any g D F keep w hp go hk).mono fun e w' h => ⟨h.1, Pair.left hq kq h1 h2 h3 hb h.2.1 h.2.2, ch_below (Below.refl _ _) h.2.2 h1 hb⟩
theorem pr_fuse (h : Pair base w (LdT g D) Q) (kq : Keeps Q) (hb : base ≤ w.heap.size) (k : Int) :
    Calls Tryz.prog 28 #[.pointer (some ⟨g, 0, none⟩), .int .i64 k] w fun e w' => e = .returned (.tuple #[]) ∧ Pair base w' (LdT g (fuseD D k)) Q ∧ Below base w w' := by
  obtain ⟨F, G, hp, hq, h1, h2, h3⟩ := h
  exact (fuseL_any g D F k w hp).mono fun e w' h => ⟨h.1, Pair.left hq kq h1 h2 h3 hb h.2.1 h.2.2, ch_below (Below.refl _ _) h.2.2 h1 hb⟩
theorem pr_read (h : Pair base w (LdT g D) Q) (kq : Keeps Q) (go : DkGo D) {s : ByteArray} (hs : s.size ≤ maxLen) :
    Calls Tryz.prog 34 #[.pointer (some ⟨g, 0, none⟩), .string s] w fun e w' => ∃ B m c, e = .returned (.tuple #[.slice B m c, .int .i64 (readC D s)]) ∧ Rd w' B m c (readB D s) ∧ Pair base w' (LdT g D) Q ∧ Below w.heap.size w w' := by
  have h' := h
  obtain ⟨F, G, hp, hq, h1, h2, h3⟩ := h
  exact (readL_any g D F s w hp go hs).mono fun e w' ⟨B, m, c, he, hr, hb⟩ => ⟨B, m, c, he, hr, h'.below (ldT_keeps g D) kq hb, hb⟩
theorem pr_list (h : Pair base w (LdT g D) Q) (kq : Keeps Q) (go : DkGo D) :
    Calls Tryz.prog 33 #[.pointer (some ⟨g, 0, none⟩)] w fun e w' => ∃ B m c, e = .returned (.slice B m c) ∧ RdS w' B m c (names D.fs) ∧ Pair base w' (LdT g D) Q ∧ Below w.heap.size w w' := by
  have h' := h
  obtain ⟨F, G, hp, hq, h1, h2, h3⟩ := h
  exact (listL_any g D F w hp go).mono fun e w' ⟨B, m, c, he, hr, hb⟩ => ⟨B, m, c, he, hr, h'.below (ldT_keeps g D) kq hb, hb⟩
theorem pr_used (h : Pair base w (LdT g D) Q) (kq : Keeps Q) (go : DkGo D) :
    Calls Tryz.prog 32 #[.pointer (some ⟨g, 0, none⟩)] w fun e w' => e = .returned (.int .i64 (usedF D.fs : Nat)) ∧ Pair base w' (LdT g D) Q ∧ Below w.heap.size w w' := by
  have h' := h
  obtain ⟨F, G, hp, hq, h1, h2, h3⟩ := h
  obtain ⟨qv, mb, fu, lv, M, hd, hp⟩ := hp
  exact (usedD_any g D F qv mb fu lv M hd w hp go).mono fun e w' ⟨he, hb⟩ => ⟨he, h'.below (ldT_keeps g D) kq hb, hb⟩
theorem pr_new {G : Nat → Prop} (hq : Q w G) (kq : Keeps Q) (h2 : ∀ k, G k → base ≤ k) (hb : base ≤ w.heap.size) (q : Int) :
    Calls Tryz.prog 10 #[.int .i64 q] w fun e w' => ∃ g, e = .returned (.pointer (some ⟨g, 0, none⟩)) ∧ Pair base w' (LdT g (newD q)) Q ∧ Below w.heap.size w w' :=
  (newL_any q w).mono fun _ _ ⟨g, he, hn, hbl⟩ => ⟨g, he, Pair.fresh hq kq h2 hb hn hbl, hbl⟩
theorem pr_alone (w : World) (q : Int) :
    Calls Tryz.prog 10 #[.int .i64 q] w fun e w' => ∃ g, e = .returned (.pointer (some ⟨g, 0, none⟩)) ∧ Pair w.heap.size w' (LdT g (newD q)) NoT ∧ Below w.heap.size w w' :=
  pr_new (Q := NoT) (G := fun _ => False) (fun _ h => h) noT_keeps (fun _ h => h.elim) (Nat.le_refl _) q
end
theorem pr_first {base : Nat} {w : World} (hb : base ≤ w.heap.size) (q : Int) :
    Calls Tryz.prog 10 #[.int .i64 q] w fun e w' => ∃ g, e = .returned (.pointer (some ⟨g, 0, none⟩)) ∧ Pair base w' (LdT g (newD q)) NoT ∧ Below w.heap.size w w' :=
  pr_new (Q := NoT) (G := fun _ => False) (fun _ h => h) noT_keeps (fun _ h => h.elim) hb q
theorem short_rd {w : World} {A : Option Addr} {n cap : Nat} {l : List UInt8} (h : Rd w A n cap l) : Rd w A (min n 200) cap (l.take 200) := by
  have hl := h.len
  by_cases h2 : 200 < n
  · rw [show min n 200 = 200 by omega]
    exact h.first (by omega)
  · rw [show min n 200 = n by omega, List.take_of_length_le (by omega)]
    exact h
theorem rd_str {w : World} {A : Option Addr} {n cap : Nat} {l : List UInt8} (h : Rd w A n cap l) : (convert 58 9 (.slice A n cap)).run Tryz.prog w = .ok (.string ⟨l.toArray⟩) w :=
  h.string 58 9 5 Tryz.underlying58 Tryz.underlying5 Tryz.underlying9
theorem newD_pos {q : Int} (h : 0 ≤ q) : newD q = ⟨q, -1, []⟩ := by
  unfold newD
  rw [show max q 0 = q by omega]
set_option maxHeartbeats 4000000 in
set_option maxRecDepth 100000 in
theorem readN_any (g : Nat) (D : Dk) (F : Nat → Prop) (s : ByteArray) (w : World) (h : LdIs w g D F) (go : DkGo D) (hs : s.size ≤ maxLen) :
    Calls Tryz.prog 34 #[.pointer (some ⟨g, 0, none⟩), .string s] w fun e w' => ∃ B m c, e = .returned (.tuple #[.slice B m c, .int .i64 (readC D s)]) ∧ Rd w' B m c (readB D s) ∧ (∀ a, B = some a → w.heap.size ≤ a.block ∧ a.block < w'.heap.size) ∧ Below w.heap.size w w' := by
  obtain ⟨qv, mb, fu, lv, M, hd, h⟩ := h
  have k1 := h.c1
  have q1 := h.look hs
  generalize hC : readC D s = cc
  generalize hB : readB D s = bb
  have HC := Go.Lib.hid hC
  have HB := Go.Lib.hid hB
  clear hC hB
  by_cases hk : idxF D.fs s < D.fs.length
  · obtain rfl : cc = 0 := by rw [← HC.out]; unfold readC; rw [if_pos hk]
    obtain rfl : bb = (D.fs.getD (idxF D.fs s) noFl).b := by rw [← HB.out]; unfold readB; rw [if_pos hk]
    have e3 : ptrOf D.fs hd s = .pointer (some ⟨(hd s).k, 0, none⟩) := if_pos hk
    rw [e3] at q1
    have hr := (h.file hk).1
    have hle : (hd s).nb ≤ 1000000 := by
      have := (go.ok.fls _ (fl_get hk)).1
      have := hr.own.len
      omega
    have x0 := hr.c0
    have ho := hr.own
    clear HC HB hr h e3 hk go
    generalize (D.fs.getD (idxF D.fs s) noFl).b = bb at *
    generalize (hd s).k = k at *
    generalize (hd s).B = B at *
    generalize (hd s).nb = nb at *
    generalize (hd s).cb = cb at *
    go_enter Tryz.func34, Tryz.ntmps34
    go_wp2_with fail
    refine (cloneB_any B nb cb bb w ho hle).mono ?_
    rintro e w2 ⟨B2, c2, rfl, o2, b2⟩
    go_wp2_with fail
    go_ret2
    exact ⟨_, _, _, rfl, o2.rd, fun a ha => World.ownsRow.lt o2 a.block (by simp [Value.ownBlock, ha]), b2⟩
  · obtain rfl : cc = 11 := by rw [← HC.out]; unfold readC; rw [if_neg hk]
    obtain rfl : bb = [] := by rw [← HB.out]; unfold readB; rw [if_neg hk]
    have e3 : ptrOf D.fs hd s = .pointer none := if_neg hk
    rw [e3] at q1
    clear HC HB h e3 hk
    go_enter Tryz.func34, Tryz.ntmps34
    go_wp2_with fail
    go_ret2
    exact ⟨none, 0, 0, rfl, Rd.nil _, fun a ha => (by cases ha), Below.refl _ _⟩
def With (Q R : Thing) : Thing := fun w G => ∃ G1 G2, Q w G1 ∧ R w G2 ∧ (∀ k, G1 k → G k) ∧ (∀ k, G2 k → G k) ∧ (∀ k, G k → k < w.heap.size) ∧ ∀ k, G1 k → ¬ G2 k
theorem with_keeps {Q R : Thing} (kq : Keeps Q) (kr : Keeps R) : Keeps (With Q R) :=
  ⟨fun ⟨G1, G2, h1, h2, i1, i2, hl, hx⟩ hs hk => ⟨G1, G2, kq.keep h1 hs fun k h => hk k (i1 k h), kr.keep h2 hs fun k h => hk k (i2 k h), i1, i2, fun k h => Nat.lt_of_lt_of_le (hl k h) hs, hx⟩, fun ⟨_, _, _, _, _, _, hl, _⟩ => hl⟩
def SlT (A : Option Addr) (n c : Nat) (l : List UInt8) : Thing := fun w G => Rd w A n c l ∧ (∀ a, A = some a → G a.block) ∧ ∀ k, G k → k < w.heap.size
theorem slT_keeps (A : Option Addr) (n c : Nat) (l : List UInt8) : Keeps (SlT A n c l) :=
  ⟨fun ⟨h, i, hl⟩ hs hk => ⟨rd_keep h fun a ha => hk _ (i a ha), i, fun k h => Nat.lt_of_lt_of_le (hl k h) hs⟩, fun h => h.2.2⟩
def OwT (A : Option Addr) (n c : Nat) (l : List UInt8) : Thing := fun w G => Own w 0 5 A n c l ∧ (∀ a, A = some a → G a.block) ∧ ∀ k, G k → k < w.heap.size
def BxT (g : Nat) (cs : Array Value) (t : TypeId) : Thing := fun w G => w.heap[g]? = some (.cells cs t (0, 0)) ∧ G g ∧ ∀ k, G k → k < w.heap.size
theorem bxT_keeps (g : Nat) (cs : Array Value) (t : TypeId) : Keeps (BxT g cs t) :=
  ⟨fun ⟨h, i, hl⟩ hs hk => ⟨(hk _ i).trans h, i, fun k h => Nat.lt_of_lt_of_le (hl k h) hs⟩, fun h => h.2.2⟩
theorem pair_rd {base : Nat} {w : World} {P Q : Thing} {A : Option Addr} {n c : Nat} {l : List UInt8} (h : Pair base w P (With Q (SlT A n c l))) : Rd w A n c l := by
  obtain ⟨_, _, _, ⟨_, _, _, hr, _⟩, _⟩ := h
  exact hr.1
theorem pair_ow {base : Nat} {w : World} {P Q : Thing} {A : Option Addr} {n c : Nat} {l : List UInt8} (h : Pair base w P (With Q (OwT A n c l))) : Own w 0 5 A n c l := by
  obtain ⟨_, _, _, ⟨_, _, _, hr, _⟩, _⟩ := h
  exact hr.1
theorem pair_bx {base : Nat} {w : World} {P Q : Thing} {g : Nat} {cs : Array Value} {t : TypeId} (h : Pair base w P (With Q (BxT g cs t))) : w.heap[g]? = some (.cells cs t (0, 0)) := by
  obtain ⟨_, _, _, ⟨_, _, _, hr, _⟩, _⟩ := h
  exact hr.1
theorem pair_first {base : Nat} {w : World} {P Q R : Thing} (h : Pair base w P (With Q R)) : Pair base w P Q := by
  obtain ⟨F, G, hp, ⟨G1, _, h1, _, i1, _, _⟩, hF, hG, hd⟩ := h
  exact ⟨F, G1, hp, h1, hF, fun k hk => hG k (i1 k hk), fun k hf hg => hd k hf (i1 k hg)⟩
theorem pair_rot {base : Nat} {w : World} {P Q R : Thing} (kp : Keeps P) (h : Pair base w P (With Q R)) : Pair base w Q (With P R) := by
  obtain ⟨F, G, hp, ⟨G1, G2, h1, h2, i1, i2, hl, hx⟩, hF, hG, hd⟩ := h
  refine ⟨G1, fun k => F k ∨ G2 k, h1, ⟨F, G2, hp, h2, fun k hk => .inl hk, fun k hk => .inr hk, fun k hk => ?_, fun k hf hg => hd k hf (i2 k hg)⟩, fun k hk => hG k (i1 k hk), fun k hk => ?_, fun k hk hg => ?_⟩
  · rcases hk with hk | hk
    · exact kp.lt hp k hk
    · exact hl k (i2 k hk)
  · rcases hk with hk | hk
    · exact hF k hk
    · exact hG k (i2 k hk)
  · rcases hg with hg | hg
    · exact hd k hg (i1 k hk)
    · exact hx k hk hg
theorem pair_last {base : Nat} {w : World} {P Q S : Thing} (kp : Keeps P) (h : Pair base w P (With Q S)) : Pair base w S (With P Q) := by
  obtain ⟨F, G, hp, ⟨G1, G2, h1, h2, i1, i2, hl, hx⟩, hF, hG, hd⟩ := h
  refine ⟨G2, fun k => F k ∨ G1 k, h2, ⟨F, G1, hp, h1, fun k hk => .inl hk, fun k hk => .inr hk, fun k hk => ?_, fun k hf hg => hd k hf (i1 k hg)⟩, fun k hk => hG k (i2 k hk), fun k hk => ?_, fun k hk hg => ?_⟩
  · rcases hk with hk | hk
    · exact kp.lt hp k hk
    · exact hl k (i1 k hk)
  · rcases hk with hk | hk
    · exact hF k hk
    · exact hG k (i1 k hk)
  · rcases hg with hg | hg
    · exact hd k hg (i2 k hk)
    · exact hx k hg hk
theorem pair_drop {base : Nat} {w : World} {P Q S : Thing} (h : Pair base w S (With P Q)) : Pair base w P Q := by
  obtain ⟨F, G, hp, ⟨G1, G2, h1, h2, i1, i2, hl, hx⟩, hF, hG, hd⟩ := h
  exact ⟨G1, G2, h1, h2, fun k hk => hG k (i1 k hk), fun k hk => hG k (i2 k hk), hx⟩
theorem pair_more {base : Nat} {w w' : World} {P Q R : Thing} (h : Pair base w P Q) (kp : Keeps P) (kq : Keeps Q) (hb : base ≤ w.heap.size) (hbl : Below w.heap.size w w') (hn : R w' (fun k => w.heap.size ≤ k ∧ k < w'.heap.size)) : Pair base w' P (With Q R) := by
  obtain ⟨F, G, hp, hq, h1, h2, h3⟩ := h
  have hp' := kp.keep hp hbl.size fun k hk => hbl.block k (kp.lt hp k hk)
  have hq' := kq.keep hq hbl.size fun k hk => hbl.block k (kq.lt hq k hk)
  refine ⟨F, fun k => G k ∨ (w.heap.size ≤ k ∧ k < w'.heap.size), hp', ⟨G, fun k => w.heap.size ≤ k ∧ k < w'.heap.size, hq', hn, fun k hk => .inl hk, fun k hk => .inr hk, fun k hk => ?_, fun k hg hk => ?_⟩, h1, fun k hk => ?_, fun k hf hk => ?_⟩
  · rcases hk with hk | hk
    · exact kq.lt hq' k hk
    · exact hk.2
  · have := kq.lt hq k hg
    omega
  · rcases hk with hk | hk
    · exact h2 k hk
    · omega
  · rcases hk with hk | hk
    · exact h3 k hf hk
    · have := kp.lt hp k hf
      omega
theorem pr_reads {base : Nat} {w : World} {g : Nat} {D : Dk} {Q : Thing} (h : Pair base w (LdT g D) Q) (kq : Keeps Q) (hb : base ≤ w.heap.size) (go : DkGo D) {s : ByteArray} (hs : s.size ≤ maxLen) :
    Calls Tryz.prog 34 #[.pointer (some ⟨g, 0, none⟩), .string s] w fun e w' => ∃ B m c, e = .returned (.tuple #[.slice B m c, .int .i64 (readC D s)]) ∧ Pair base w' (LdT g D) (With Q (SlT B m c (readB D s))) ∧ Below w.heap.size w w' := by
  have h' := h
  obtain ⟨F, G, hp, hq, h1, h2, h3⟩ := h
  refine (readN_any g D F s w hp go hs).mono ?_
  rintro e w' ⟨B, m, c, he, hr, hf, hbl⟩
  exact ⟨B, m, c, he, pair_more h' (ldT_keeps g D) kq hb hbl ⟨hr, hf, fun k hk => hk.2⟩, hbl⟩
theorem pair_second {base : Nat} {w : World} {P Q R : Thing} (h : Pair base w P (With Q R)) : Pair base w P R := by
  obtain ⟨F, G, hp, ⟨_, G2, _, h2, _, i2, _⟩, hF, hG, hd⟩ := h
  exact ⟨F, G2, hp, h2, hF, fun k hk => hG k (i2 k hk), fun k hf hg => hd k hf (i2 k hg)⟩
section
variable {base : Nat} {w : World} {g : Nat} {D : Dk} {Q : Thing}
theorem rf_did {c : Int} {D' : Dk} {F G : Nat → Prop} {e : Ending} {w' : World} (hq : Q w G) (kq : Keeps Q) (h1 : ∀ k, F k → base ≤ k) (h2 : ∀ k, G k → base ≤ k) (h3 : ∀ k, F k → ¬ G k) (hb : base ≤ w.heap.size) (h : Did c D' g F w e w') :
    e = .returned (.int .i64 c) ∧ Pair base w' (RfT g D') Q ∧ Below base w w' :=
  ⟨h.1, Pair.left hq kq h1 h2 h3 hb h.2.1 h.2.2, ch_below (Below.refl _ _) h.2.2 h1 hb⟩
theorem rf_append (h : Pair base w (RfT g D) Q) (kq : Keeps Q) (hb : base ≤ w.heap.size) (ok : DkOk D) {s : ByteArray} (hs : s.size ≤ maxLen) {A : Option Addr} {m c : Nat} {b : List UInt8} (rb : Rd w A m c b) (hm : m ≤ 1000000) :
    Calls Tryz.prog 52 #[.pointer (some ⟨g, 0, none⟩), .string s, .slice A m c] w fun e w' => e = .returned (.int .i64 (appendD D s b).1) ∧ Pair base w' (RfT g (appendD D s b).2) Q ∧ Below base w w' := by
  obtain ⟨F, G, hp, hq, h1, h2, h3⟩ := h
  exact (refAppendC_any g D F s A m c b w hp ok hs rb hm).mono fun e w' h => rf_did hq kq h1 h2 h3 hb h
theorem rf_sync (h : Pair base w (RfT g D) Q) (kq : Keeps Q) (hb : base ≤ w.heap.size) (ok : DkOk D) (s : ByteArray) :
    Calls Tryz.prog 43 #[.pointer (some ⟨g, 0, none⟩), .string s] w fun e w' => e = .returned (.int .i64 (syncD D s).1) ∧ Pair base w' (RfT g (syncD D s).2) Q ∧ Below base w w' := by
  obtain ⟨F, G, hp, hq, h1, h2, h3⟩ := h
  exact (refSync_any g D F s w hp ok).mono fun e w' h => rf_did hq kq h1 h2 h3 hb h
theorem rf_remove (h : Pair base w (RfT g D) Q) (kq : Keeps Q) (hb : base ≤ w.heap.size) (ok : DkOk D) (s : ByteArray) :
    Calls Tryz.prog 44 #[.pointer (some ⟨g, 0, none⟩), .string s] w fun e w' => e = .returned (.int .i64 (removeD D s).1) ∧ Pair base w' (RfT g (removeD D s).2) Q ∧ Below base w w' := by
  obtain ⟨F, G, hp, hq, h1, h2, h3⟩ := h
  exact (refRemove_any g D F s w hp ok).mono fun e w' h => rf_did hq kq h1 h2 h3 hb h
theorem rf_trunc (h : Pair base w (RfT g D) Q) (kq : Keeps Q) (hb : base ≤ w.heap.size) (ok : DkOk D) (s : ByteArray) (z : Int) :
    Calls Tryz.prog 45 #[.pointer (some ⟨g, 0, none⟩), .string s, .int .i64 z] w fun e w' => e = .returned (.int .i64 (truncD D s z).1) ∧ Pair base w' (RfT g (truncD D s z).2) Q ∧ Below base w w' := by
  obtain ⟨F, G, hp, hq, h1, h2, h3⟩ := h
  exact (refTrunc_any g D F s z w hp ok).mono fun e w' h => rf_did hq kq h1 h2 h3 hb h
theorem rf_turn (h : Pair base w (RfT g D) Q) (kq : Keeps Q) (hb : base ≤ w.heap.size) (ok : DkOk D) (s : ByteArray) (z : Int) :
    Calls Tryz.prog 24 #[.pointer (some ⟨g, 0, none⟩), .string s, .int .i64 z] w fun e w' => e = .returned (.int .i64 (turnC D s z).1) ∧ Pair base w' (RfT g (turnC D s z).2) Q ∧ Below base w w' := by
  obtain ⟨F, G, hp, hq, h1, h2, h3⟩ := h
  exact (refTurn_any g D F s z w hp ok).mono fun e w' h => rf_did hq kq h1 h2 h3 hb h
theorem rf_crash (h : Pair base w (RfT g D) Q) (kq : Keeps Q) (hb : base ≤ w.heap.size) (ok : DkOk D) {keep : Int} (hk : -9223372036854775808 ≤ keep ∧ keep ≤ 9223372036854775807) :
    Calls Tryz.prog 21 #[.pointer (some ⟨g, 0, none⟩), .int .i64 keep] w fun e w' => e = .returned (.tuple #[]) ∧ Pair base w' (RfT g (crashD D keep)) Q ∧ Below base w w' := by
  obtain ⟨F, G, hp, hq, h1, h2, h3⟩ := h
  exact (refCrash_any g D F keep w hp ok hk).mono fun e w' h => ⟨h.1, Pair.left hq kq h1 h2 h3 hb h.2.1 h.2.2, ch_below (Below.refl _ _) h.2.2 h1 hb⟩
end
end Go.Proofs.YtppidbdkejkopaaGreatDoor.DkWalk
namespace Go.Proofs.YtppidbdkejkopaaGreatDoor.WlWalk
open Go.RowKit MemRow Ev NameMath NameWalk EvWalk NumMem DkWalk
def TabB (base : Nat) (w : World) : Prop := Lib.TabBelow Tryz.prog base w "internal/strconv.uint64pow10" .u64 Lib.pow10Tab
theorem TabB.here {base : Nat} {w : World} (h : TabB base w) : TabW w := Lib.TabBelow.here h
theorem TabB.on {base : Nat} {w w' : World} (h : TabB base w) (hb : Below base w w') : TabB base w' := Lib.TabBelow.on h hb
theorem TabW.from {w : World} (h : TabW w) : TabB w.heap.size w := Lib.tabBelow_of_tabIs h
section
variable {base : Nat} {w : World} {g : Nat} {D : Dk} {Q : Thing}
theorem rw_read (h : Pair base w (RfT g D) Q) (kq : Keeps Q) (ok : DkOk D) (s : ByteArray) :
    Calls Tryz.prog 41 #[.pointer (some ⟨g, 0, none⟩), .string s] w fun e w' => ∃ B m c, e = .returned (.tuple #[.slice B m c, .int .i64 (readC D s)]) ∧ Rd w' B m c (readB D s) ∧ Pair base w' (RfT g D) Q ∧ Below w.heap.size w w' := by
  have h' := h
  obtain ⟨F, G, hp, hq, h1, h2, h3⟩ := h
  exact (refRead_any g D F s w hp ok).mono fun e w' ⟨B, m, c, he, hr, hb⟩ => ⟨B, m, c, he, hr, h'.below (rfT_keeps g D) kq hb, hb⟩
theorem bel_up {base : Nat} {w w' : World} (hb : base ≤ w.heap.size) (h : Below w.heap.size w w') : Below base w w' := ⟨h.os, h.tape, h.output, h.size, fun k hk => h.block k (Nat.lt_of_lt_of_le hk hb)⟩
theorem manyF_step {D : Dk} {f n : Nat} : manyF D (f + 1) n = if readC D (segN (n + 1)) = 0 then manyF D f (n + 1) else n := rfl
set_option maxHeartbeats 4000000 in
set_option maxRecDepth 100000 in
theorem refMany_any (hp : Pair base w (RfT g D) Q) (kq : Keeps Q) (hb : base ≤ w.heap.size) (ok : DkOk D) (ht : TabB base w) :
    Calls Tryz.prog 40 #[.pointer (some ⟨g, 0, none⟩)] w fun e w' => e = .returned (.int .i64 (manyW D : Nat)) ∧ Pair base w' (RfT g D) Q ∧ Below base w w' := by
  have b0 := Below.refl base w
  go_enter Tryz.func40, Tryz.ntmps40
  go_wp2_with fail
  go_loopw [3, 4, 5] (fun i _ _ wr => ∃ j : Nat, j ≤ 200 ∧ i = .int .i64 j ∧ Hid (manyW D = manyF D (200 - j) j) ∧ Pair base wr (RfT g D) Q ∧ Below base w wr) (fun i _ _ _ => 200 - (intOf i).toNat)
  case atStart => exact ⟨0, Nat.zero_le _, rfl, Go.Lib.hid rfl, hp, b0⟩
  case round =>
    obtain ⟨j, hj, rfl, HM, pj, bj⟩ := hrel
    clear hp b0
    have hbj : base ≤ wr.heap.size := Nat.le_trans hb bj.size
    have tj := ht.on bj
    by_cases hlt : j < 200
    · have i1 : (j : Int) < 200 := by omega
      have hs := refSeg_any ((j : Int) + 1) wr tj.here
      have e1 : segZ ((j : Int) + 1) = segN (j + 1) := by unfold segZ; congr 1
      rw [e1] at hs
      obtain ⟨f, hf⟩ : ∃ f, 200 - j = f + 1 := ⟨200 - j - 1, by omega⟩
      have hf' : 200 - (j + 1) = f := by omega
      rw [hf, manyF_step] at HM
      have HF := Go.Lib.hid hf'
      have HS := Go.Lib.hid hs
      clear hs e1 hf hf'
      go_wp2_with fail
      refine (HS.out).mono ?_
      rintro e w2 ⟨rfl, b2⟩
      have p2 := pj.below (rfT_keeps g D) kq b2
      have B2 := bj.trans (bel_up hbj b2)
      go_wp2_with fail
      refine (rw_read p2 kq ok (segN (j + 1))).mono ?_
      rintro e w3 ⟨C, m, c, rfl, _, p3, b3⟩
      have B3 := B2.trans (bel_up (Nat.le_trans hbj b2.size) b3)
      clear p2 pj b2 b3 B2 tj HS
      by_cases hr : readC D (segN (j + 1)) = 0
      · have HM2 : Hid (manyW D = manyF D (200 - (j + 1)) (j + 1)) := Go.Lib.hid (by rw [HM.out, if_pos hr, HF.out])
        rw [hr]
        clear hr HM
        go_wp2_with fail
        go_roundw
        case rel => exact ⟨j + 1, by omega, by go_num, HM2, p3, B3⟩
        case measure => simp [intOf]; omega
      · have HM2 : Hid (manyW D = j) := Go.Lib.hid (by rw [HM.out, if_neg hr])
        have hne : (readC D (segN (j + 1)) != 0) = true := by rw [bne_iff_ne]; exact hr
        clear hr HM
        generalize readC D (segN (j + 1)) = rc at *
        go_wp2_with fail
        go_ret
        exact ⟨by (rw [HM2.out]; rfl), p3, B3⟩
    · obtain rfl : j = 200 := by omega
      have HM2 : Hid (manyW D = 200) := Go.Lib.hid (by rw [HM.out, Nat.sub_self]; rfl)
      go_wp2_with fail
      go_ret
      exact ⟨by rw [HM2.out]; rfl, pj, bj⟩
end
end Go.Proofs.YtppidbdkejkopaaGreatDoor.WlWalk
namespace Go.Proofs.YtppidbdkejkopaaGreatDoor.EdWalk
open Go.RowKit MemRow Ev NameMath NameWalk EvWalk NumMath NumMem NumWalk EcWalk
theorem field_size : (Tryz.prog.info? 132).map (·.size) = some 2 := by kernel_rfl
theorem elem_flds : Tryz.prog.elem 67 = 132 := by kernel_rfl
def fewE (e : Ev) : Ev := ⟨e.s, e.t, e.tags.take 12, e.fs.take 12⟩
theorem fewE_ok {e : Ev} (h : EvOk e) : EvOk (fewE e) :=
  ⟨h.s, h.t, fun x hx => h.tags x (List.mem_of_mem_take hx), fun f hf => h.names f (List.mem_of_mem_take hf), fun f hf => h.nums f (List.mem_of_mem_take hf)⟩
theorem small_ok {e : Ev} (h1 : e.s.size ≤ 100) (h2 : e.t.size ≤ 100) (h3 : ∀ x ∈ e.tags, x.size ≤ 100) (h4 : ∀ f ∈ e.fs, f.1.size ≤ 100) (h5 : ∀ f ∈ e.fs, 0 ≤ f.2 ∧ f.2 ≤ 100) : EvOk e := by
  have hm : 100 ≤ maxLen := by unfold maxLen; omega
  exact ⟨Nat.le_trans h1 hm, Nat.le_trans h2 hm, fun x hx => Nat.le_trans (h3 x hx) hm, fun f hf => Nat.le_trans (h4 f hf) hm, fun f hf => by have := h5 f hf; omega⟩
def exE : Ev := ⟨⟨#[115]⟩, ⟨#[116]⟩, [], []⟩
theorem exE_may : mayE exE = 0 := by kernel_rfl
theorem exE_ok : EvOk exE := small_ok (by decide) (by decide) (by decide) (by decide) (by decide)
theorem enc_small {x : Int} (h0 : 0 ≤ x) (h : x < 64) : enc x = [(2 * x).toNat.toUInt8] := by
  have hz : Go.Lib.zigzag x = (2 * x).toNat := by
    obtain ⟨k, rfl⟩ := Int.eq_ofNat_of_zero_le h0
    unfold Go.Lib.zigzag
    split <;> omega
  show Go.Lib.uvarint (Go.Lib.zigzag x) = _
  rw [hz, Go.Lib.uvarint_small (by omega)]
theorem exE_enc : ([] : List UInt8) ++ encE exE = [2, 115, 2, 116, 0, 0] := by
  have e1 : enc ((⟨#[115]⟩ : ByteArray).size : Int) = [2] := by rw [enc_small (by decide) (by decide)]; rfl
  have e2 : enc ((⟨#[116]⟩ : ByteArray).size : Int) = [2] := by rw [enc_small (by decide) (by decide)]; rfl
  have e3 : enc ((([] : List ByteArray).length : Nat) : Int) = [0] := by rw [enc_small (by decide) (by decide)]; rfl
  have e4 : enc ((([] : List (ByteArray × Int)).length : Nat) : Int) = [0] := by rw [enc_small (by decide) (by decide)]; rfl
  unfold encE exE txt
  simp only
  rw [e1, e2, e3, e4]
  rfl
end Go.Proofs.YtppidbdkejkopaaGreatDoor.EdWalk
namespace Go.Proofs.YtppidbdkejkopaaGreatDoor.EeLaw
open Go.RowKit Go.WideShapes Go.ChangeShapes MemRow Ev NameMath NameWalk EvWalk NumMath NumMem NumWalk EcWalk EdWalk Go.Proofs.YtppidbdkejkopaaGreatDoor.Open
theorem elem_bytes : Tryz.prog.elem 58 = 5 := by kernel_rfl
theorem run_size_u8 (W : World) : (sizeOf 5).run Tryz.prog W = .ok 1 W := by
  have hi := u8_size
  cases hq : Tryz.prog.info? 5 with
  | none => simp [hq] at hi
  | some i =>
    have hs : i.size = 1 := by simpa [hq] using hi
    simp [sizeOf, typeInfo, hq, hs]
set_option maxRecDepth 100000 in
theorem slice_upto (A : Option Addr) (n cap m : Nat) (hc : m ≤ cap) (W : World) :
    (Instr.slice 58 (.slice A n cap) none (some (.int .i64 (m : Int))) none).run Tryz.prog W = .ok (.slice A m cap) W := by
  have hu : Tryz.prog.underlying 58 = some (.slice (Tryz.prog.elem 58)) := by rw [elem_bytes]; exact Tryz.underlying58
  have e : A.map (·.add 0) = A := by cases A <;> simp [Addr.add]
  rw [run_slice_h (P := Tryz.prog) W 58 _ n cap hu .i64 (m : Int) (by omega) (by omega), elem_bytes, run_size_u8]
  simp only [Result.andThen, sliced, Int.toNat_natCast, Nat.zero_mul, e, Nat.sub_zero]
  congr 2
  split <;> rfl
theorem rd_str {w : World} {A : Option Addr} {n cap : Nat} {l : List UInt8} (h : Rd w A n cap l) : (convert 58 9 (.slice A n cap)).run Tryz.prog w = .ok (.string ⟨l.toArray⟩) w :=
  h.string (P := Tryz.prog) 58 9 5 Tryz.underlying58 Tryz.underlying5 Tryz.underlying9
theorem bytes_ne {a b : List UInt8} (h : a ≠ b) : (a == b) = false := by rw [beq_eq_false_iff_ne]; exact h
theorem bel_drewN {B : Nat} {a w : World} (h : Below B a w) (n : Nat) : Below B a (w.drewN n) := ⟨h.os, h.tape, h.output, h.size, h.block⟩
end Go.Proofs.YtppidbdkejkopaaGreatDoor.EeLaw
namespace Go.Proofs.YtppidbdkejkopaaGreatDoor.BtWalk
open Go.RowKit Go.WideShapes Go.ChangeShapes Go.Joins Go.Deep MemRow Ev NameMath NameWalk EvWalk NumMath NumMem NumWalk EcWalk EdWalk EeLaw Go.Proofs.YtppidbdkejkopaaGreatDoor.Open
def IsB (w : World) (v : Value) (x : Bat) : Prop := ∃ A n ca, v = .agg #[.int .i64 x.a, .slice A n ca] ∧ RdE w A n ca x.es
theorem IsB.below {w w' : World} {v : Value} {x : Bat} (h : IsB w v x) (hb : Below w.heap.size w w') : IsB w' v x := by
  obtain ⟨A, n, ca, rfl, h1⟩ := h
  exact ⟨A, n, ca, rfl, h1.below hb⟩
structure BOk (x : Bat) : Prop where
  evs : ∀ e ∈ x.es, EvOk e
  a : -9223372036854775808 ≤ x.a ∧ x.a ≤ 9223372036854775807
def BxAt (w : World) (g : Nat) (v0 v1 : Value) : Prop := w.heap[g]? = some (.cells #[v0, v1] 39 (0, 0))
theorem BxAt.new (w : World) (v0 v1 : Value) : BxAt (w.alloc (.cells #[v0, v1] 39)) w.heap.size v0 v1 := heap_alloc_new w _
section
variable {w w' : World} {g : Nat} {v0 v1 : Value}
theorem BxAt.lt (h : BxAt w g v0 v1) : g < w.heap.size := (Array.getElem?_eq_some_iff.1 h).1
theorem BxAt.below (h : BxAt w g v0 v1) (hb : Below w.heap.size w w') : BxAt w' g v0 v1 := (hb.block g h.lt).trans h
theorem BxAt.c0 (h : BxAt w g v0 v1) : w.cell? ⟨g, 0, none⟩ = some v0 := by rw [cell_of_row w g 0 _ _ _ h]; rfl
theorem BxAt.c1 (h : BxAt w g v0 v1) : w.cell? ⟨g, 1, none⟩ = some v1 := by rw [cell_of_row w g 1 _ _ _ h]; rfl
theorem BxAt.frozen (h : BxAt w g v0 v1) (i : Nat) : w.frozen? ⟨g, i, none⟩ = false := by
  unfold BxAt at h
  simp [World.frozen?, h]
theorem BxAt.grown {row : Option Nat} (h : BxAt w g v0 v1) (hg : w.grownBy w' row) (hne : some g ≠ row) : BxAt w' g v0 v1 := (hg.block g h.lt hne).trans h
theorem BxAt.set0 (h : BxAt w g v0 v1) (x : Value) : BxAt (w.setCell ⟨g, 0, none⟩ x) g x v1 := by
  unfold BxAt at h ⊢
  simp only [World.setCell, Array.getElem?_modify, h]
  rfl
theorem BxAt.set1 (h : BxAt w g v0 v1) (x : Value) : BxAt (w.setCell ⟨g, 1, none⟩ x) g v0 x := by
  unfold BxAt at h ⊢
  simp only [World.setCell, Array.getElem?_modify, h]
  rfl
theorem BxAt.all (h : BxAt w g v0 v1) (x y : Value) : BxAt ((w.setCell ⟨g, 0, none⟩ x).setCell ⟨g, 1, none⟩ y) g x y := (h.set0 x).set1 y
theorem BxAt.far {b i : Nat} (h : BxAt w g v0 v1) (hne : g ≠ b) (x : Value) : BxAt (w.setCell ⟨b, i, none⟩ x) g v0 v1 := by
  unfold BxAt at h ⊢
  simp only [World.setCell, Array.getElem?_modify]
  rw [if_neg (fun e => hne e.symm)]
  exact h
end
theorem batch_bel (w : World) (v0 v1 : Value) : Below w.heap.size w (w.alloc (.cells #[v0, v1] 39)) := (Below.refl _ _).alloc (Nat.le_refl _) _
structure BoxB (wr w : World) (v0 v1 : Value) : Prop where
  eq : BxAt wr w.heap.size v0 v1
  bel : Below w.heap.size w wr
section
variable {wr w w' : World} {v0 v1 : Value}
theorem BoxB.new (w : World) (v0 v1 : Value) : BoxB (w.alloc (.cells #[v0, v1] 39)) w v0 v1 := ⟨BxAt.new w v0 v1, batch_bel w v0 v1⟩
theorem BoxB.below (h : BoxB wr w v0 v1) (hb : Below wr.heap.size wr w') : BoxB w' w v0 v1 := ⟨h.eq.below hb, below_chain h.bel hb⟩
theorem BoxB.drewN (h : BoxB wr w v0 v1) (k : Nat) : BoxB (wr.drewN k) w v0 v1 := ⟨h.eq, EeLaw.bel_drewN h.bel k⟩
theorem BoxB.drew (h : BoxB wr w v0 v1) : BoxB wr.drew w v0 v1 := ⟨h.eq, bel_drew h.bel⟩
theorem BoxB.all (h : BoxB wr w v0 v1) (x y : Value) : BoxB ((wr.setCell ⟨w.heap.size, 0, none⟩ x).setCell ⟨w.heap.size, 1, none⟩ y) w x y := ⟨h.eq.all x y, (h.bel.setCell (Nat.le_refl _) _).setCell (Nat.le_refl _) _⟩
end
def EvsO (w0 : World) : List Ev → List Value → Prop
  | [], cs => cs = []
  | e :: es, cs => ∃ T nT cT F nF cF cs', cs = .string e.s :: .string e.t :: .slice T nT cT :: .slice F nF cF :: cs' ∧ RdS w0 T nT cT e.tags ∧ RdF w0 F nF cF e.fs ∧ EvsO w0 es cs'
theorem EvsO.snoc {w : World} {e : Ev} {T F : Option Addr} {nT cT nF cF : Nat} (o1 : RdS w T nT cT e.tags) (o2 : RdF w F nF cF e.fs) :
    ∀ (es : List Ev) (cs : List Value), EvsO w es cs → EvsO w (es ++ [e]) (cs ++ [.string e.s, .string e.t, .slice T nT cT, .slice F nF cF])
  | [], cs, h => by
    obtain rfl : cs = [] := h
    exact ⟨T, nT, cT, F, nF, cF, [], rfl, o1, o2, rfl⟩
  | x :: es, cs, ⟨T1, n1, c1, F1, m1, d1, cs', hc, p1, p2, h⟩ => by
    subst hc
    exact ⟨T1, n1, c1, F1, m1, d1, cs' ++ [.string e.s, .string e.t, .slice T nT cT, .slice F nF cF], rfl, p1, p2, EvsO.snoc o1 o2 es cs' h⟩
theorem EvsO.at_ {w : World} : ∀ (es : List Ev) (cs : List Value), EvsO w es cs → ∀ i, i < es.length →
    ∃ T nT cT F nF cF, cs[i * 4]? = some (.string (es.getD i noEv).s) ∧ cs[i * 4 + 1]? = some (.string (es.getD i noEv).t) ∧ cs[i * 4 + 2]? = some (.slice T nT cT) ∧ cs[i * 4 + 3]? = some (.slice F nF cF) ∧ RdS w T nT cT (es.getD i noEv).tags ∧ RdF w F nF cF (es.getD i noEv).fs
  | [], _, _, i, hi => by simp at hi
  | e :: es, cs, ⟨T, nT, cT, F, nF, cF, cs', hc, o1, o2, h⟩, i, hi => by
    subst hc
    cases i with
    | zero => exact ⟨T, nT, cT, F, nF, cF, rfl, rfl, rfl, rfl, o1, o2⟩
    | succ i =>
      obtain ⟨T1, n1, c1, F1, m1, d1, q0, q1, q2, q3, p1, p2⟩ := EvsO.at_ es cs' h i (by simpa using hi)
      have e4 : (i + 1) * 4 = i * 4 + 4 := by omega
      rw [e4]
      exact ⟨T1, n1, c1, F1, m1, d1, by simpa using q0, by simpa using q1, by simpa using q2, by simpa using q3, by simpa using p1, by simpa using p2⟩
theorem EvsO.one {w : World} : ∀ (es : List Ev) (cs : List Value), EvsO w es cs → ∀ v ∈ cs, v.oneCell' = true
  | [], cs, h, v, hv => by
    obtain rfl : cs = [] := h
    simp at hv
  | _ :: es, cs, ⟨T, nT, cT, Y, nY, cY, cs', e, _, _, h⟩, v, hv => by
    subst e
    simp only [List.mem_cons] at hv
    rcases hv with rfl | rfl | rfl | rfl | hv
    · rfl
    · rfl
    · rfl
    · rfl
    · exact EvsO.one es cs' h v hv
theorem EvsO.take {w : World} : ∀ (es : List Ev) (cs : List Value) (i : Nat), EvsO w es cs → EvsO w (es.take i) (cs.take (i * 4))
  | [], cs, i, h => by
    obtain rfl : cs = [] := h
    simp only [List.take_nil]
    rfl
  | _ :: _, _, 0, _ => by
    simp only [List.take_zero, Nat.zero_mul]
    rfl
  | _ :: es, _, i + 1, ⟨T, nT, cT, Y, nY, cY, cs', rfl, o1, o2, h⟩ => by
    have e2 : (i + 1) * 4 = i * 4 + 1 + 1 + 1 + 1 := by omega
    rw [e2]
    exact ⟨T, nT, cT, Y, nY, cY, cs'.take (i * 4), rfl, o1, o2, EvsO.take es cs' i h⟩
theorem EvsO.drop {w : World} : ∀ (es : List Ev) (cs : List Value) (i : Nat), EvsO w es cs → EvsO w (es.drop i) (cs.drop (i * 4))
  | [], cs, i, h => by
    obtain rfl : cs = [] := h
    simp only [List.drop_nil]
    rfl
  | _ :: _, _, 0, h => by
    simp only [List.drop_zero, Nat.zero_mul]
    exact h
  | _ :: es, _, i + 1, ⟨_, _, _, _, _, _, cs', rfl, _, _, h⟩ => by
    have e2 : (i + 1) * 4 = i * 4 + 1 + 1 + 1 + 1 := by omega
    rw [e2]
    exact EvsO.drop es cs' i h
theorem EvsO.append {w : World} : ∀ (es fs : List Ev) (cs ds : List Value), EvsO w es cs → EvsO w fs ds → EvsO w (es ++ fs) (cs ++ ds)
  | [], _, cs, _, h, h2 => by
    obtain rfl : cs = [] := h
    exact h2
  | _ :: es, fs, _, ds, ⟨T, nT, cT, Y, nY, cY, cs', rfl, o1, o2, h⟩, h2 => ⟨T, nT, cT, Y, nY, cY, cs' ++ ds, rfl, o1, o2, EvsO.append es fs cs' ds h h2⟩
def OwnO (w0 w : World) (base : Nat) (A : Option Addr) (n cap : Nat) (es : List Ev) : Prop := ∃ cs, OwnC 4 w base 69 A n cap cs ∧ es.length = n ∧ EvsO w0 es cs
section
variable {w0 w w' : World} {base n cap : Nat} {A : Option Addr} {es : List Ev}
theorem OwnO.nil (w0 w : World) (base : Nat) : OwnO w0 w base none 0 0 [] := ⟨[], OwnC.nil _ _, rfl, rfl⟩
theorem OwnO.len (h : OwnO w0 w base A n cap es) : es.length = n := by
  obtain ⟨_, _, h, _⟩ := h
  exact h
theorem OwnO.below (h : OwnO w0 w base A n cap es) (hb : Below w.heap.size w w') : OwnO w0 w' base A n cap es := by
  obtain ⟨cs, o, hl, hc⟩ := h
  exact ⟨cs, OwnC.below o hb, hl, hc⟩
theorem OwnO.grown {g : Nat} (h : OwnO w0 w base A n cap es) (hg : w.grownBy w' (some g)) (hb : g < base) : OwnO w0 w' base A n cap es := by
  obtain ⟨cs, o, hl, hc⟩ := h
  exact ⟨cs, OwnC.grown o hg fun a hA e => by
    have := (OwnC.lt o a hA).1
    injection e with e
    omega, hl, hc⟩
theorem OwnO.rd (h : OwnO w0 w base A n cap es) (hb : Below w0.heap.size w0 w) : RdE w A n cap es := by
  obtain ⟨cs, o, hl, hc⟩ := h
  have r := OwnC.rd o
  refine ⟨hl, r.2.1, r.2.2.1, fun hn => ?_⟩
  obtain ⟨b, a, hA, hlt, hcell⟩ := RdC.at_ r (by omega) hn
  refine ⟨b, a, hA, hlt, fun i hi => ?_⟩
  obtain ⟨T, nT, cT, F, nF, cF, q0, q1, q2, q3, p1, p2⟩ := EvsO.at_ es cs hc i (by omega)
  exact ⟨T, nT, cT, F, nF, cF, hcell _ _ q0, by rw [Nat.add_assoc]; exact hcell _ _ q1, by rw [Nat.add_assoc]; exact hcell _ _ q2, by rw [Nat.add_assoc]; exact hcell _ _ q3, RdC.below p1 hb, RdC.below p2 hb⟩
end
def PutXOut (x : Bat) (w : World) (e : Ending) (w' : World) : Prop :=
  Below w.heap.size w w' ∧ ((mayX x = 0 ∧ ∃ A c, e = .returned (.tuple #[.slice A (encX x).length c, .int .i64 0]) ∧ Rd w' A (encX x).length c (encX x)) ∨ (mayX x ≠ 0 ∧ e = .returned (.tuple #[.slice none 0 0, .int .i64 (mayX x)])))
def TakeXOut (l : List UInt8) (w : World) (e : Ending) (w' : World) : Prop :=
  Below w.heap.size w w' ∧ ((∃ x A n c, takeX l = some x ∧ e = .returned (.tuple #[.agg #[.int .i64 x.a, .slice A n c], .int .i64 0]) ∧ OwnE w' w.heap.size A n c x.es) ∨ (takeX l = none ∧ e = .returned (.tuple #[.agg #[.int .i64 0, .slice none 0 0], .int .i64 2])))
def tkX (l : List UInt8) : Bat := (takeX l).getD noBat
def tkN (l : List UInt8) : Int := match takeX l with | some _ => 0 | none => 2
theorem takeX_one {l : List UInt8} {w w' : World} {e : Ending} (h : TakeXOut l w e w') : ∃ A m c, e = .returned (.tuple #[.agg #[.int .i64 (tkX l).a, .slice A m c], .int .i64 (tkN l)]) ∧ RdE w' A m c (tkX l).es ∧ Below w.heap.size w w' := by
  obtain ⟨hb, h⟩ := h
  unfold tkX tkN
  rcases h with ⟨x, A, n, c, h1, rfl, hr⟩ | ⟨h1, rfl⟩
  · rw [h1]
    exact ⟨A, n, c, rfl, hr.rd, hb⟩
  · rw [h1]
    exact ⟨none, 0, 0, rfl, RdE.nil _, hb⟩
end Go.Proofs.YtppidbdkejkopaaGreatDoor.BtWalk
namespace Go.Proofs.YtppidbdkejkopaaGreatDoor.BtWalk
open Go.RowKit MemRow Ev NameMath NameWalk EvWalk NumMath NumMem NumWalk EcWalk EdWalk EeLaw
theorem mayX_none {a : Int} {es : List Ev} (h : es.length = 0) : mayX ⟨a, es⟩ = 22 := by unfold mayX; rw [if_pos h]
theorem mayX_big {a : Int} {es : List Ev} (h : 16 < es.length) : mayX ⟨a, es⟩ = 3 := by unfold mayX; simp only; rw [if_neg (by omega), if_pos h]
theorem mayX_ev {a : Int} {es : List Ev} (h0 : es.length ≠ 0) (h : ¬ 16 < es.length) (hm : mayEs es ≠ 0) : mayX ⟨a, es⟩ = mayEs es := by unfold mayX; simp only; rw [if_neg h0, if_neg h, if_pos hm]
theorem mayX_pos {a : Int} {es : List Ev} {n : Nat} (hl : es.length = n) (h0 : n ≠ 0) (h : ¬ 16 < n) (hm : mayEs es = 0) : mayX ⟨a, es⟩ = if a < 0 ∨ 1048576 - (n : Int) < a then 1 else 0 := by
  unfold mayX
  simp only
  rw [hl, if_neg h0, if_neg h, if_neg (by simpa using hm)]
set_option maxHeartbeats 4000000 in
set_option maxRecDepth 100000 in
theorem refMayX_any (v : Value) (x : Bat) (w : World) (hv : IsB w v x) (hok : BOk x) :
    Calls Tryz.prog 31 #[v] w fun e w' => e = .returned (.int .i64 (mayX x)) ∧ Below w.heap.size w w' := by
  obtain ⟨A, n, ca, rfl, rE⟩ := hv
  obtain ⟨a, es⟩ := x
  simp only at rE
  have oke := hok.evs
  have oka := hok.a
  simp only at oke oka
  have LE := Go.Lib.hid rE.len
  have hn := rE.le
  unfold maxLen at hn
  have s1 := BoxB.new w (.int .i64 a) (.slice A n ca)
  have H1 := Go.Lib.hid (fun h => mayX_none (a := a) (es := es) h)
  have H2 := Go.Lib.hid (fun h => mayX_big (a := a) (es := es) h)
  have HX := Go.Lib.hid (fun h0 h16 hm => mayX_pos (a := a) LE.out h0 h16 hm)
  have HE := Go.Lib.hid (fun h0 h16 hm => mayX_ev (a := a) (es := es) h0 h16 hm)
  clear hok
  generalize mayX ⟨a, es⟩ = M at *
  go_enter Tryz.func31, Tryz.ntmps31
  go_upto_region 1 with (fail)
  generalize w.alloc (.cells #[.int .i64 a, .slice A n ca] 39) = w1 at *
  have k1 := s1.eq.c1
  by_cases h0 : n = 0
  · subst h0
    obtain rfl : M = 22 := H1.out LE.out
    clear H1 H2 HX HE
    go_wp2_with fail
    go_ret
    exact ⟨rfl, s1.bel⟩
  have i0 : ((n : Int) == 0) = false := by rw [beq_eq_false_iff_ne]; omega
  by_cases h16 : 16 < n
  · obtain rfl : M = 3 := H2.out (by rw [LE.out]; exact h16)
    clear H1 H2 HX HE
    have i1 : (16 : Int) < n := by omega
    go_wp2_with fail
    go_ret
    exact ⟨rfl, s1.bel⟩
  have i1 : ¬ (16 : Int) < n := by omega
  have H0 := Go.Lib.hid h0
  replace HX := Go.Lib.hid (fun hm => HX.out h0 h16 hm)
  replace HE := Go.Lib.hid (fun hm => HE.out (by rw [LE.out]; exact h0) (by rw [LE.out]; exact h16) hm)
  clear h0 H1 H2
  go_wp2_with fail
  go_loopw [3, 4] (fun i _ wr => ∃ j : Nat, j ≤ n ∧ i = .int .i64 j ∧ Hid (mayEs (es.take j) = 0) ∧ BoxB wr w (.int .i64 a) (.slice A n ca)) (fun i _ _ => n - (intOf i).toNat)
  case atStart => exact ⟨0, Nat.zero_le _, rfl, Go.Lib.hid (by simp [mayEs]), s1⟩
  case round =>
    obtain ⟨j, hj, rfl, HJ, sr⟩ := hrel
    clear s1 k1
    have k0 := sr.eq.c0
    have k1 := sr.eq.c1
    by_cases hlt : j < n
    · obtain ⟨b, o, rfl, _, kt⟩ := rE.at_ (by omega)
      obtain ⟨A1, n1, c1, B1, m1, d1, x0, x1, x2, x3, r1, r2⟩ := (kt j hlt).below sr.bel
      have i2 : (j : Int) < n := by omega
      have hjl : j < es.length := by rw [LE.out]; exact hlt
      have hoe := oke _ (ev_get hjl)
      have HA := Go.Lib.hid (mayEs_at es j HJ.out hjl)
      have HT := Go.Lib.hid (mayEs_take es j HJ.out hjl)
      clear kt hjl
      generalize es.getD j noEv = ev at *
      have iv : IsEv wr (.agg #[.string ev.s, .string ev.t, .slice A1 n1 c1, .slice B1 m1 d1]) ev := ⟨_, _, _, _, _, _, rfl, r1, r2⟩
      go_wp2_with fail
      refine (refMayE_any _ ev wr iv hoe).mono ?_
      rintro e w6 ⟨rfl, b6⟩
      have s6 := sr.below b6
      clear x0 x1 x2 x3 r1 r2 iv k0 k1 sr b6
      by_cases he : mayE ev = 0
      · have HT2 := Go.Lib.hid (HT.out he)
        rw [he]
        clear he HT HA
        go_wp2_with fail
        go_roundw
        case rel => exact ⟨j + 1, by omega, by go_num, HT2, s6⟩
        case measure => simp [intOf]; omega
      · have hb : (mayE ev != 0) = true := by rw [bne_iff_ne]; exact he
        have hme := HA.out he
        have hM : M = mayE ev := by rw [HE.out (by rw [hme]; exact he), hme]
        rw [← hM] at hb ⊢
        clear HA HT HE HX hme he hM
        go_wp2_with fail
        go_ret
        exact ⟨rfl, s6.bel⟩
    · obtain rfl : n = j := by omega
      have hes : es.take n = es := List.take_of_length_le (by rw [LE.out]; exact Nat.le_refl _)
      have HM := Go.Lib.hid (HX.out (by rw [← hes]; exact HJ.out))
      clear hes HX HE HJ
      by_cases ha : a < 0
      · obtain rfl : M = 1 := by rw [HM.out, if_pos (.inl ha)]
        clear HM
        go_wp2_with fail
        go_ret
        exact ⟨rfl, sr.bel⟩
      · by_cases hb : 1048576 - (n : Int) < a
        · obtain rfl : M = 1 := by rw [HM.out, if_pos (.inr hb)]
          clear HM
          go_wp2_with fail
          go_ret
          exact ⟨rfl, sr.bel⟩
        · obtain rfl : M = 0 := by rw [HM.out, if_neg (by omega)]
          clear HM
          go_wp2_with fail
          go_ret
          exact ⟨rfl, sr.bel⟩
set_option maxHeartbeats 4000000 in
set_option maxRecDepth 100000 in
theorem refPutX_any (v : Value) (x : Bat) (w : World) (hv : IsB w v x) (hok : BOk x) :
    Calls Tryz.prog 50 #[v] w (PutXOut x w) := by
  have hv0 := hv
  obtain ⟨A, n, ca, rfl, rE⟩ := hv
  have LE := Go.Lib.hid rE.len
  have hn := rE.le
  unfold maxLen at hn
  have s1 := BoxB.new w (.int .i64 x.a) (.slice A n ca)
  have oke := hok.evs
  go_enter Tryz.func50, Tryz.ntmps50
  go_upto_region 1 with (fail)
  generalize w.alloc (.cells #[.int .i64 x.a, .slice A n ca] 39) = w1 at *
  have k0 := s1.eq.c0
  have k1 := s1.eq.c1
  go_wp2_with fail
  refine (refMayX_any _ x w1 (hv0.below s1.bel) hok).mono ?_
  rintro e w2 ⟨rfl, b2⟩
  have s2 := s1.below b2
  clear k0 k1 s1 b2
  by_cases h0 : mayX x = 0
  case neg =>
    have m0 : (mayX x != 0) = true := by rw [bne_iff_ne]; exact h0
    have H0 := Go.Lib.hid h0
    clear h0
    go_wp2_with fail
    go_ret2
    exact ⟨s2.bel, .inr ⟨H0.out, rfl⟩⟩
  rw [h0]
  have H0 := Go.Lib.hid h0
  obtain ⟨z1, z2, z3, z4, z5⟩ := (mayX_zero x).1 h0
  have Z3 := Go.Lib.hid z3
  rw [rE.len] at z1 z2 z5
  have hx0 : -9223372036854775808 ≤ x.a ∧ x.a ≤ 9223372036854775807 := hok.a
  have hxn : -9223372036854775808 ≤ (n : Int) ∧ (n : Int) ≤ 9223372036854775807 := by omega
  clear h0 z3 z4 z5 hok
  have k0 := s2.eq.c0
  have k1 := s2.eq.c1
  have b0 : Below w2.heap.size w2 w2.drew := bel_drew (Below.refl _ _)
  have hz : ([] : List UInt8).length ≤ 10000000 := by simp
  go_wp2_with fail
  go_region_held (fun w' => w'.cell? ⟨w.heap.size, 0, none⟩ = some (.int .i64 x.a) ∧ w'.cell? ⟨w.heap.size, 1, none⟩ = some (.slice A n ca))
    (first | exact ⟨k0, k1⟩ | exact ⟨bcell b3 k0, bcell b3 k1⟩ | exact ⟨bcell b4 k0, bcell b4 k1⟩)
    (first
      | (go_at_call 83; refine (refPut_laid A3 l3.length c3 l3 (n : Int) w3 o3.rd hxn hl3).mono ?_; rintro e w4 ⟨u4, l4, H4, rfl, ⟨A4, c4, rfl, o4⟩, bb⟩; have b4 := below_chain b3 bb; clear bb)
      | (go_at_call 83; refine (refPut_laid none 0 0 [] x.a w2.drew (Rd.nil _) hx0 hz).mono ?_; rintro e w3 ⟨u3, l3, H3, rfl, ⟨A3, c3, rfl, o3⟩, bb⟩; have b3 := below_chain b0 bb; have hl3 : l3.length ≤ 10000000 := (by rw [H3.out, List.nil_append]; have := enc_le x.a hx0.1 hx0.2; omega); clear bb))
  have s4 := s2.below b4
  have L4 := Laid.lower (base' := w.heap.size) ⟨A4, c4, rfl, o4⟩ (Nat.le_trans s2.bel.size b3.size)
  have H5 : Hid (l4 = enc x.a ++ enc (x.es.length : Int) ++ evsE (x.es.take 0)) := Go.Lib.hid (by rw [H4.out, H3.out, LE.out]; simp [evsE])
  clear k0 k1 b0 b3 b4 o3 o4 hl3 s2
  generalize hv4 : Value.slice A4 l4.length c4 = v4 at *
  obtain ⟨A5, c5, rfl, o5⟩ := L4
  clear hv4
  go_wp2_with fail
  go_loopw [5, 6] (fun o i wr => ∃ (j : Nat) (A' : Option Addr) (c' : Nat) (l' : List UInt8), j ≤ n ∧ o = .slice A' l'.length c' ∧ i = .int .i64 j ∧ Hid (l' = enc x.a ++ enc (x.es.length : Int) ++ evsE (x.es.take j)) ∧ Own wr w.heap.size 5 A' l'.length c' l' ∧ BoxB wr w (.int .i64 x.a) (.slice A n ca)) (fun _ i _ => n - (intOf i).toNat)
  case atStart => exact ⟨0, A5, c5, l4, Nat.zero_le _, rfl, rfl, H5, o5, s4⟩
  case round =>
    obtain ⟨j, A', c', l', hj, rfl, rfl, HQ, oq, sq⟩ := hrel
    clear s4 o5 H5 H4 H3
    have k1 := sq.eq.c1
    by_cases hlt : j < n
    · obtain ⟨b, o, rfl, _, kt⟩ := rE.at_ (by omega)
      obtain ⟨A1, n1, c1, B1, m1, d1, x0, x1, x2, x3, r1, r2⟩ := (kt j hlt).below sq.bel
      have i2 : (j : Int) < n := by omega
      have hjl : j < x.es.length := by rw [LE.out]; exact hlt
      have hoe := oke _ (ev_get hjl)
      have HE0 := Go.Lib.hid (Z3.out _ (ev_get hjl))
      have HT := Go.Lib.hid (ev_take x.es j hjl)
      have hlq : l'.length ≤ 1000000 := by
        have h1 := evsE_le (es := x.es.take j) fun e he => Z3.out e (List.mem_of_mem_take he)
        have h2 : (x.es.take j).length ≤ 16 := by rw [List.length_take]; omega
        have h3 := enc_le x.a hx0.1 hx0.2
        have h4 := enc_le (x.es.length : Int) (by omega) (by rw [LE.out]; omega)
        rw [HQ.out]
        simp only [List.length_append]
        omega
      clear kt hjl
      generalize x.es.getD j noEv = ev at *
      have iv : IsEv wr (.agg #[.string ev.s, .string ev.t, .slice A1 n1 c1, .slice B1 m1 d1]) ev := ⟨_, _, _, _, _, _, rfl, r1, r2⟩
      go_wp2_with fail
      refine (refPutE_any A' l'.length c' l' _ ev wr oq.rd hlq iv hoe).mono ?_
      rintro e w6 ⟨hp, b6⟩
      have s6 := sq.below b6
      rcases hp with ⟨_, v7, rfl, L7⟩ | ⟨hne, _⟩
      · obtain ⟨A7, c7, rfl, o7⟩ := Laid.lower L7 sq.bel.size
        have H7 : Hid (l' ++ encE ev = enc x.a ++ enc (x.es.length : Int) ++ evsE (x.es.take (j + 1))) := Go.Lib.hid (by rw [HT.out, evsE_snoc, HQ.out]; simp only [List.append_assoc])
        clear x0 x1 x2 x3 r1 r2 iv k1 sq b6 HT HQ L7 oq
        generalize l' ++ encE ev = l7 at *
        go_wp2_with fail
        go_roundw
        case rel => exact ⟨j + 1, A7, c7, l7, by omega, rfl, by go_num, H7, o7, s6⟩
        case measure => simp [intOf]; omega
      · exact absurd HE0.out hne
    · obtain rfl : n = j := by omega
      have hes : l' = encX x := by rw [HQ.out, List.take_of_length_le (by rw [LE.out]; exact Nat.le_refl _)]; rfl
      have HP := Go.Lib.hid (fun (W : World) (e : Ending) (hb : Below w.heap.size w W) (A : Option Addr) (c : Nat) (he : e = .returned (.tuple #[.slice A l'.length c, .int .i64 0])) (hr : Rd W A l'.length c l') => (show PutXOut x w e W from ⟨hb, .inl ⟨H0.out, A, c, by rw [← hes]; exact he, by rw [← hes]; exact hr⟩⟩))
      clear hes
      go_wp2_with fail
      go_ret2
      exact HP.out _ _ sq.bel _ _ rfl oq.rd
structure TwoB (wr w : World) (a0 a1 b0 b1 : Value) : Prop where
  e0 : BxAt wr w.heap.size a0 a1
  e1 : BxAt wr (w.heap.size + 1) b0 b1
  bel : Below w.heap.size w wr
theorem TwoB.below {wr w w' : World} {a0 a1 b0 b1 : Value} (h : TwoB wr w a0 a1 b0 b1) (hb : Below wr.heap.size wr w') : TwoB w' w a0 a1 b0 b1 := ⟨h.e0.below hb, h.e1.below hb, below_chain h.bel hb⟩
theorem TwoB.new (w : World) (a0 a1 b0 b1 : Value) : TwoB ((w.alloc (.cells #[a0, a1] 39)).alloc (.cells #[b0, b1] 39)) w a0 a1 b0 b1 := by
  have e1 := BxAt.new w a0 a1
  have c1 := batch_bel w a0 a1
  generalize hw1 : w.alloc (.cells #[a0, a1] 39) = w1 at *
  have s1 : w1.heap.size = w.heap.size + 1 := by rw [← hw1]; simp
  have e2 := BxAt.new w1 b0 b1
  have c2 := batch_bel w1 b0 b1
  rw [s1] at e2
  exact ⟨e1.below c2, e2, below_chain c1 c2⟩
theorem bat_eq {a b : Bat} : a = b ↔ a.a = b.a ∧ a.es = b.es := by
  obtain ⟨x, l⟩ := a
  obtain ⟨y, m⟩ := b
  simp
set_option maxHeartbeats 4000000 in
set_option maxRecDepth 100000 in
theorem refSameX_any (v u : Value) (x y : Bat) (w : World) (hv : IsB w v x) (hu : IsB w u y) :
    Calls Tryz.prog 56 #[v, u] w fun e w' => ∃ R : Bool, (R = true ↔ x = y) ∧ e = .returned (.bool R) ∧ Below w.heap.size w w' := by
  obtain ⟨A, n, ca, rfl, rA⟩ := hv
  obtain ⟨B, m, cb, rfl, rB⟩ := hu
  obtain ⟨a, es⟩ := x
  obtain ⟨b, fs⟩ := y
  simp only at rA rB
  have hbe := @bat_eq ⟨a, es⟩ ⟨b, fs⟩
  simp only at hbe
  have HB := Go.Lib.hid hbe
  have s1 := TwoB.new w (.int .i64 a) (.slice A n ca) (.int .i64 b) (.slice B m cb)
  clear hbe
  go_enter Tryz.func56, Tryz.ntmps56
  go_upto_region 1 with (fail)
  generalize (w.alloc (.cells #[.int .i64 a, .slice A n ca] 39)).alloc (.cells #[.int .i64 b, .slice B m cb] 39) = w1 at *
  have k1 := s1.e0.c1
  have j1 := s1.e1.c1
  go_wp2_with fail
  refine (refSameAll_any A B n m ca cb es fs w1 (rA.below s1.bel) (rB.below s1.bel)).mono ?_
  rintro e w2 ⟨R, hR, rfl, b2⟩
  have s2 := s1.below b2
  have HR := Go.Lib.hid hR
  clear hR k1 j1 s1 b2
  have k0 := s2.e0.c0
  have j0 := s2.e1.c0
  by_cases hab : a = b
  · subst hab
    go_wp2_with fail
    go_ret
    exact ⟨R, by rw [HB.out, HR.out]; simp, rfl, s2.bel⟩
  · have i1 : (a == b) = false := by rw [beq_eq_false_iff_ne]; exact hab
    have HN := Go.Lib.hid hab
    clear hab
    go_wp2_with fail
    go_ret
    exact ⟨false, ⟨(fun h => by cases h), fun h => absurd (HB.out.1 h).1 HN.out⟩, rfl, s2.bel⟩
end Go.Proofs.YtppidbdkejkopaaGreatDoor.BtWalk
namespace Go.Proofs.YtppidbdkejkopaaGreatDoor.BtWalk
open Go.RowKit MemRow Ev NameMath NameWalk EvWalk NumMath NumMem NumWalk EcWalk EdWalk EeLaw
structure RtAt (R : TypeId) (wr w : World) (g : Nat) (l : List UInt8) (b : Bool) (gx : Nat) (a : Int) (A : Option Addr) (n c : Nat) (es : List Ev) : Prop where
  rd : Rdr wr R g l b
  res : BxAt wr w.heap.size (.int .i64 0) (.slice none 0 0)
  bx : BxAt wr gx (.int .i64 a) (.slice A n c)
  own : OwnE wr (gx + 1) A n c es
  bel : Below w.heap.size w wr
  hw : w.heap.size < g
  hg : g < gx
section
variable {R : TypeId} {wr w w' : World} {g gx n c : Nat} {l l' : List UInt8} {b b' : Bool} {a : Int} {A : Option Addr} {es : List Ev}
theorem RtAt.read (h : RtAt R wr w g l b gx a A n c es) (hr : Rdr w' R g l' b') (hg : wr.grownBy w' (some g)) : RtAt R w' w g l' b' gx a A n c es := by
  have h1 := h.hw
  have h2 := h.hg
  exact ⟨hr, h.res.grown hg (by simp; omega), h.bx.grown hg (by simp; omega), h.own.off hg (by omega), h.bel.grown hg h.bel.size (by rintro q ⟨rfl⟩; omega), h1, h2⟩
theorem RtAt.below (h : RtAt R wr w g l b gx a A n c es) (hb : Below wr.heap.size wr w') : RtAt R w' w g l b gx a A n c es :=
  ⟨h.rd.below hb, h.res.below hb, h.bx.below hb, h.own.below hb, below_chain h.bel hb, h.hw, h.hg⟩
theorem RtAt.drew (h : RtAt R wr w g l b gx a A n c es) : RtAt R wr.drew w g l b gx a A n c es := h.below (bel_drew (Below.refl _ _))
theorem RtAt.more {cs : List Value} {e : Ev} {T F : Option Addr} {nT cT nF cF : Nat} {A' : Option Addr} {c' : Nat} {w8 : World} (h : RtAt R wr w g l b gx a A n c es) (ho : OwnC 4 wr (gx + 1) 69 A n c cs) (hl : es.length = n) (hc : EvsC wr (gx + 1) es cs)
    (o1 : OwnC 1 wr (gx + 1) 9 T nT cT (MemRow.strs e.tags)) (o2 : OwnC 2 wr (gx + 1) 132 F nF cF (flds e.fs))
    (ho8 : OwnC 4 w8 (gx + 1) 69 A' (n + 1) c' (cs ++ [.string e.s, .string e.t, .slice T nT cT, .slice F nF cF])) (hg : wr.grownBy w8 (A.map (·.block))) :
    w8.frozen? ⟨gx, 1, none⟩ = false ∧ w8.cell? ⟨gx, 1, none⟩ = some (.slice A n c) ∧ RtAt R (w8.setCell ⟨gx, 1, none⟩ (.slice A' (n + 1) c')) w g l b gx a A' (n + 1) c' (es ++ [e]) := by
  have h1 := h.hw
  have h2 := h.hg
  have low := fun r e => row_low ho (r := r) e
  have hF : ∀ k, k < gx + 1 → some k ≠ A.map (·.block) := fun k hk e => by have := low k e.symm; omega
  have e8 := h.bx.grown hg (hF _ (by omega))
  have hs := grown_set w8 gx 1 (.slice A' (n + 1) c')
  have oe := OwnE.more ho hl hc o1 o2 ho8 hg
  refine ⟨e8.frozen 1, e8.c1, rdr_apart (rdr_apart h.rd hg fun r e => by have := low r e; omega) hs (fun r e => by injection e; omega), (h.res.grown hg (hF _ (by omega))).far (by omega) _, e8.set1 _, oe.off hs (by omega), ?_, h1, h2⟩
  exact (h.bel.grown hg h.bel.size (fun r e => by have := low r e; omega)).setCell (by show w.heap.size ≤ gx; omega) _
theorem RtAt.fin (h : RtAt R wr w g l b gx a A n c es) (x y : Value) (w9 : World) (h9 : w9 = (wr.setCell ⟨w.heap.size, 0, none⟩ x).setCell ⟨w.heap.size, 1, none⟩ y) : BxAt w9 w.heap.size x y ∧ OwnE w9 w.heap.size A n c es ∧ Below w.heap.size w w9 := by
  subst h9
  have h1 := h.hw
  have h2 := h.hg
  exact ⟨h.res.all x y, ((h.own.off (grown_set wr _ 0 x) (by omega)).off (grown_set _ _ 1 y) (by omega)).lower (by omega), (h.bel.setCell (Nat.le_refl _) x).setCell (Nat.le_refl _) y⟩
end
theorem evOk_may {e : Ev} (h : mayE e = 0) : EvOk e := by
  have sm := may_smallE h
  have hm : 100 ≤ maxLen := by unfold maxLen; omega
  exact ⟨Nat.le_trans (by have := sm.s; omega) hm, Nat.le_trans (by have := sm.t; omega) hm, fun x hx => Nat.le_trans (by have := sm.tags x hx; omega) hm, fun f hf => Nat.le_trans (by have := sm.names f hf; omega) hm, fun f hf => by have := sm.nums f hf; omega⟩
set_option maxHeartbeats 8000000 in
set_option maxRecDepth 100000 in
theorem refTakeX_any (A0 : Option Addr) (n0 cap0 : Nat) (l : List UInt8) (w : World) (h : Rd w A0 n0 cap0 l) (hl : l.length ≤ 1000000) :
    Calls Tryz.prog 74 #[.slice A0 n0 cap0] w (TakeXOut l w) := by
  have HL := Go.Lib.hid h.len
  have hn0 : n0 ≤ 1000000 := by rw [← HL.out]; exact hl
  have e1 := BxAt.new w (.int .i64 0) (.slice none 0 0)
  have b1 := batch_bel w (.int .i64 0) (.slice none 0 0)
  have s1 : (w.alloc (.cells #[.int .i64 0, .slice none 0 0] 39)).heap.size = w.heap.size + 1 := by simp
  go_enter Tryz.func74, Tryz.ntmps74
  go_upto_region 1 with (fail)
  generalize w.alloc (.cells #[.int .i64 0, .slice none 0 0] 39) = w1 at *
  have h1 := h.below b1
  have S1 := Go.Lib.hid s1
  clear s1
  have bc : Below w1.heap.size w1 (w1.alloc (.cells #[] 5)) := (Below.refl _ _).alloc (Nat.le_refl _) _
  have r9 := h1.below bc
  go_upto_region 2 with (at_builtin; refine wpList_append_fresh rfl (.tmp 12) (.tmp 13) 58 rfl 5 Tryz.underlying58 u8_info rfl rfl (Own.empty w1 5 (Nat.le_refl _)) r9 (by omega) bc.size w1 bc ?_; intro A9 c9 w9 o9 b9)
  have be : Below w9.heap.size w9 (w9.alloc (.cells #[.slice A9 n0 c9, .bool false] 141)) := (Below.refl _ _).alloc (Nat.le_refl _) _
  have hy : Rdr (w9.alloc (.cells #[.slice A9 n0 c9, .bool false] 141)) 141 w9.heap.size l false := ⟨_, _, _, heap_alloc_new w9 _, o9.rd.below be, fun a h => by subst h; exact (World.ownsRow.lt o9 a.block rfl).2⟩
  have b10 := below_chain b9 be
  have s89 := b9.size
  have s10 : w9.heap.size < (w9.alloc (.cells #[.slice A9 n0 c9, .bool false] 141)).heap.size := by simp
  generalize w9.alloc (.cells #[.slice A9 n0 c9, .bool false] 141) = w10 at *
  generalize w9.heap.size = g at *
  have hwg : w.heap.size < g := by have := S1.out; omega
  have e10 := e1.below b10
  have B10 := below_chain b1 b10
  clear o9 b9 r9 bc be h1 e1 b1 S1 b10 s89
  go_wp2_with fail
  refine (refNum_any g l false w10 hy).mono ?_
  rintro e w11 ⟨rfl, r11, g11⟩
  have e11 := e10.grown g11 (by simp; omega)
  have B11 := B10.grown g11 B10.size (by rintro q ⟨rfl⟩; omega)
  have s11 : g < w11.heap.size := Nat.lt_of_lt_of_le s10 g11.size
  clear hy e10 B10 g11 s10
  have bx := batch_bel w11 (.int .i64 (numV l)) (.slice none 0 0)
  have t12 : RtAt 141 (w11.alloc (.cells #[.int .i64 (numV l), .slice none 0 0] 39)) w g (numL l) (numB l false) w11.heap.size (numV l) none 0 0 [] :=
    ⟨r11.below bx, e11.below bx, BxAt.new w11 _ _, OwnE.nil _ _, below_chain B11 bx, hwg, s11⟩
  clear bx r11 e11 B11
  have hA0 := numV_range l
  go_upto_region 3 with (fail)
  generalize w11.alloc (.cells #[.int .i64 (numV l), .slice none 0 0] 39) = w12 at *
  generalize w11.heap.size = gx at *
  go_wp2_with fail
  refine (refNum_any g (numL l) (numB l false) w12 t12.rd).mono ?_
  rintro e w13 ⟨rfl, r13, g13⟩
  have t13 := t12.read r13 g13
  clear t12 r13 g13
  have hN := numV_range (numL l)
  have HT : Hid (∀ es r, takeEs (min (numV (numL l)) 17).toNat (numL (numL l)) (numB (numL l) (numB l false)) = some (es, r) → takeX l = if mayX ⟨numV l, es⟩ = 0 ∧ encX ⟨numV l, es⟩ = l then some ⟨numV l, es⟩ else none) := Go.Lib.hid fun es r h => by unfold takeX; rw [h]
  have HN : Hid (takeEs (min (numV (numL l)) 17).toNat (numL (numL l)) (numB (numL l) (numB l false)) = none → takeX l = none) := Go.Lib.hid fun h => by unfold takeX; rw [h]
  generalize numV l = a at *
  generalize numV (numL l) = n at *
  generalize hl2 : numL (numL l) = l2 at *
  generalize hb2 : numB (numL l) (numB l false) = b2 at *
  generalize hK : (min n 17).toNat = K at *
  clear hl2 hb2
  go_upto_block 0 with (fail)
  go_cut [7, 8, 9] (fun _ _ _ wx => ∃ (A : Option Addr) (c : Nat) (es : List Ev) (l' : List UInt8) (b' : Bool), Hid (takeEs K l2 b2 = some (es, l')) ∧ RtAt 141 wx w g l' b' gx a A K c es)
  case first =>
    go_wp2_with fail
    go_loopw [7, 8, 9] (fun i _ _ wr => ∃ (j : Nat) (A : Option Addr) (c : Nat) (es : List Ev) (l' : List UInt8) (b' : Bool), j ≤ K ∧ i = .int .i64 j ∧ Hid (takeEs K l2 b2 = (takeEs (K - j) l' b').map fun q => (es ++ q.1, q.2)) ∧ RtAt 141 wr w g l' b' gx a A j c es) (fun i _ _ _ => K - (intOf i).toNat)
    case atStart => exact ⟨0, none, 0, [], l2, b2, Nat.zero_le _, rfl, Go.Lib.hid (by simp), t13⟩
    case round =>
      obtain ⟨j, A, c, es, l', b', hj, rfl, HQ, tr⟩ := hrel
      clear t13
      by_cases hlt : j < K
      · have i1 : (j : Int) < n := by omega
        have i2 : (j : Int) ≤ 16 := by omega
        obtain ⟨k, hk⟩ : ∃ k, K - j = k + 1 := ⟨K - j - 1, by omega⟩
        have hk' : K - (j + 1) = k := by omega
        rw [hk] at HQ
        have HK := Go.Lib.hid hk'
        clear hk hk'
        go_wp2_with fail
        refine (refTake_any g l' b' wr tr.rd).mono ?_
        rintro e w2 ⟨gg, hT⟩
        rcases hT with ⟨ev, l'', htk, v, rfl, hv, r2⟩ | ⟨htk, hno, l'', b'', r2⟩
        · obtain ⟨T, nT, cT, F, nF, cF, rfl, o1, o2⟩ := hv
          have hq : takeEs K l2 b2 = (takeEs (K - (j + 1)) l'' false).map fun q => ((es ++ [ev]) ++ q.1, q.2) := by
            rw [HQ.out, takeEs_go htk, HK.out]
            simp [Option.map_map, Function.comp_def]
          have HQ2 := Go.Lib.hid hq
          have t2 := tr.read r2 gg
          have hgx : gx + 1 ≤ wr.heap.size := tr.bx.lt
          have al : Below w2.heap.size w2 (w2.alloc (.cells #[.string ev.s, .string ev.t, .slice T nT cT, .slice F nF cF] 69)) := (Below.refl _ _).alloc (Nat.le_refl _) _
          have e3 := EvAt.new w2 (.string ev.s) (.string ev.t) (.slice T nT cT) (.slice F nF cF)
          have t3 := t2.below al
          have o1' := own_lower (OwnC.below o1 al) (base' := gx + 1) hgx
          have o2' := own_lower (OwnC.below o2 al) (base' := gx + 1) hgx
          clear tr t2 r2 gg o1 o2 al hq htk HQ
          go_upto_region 8 with (fail)
          generalize w2.alloc (.cells #[.string ev.s, .string ev.t, .slice T nT cT, .slice F nF cF] 69) = w3 at *
          have k0 := e3.c0
          have k1 := e3.c1
          have k2 := e3.c2
          have k3 := e3.c3
          have q1 := t3.bx.c1
          have al4 : Below w3.heap.size w3 (w3.alloc (.cells #[.string ev.s, .string ev.t, .slice T nT cT, .slice F nF cF] 69)) := (Below.refl _ _).alloc (Nat.le_refl _) _
          have t4 := t3.below al4
          obtain ⟨cs, oc, hlen, hc⟩ := t4.own
          have p1 := OwnC.below o1' al4
          have p2 := OwnC.below o2' al4
          have big : gx + 1 ≤ (w3.alloc (.cells #[.string ev.s, .string ev.t, .slice T nT cT, .slice F nF cF] 69)).heap.size := t4.bx.lt
          have d4 : RdC 4 (w3.alloc (.cells #[.string ev.s, .string ev.t, .slice T nT cT, .slice F nF cF] 69)) (some ⟨w3.heap.size, 0, none⟩) 1 1 [.string ev.s, .string ev.t, .slice T nT cT, .slice F nF cF] := RdC.new w3 69 [.string ev.s, .string ev.t, .slice T nT cT, .slice F nF cF] rfl (by decide)
          have one : ∀ v ∈ ([.string ev.s, .string ev.t, .slice T nT cT, .slice F nF cF] : List Value), v.oneCell' = true := by
            intro v hv
            simp only [List.mem_cons, List.not_mem_nil, or_false] at hv
            rcases hv with rfl | rfl | rfl | rfl <;> rfl
          have h63 : j + 1 ≤ maxLen := by unfold maxLen; omega
          have hsz : (j + 1) * 80 ≤ 140737488355328 := by omega
          clear t3 o1' o2' al4 e3
          go_wp2_with (at_builtin; refine wpList_append_cells rfl (.tmp 40) (.tmp 42) 37 rfl 69 (.agg #[.string ⟨#[]⟩, .string ⟨#[]⟩, .slice none 0 0, .slice none 0 0]) 80 Tryz.underlying37 event_info rfl (by decide) rfl rfl oc d4 one h63 hsz big ?_; intro A8 c8 w8 o8 g8 _; obtain ⟨z8, y8, n8⟩ := t4.more oc hlen hc p1 p2 o8 g8)
          go_roundw
          case rel => exact ⟨j + 1, A8, c8, es ++ [ev], l'', false, by omega, by go_num, HQ2, n8⟩
          case measure => simp [intOf]; omega
        · obtain rfl := hno
          have hnone : takeX l = none := HN.out (by rw [HQ.out, takeEs_none htk]; rfl)
          have HNONE := Go.Lib.hid hnone
          have t2 := tr.read r2 gg
          have al : Below w2.heap.size w2 (w2.alloc (.cells #[.string ⟨#[]⟩, .string ⟨#[]⟩, .slice none 0 0, .slice none 0 0] 69)) := (Below.refl _ _).alloc (Nat.le_refl _) _
          have t3 := t2.below al
          clear tr t2 r2 gg al htk HQ hnone
          go_upto_region 8 with (fail)
          generalize w2.alloc (.cells #[.string ⟨#[]⟩, .string ⟨#[]⟩, .slice none 0 0, .slice none 0 0] 69) = w3 at *
          have q0 := t3.res.c0
          have q1 := t3.res.c1
          have z0 := t3.res.frozen 0
          have z1 := t3.res.frozen 1
          have HFIN := Go.Lib.hid (t3.fin (.int .i64 0) (.slice none 0 0) _ rfl)
          go_wp2_with fail
          obtain ⟨E9, _, B9⟩ := HFIN.out
          generalize ((w3.setCell ⟨w.heap.size, 0, none⟩ (.int .i64 0)).setCell ⟨w.heap.size, 1, none⟩ (.slice none 0 0)) = w9 at *
          have y0 := E9.c0
          have y1 := E9.c1
          exact bodyPost_ret (v := .tuple #[.agg #[.int .i64 0, .slice none 0 0], .int .i64 2]) (by simp [results, Tryz.results74, go_sem, y0, y1]) rfl ⟨B9, .inr ⟨HNONE.out, rfl⟩⟩
      · obtain rfl : K = j := by omega
        have hq : takeEs K l2 b2 = some (es, l') := by
          rw [HQ.out, Nat.sub_self]
          simp [takeEs]
        have HQQ := Go.Lib.hid hq
        clear hq HQ HT HN
        by_cases hjn : (K : Int) < n
        · have i2 : ¬ (K : Int) ≤ 16 := by omega
          go_wp2_with fail
          go_meet
          exact ⟨A, c, es, l', b', HQQ, tr⟩
        · go_wp2_with fail
          go_meet
          exact ⟨A, c, es, l', b', HQQ, tr⟩
  case rest =>
    obtain ⟨A, c, es, l', b', HQ, tr⟩ := hcut
    clear t13
    have HX := Go.Lib.hid (HT.out es l' HQ.out)
    have hev := (takeEs_canon _ _ _ _ _ HQ.out).2.2.1
    have hbk : BOk ⟨a, es⟩ := ⟨fun e he => evOk_may (hev e he), hA0⟩
    have y0 := tr.bx.c0
    have y1 := tr.bx.c1
    have iv : IsB wc (.agg #[.int .i64 a, .slice A K c]) ⟨a, es⟩ := ⟨_, _, _, rfl, tr.own.rd⟩
    clear hev HQ HT HN
    go_wp2_with fail
    refine (refPutX_any _ ⟨a, es⟩ wc iv hbk).mono ?_
    rintro e w2 ⟨b2', hp⟩
    have t2 := tr.below b2'
    have r2 := h.below t2.bel
    clear y0 y1 iv tr b2'
    rcases hp with ⟨h0, A7, c7, rfl, o7⟩ | ⟨h0, rfl⟩
    · have rc := rd_str o7
      have rb := rd_str r2
      have y0 := t2.bx.c0
      have y1 := t2.bx.c1
      have q0 := t2.res.c0
      have q1 := t2.res.c1
      have z0 := t2.res.frozen 0
      have z1 := t2.res.frozen 1
      by_cases hx : encX ⟨a, es⟩ = l
      · have HY := Go.Lib.hid ((HX.out).trans (if_pos ⟨h0, hx⟩))
        rw [hx] at rc ⊢
        have HFIN := Go.Lib.hid (t2.fin (.int .i64 a) (.slice A K c) _ rfl)
        clear hx HX h0 t2 r2 o7
        go_wp2_with fail
        obtain ⟨E9, O9, B9⟩ := HFIN.out
        generalize ((w2.setCell ⟨w.heap.size, 0, none⟩ (.int .i64 a)).setCell ⟨w.heap.size, 1, none⟩ (.slice A K c)) = w9 at *
        have y0 := E9.c0
        have y1 := E9.c1
        exact bodyPost_ret (v := .tuple #[.agg #[.int .i64 a, .slice A K c], .int .i64 0]) (by simp [results, Tryz.results74, go_sem, y0, y1]) rfl ⟨B9, .inl ⟨_, _, _, _, HY.out, rfl, O9⟩⟩
      · have HY := Go.Lib.hid ((HX.out).trans (if_neg (fun hc => hx hc.2)))
        have hne := bytes_ne hx
        have HFIN := Go.Lib.hid (t2.fin (.int .i64 0) (.slice none 0 0) _ rfl)
        clear hx HX h0 t2 r2 o7
        generalize encX ⟨a, es⟩ = le at *
        go_wp2_with fail
        obtain ⟨E9, _, B9⟩ := HFIN.out
        generalize ((w2.setCell ⟨w.heap.size, 0, none⟩ (.int .i64 0)).setCell ⟨w.heap.size, 1, none⟩ (.slice none 0 0)) = w9 at *
        have y0 := E9.c0
        have y1 := E9.c1
        exact bodyPost_ret (v := .tuple #[.agg #[.int .i64 0, .slice none 0 0], .int .i64 2]) (by simp [results, Tryz.results74, go_sem, y0, y1]) rfl ⟨B9, .inr ⟨HY.out, rfl⟩⟩
    · have HY := Go.Lib.hid ((HX.out).trans (if_neg (fun hc => h0 hc.1)))
      have hne : (mayX ⟨a, es⟩ != 0) = true := by rw [bne_iff_ne]; exact h0
      have q0 := t2.res.c0
      have q1 := t2.res.c1
      have z0 := t2.res.frozen 0
      have z1 := t2.res.frozen 1
      have HFIN := Go.Lib.hid (t2.fin (.int .i64 0) (.slice none 0 0) _ rfl)
      clear HX h0 t2 r2
      generalize mayX ⟨a, es⟩ = M at *
      go_wp2_with fail
      obtain ⟨E9, _, B9⟩ := HFIN.out
      generalize ((w2.setCell ⟨w.heap.size, 0, none⟩ (.int .i64 0)).setCell ⟨w.heap.size, 1, none⟩ (.slice none 0 0)) = w9 at *
      have y0 := E9.c0
      have y1 := E9.c1
      exact bodyPost_ret (v := .tuple #[.agg #[.int .i64 0, .slice none 0 0], .int .i64 2]) (by simp [results, Tryz.results74, go_sem, y0, y1]) rfl ⟨B9, .inr ⟨HY.out, rfl⟩⟩
end Go.Proofs.YtppidbdkejkopaaGreatDoor.BtWalk
namespace Go.Proofs.YtppidbdkejkopaaGreatDoor.FrWalk
open Go.RowKit Go.ChangeShapes Go.WideShapes Go.Joins Go.Deep MemRow NumMem Go.Proofs.YtppidbdkejkopaaGreatDoor.Open
def BsCell (w : World) (b o : Nat) (x : List UInt8) : Prop := ∃ A n ca, w.cell? ⟨b, o, none⟩ = some (.slice A n ca) ∧ Rd w A n ca x
theorem BsCell.below {w w' : World} {b o : Nat} {x : List UInt8} (h : BsCell w b o x) (hb : Below w.heap.size w w') : BsCell w' b o x := by
  obtain ⟨A, n, ca, h0, h1⟩ := h
  exact ⟨A, n, ca, bcell hb h0, h1.below hb⟩
def RdB (w : World) (A : Option Addr) (n cap : Nat) (xs : List (List UInt8)) : Prop :=
  xs.length = n ∧ n ≤ cap ∧ cap ≤ maxLen ∧ (0 < n → ∃ b o, A = some ⟨b, o, none⟩ ∧ b < w.heap.size ∧ ∀ i, i < n → BsCell w b (o + i) (xs.getD i []))
section
variable {w w' : World} {A : Option Addr} {n cap : Nat} {xs : List (List UInt8)}
theorem RdB.nil (w : World) : RdB w none 0 0 [] := ⟨rfl, Nat.le_refl _, Nat.zero_le _, fun h => absurd h (by omega)⟩
theorem RdB.len (h : RdB w A n cap xs) : xs.length = n := h.1
theorem RdB.le_cap (h : RdB w A n cap xs) : n ≤ cap := h.2.1
theorem RdB.le (h : RdB w A n cap xs) : n ≤ maxLen := Nat.le_trans h.2.1 h.2.2.1
theorem RdB.at_ (h : RdB w A n cap xs) (hn : 0 < n) : ∃ b o, A = some ⟨b, o, none⟩ ∧ b < w.heap.size ∧ ∀ i, i < n → BsCell w b (o + i) (xs.getD i []) := h.2.2.2 hn
theorem RdB.below (h : RdB w A n cap xs) (hb : Below w.heap.size w w') : RdB w' A n cap xs :=
  ⟨h.1, h.2.1, h.2.2.1, fun hn => by
    obtain ⟨b, o, hA, hlt, hc⟩ := h.2.2.2 hn
    exact ⟨b, o, hA, Nat.lt_of_lt_of_le hlt hb.size, fun i hi => (hc i hi).below hb⟩⟩
theorem RdB.first (h : RdB w A n cap xs) {m : Nat} (hm : m ≤ n) : RdB w A m cap (xs.take m) :=
  ⟨by rw [List.length_take, h.1]; omega, Nat.le_trans hm h.2.1, h.2.2.1, fun hn => by
    obtain ⟨b, o, hA, hlt, hc⟩ := h.2.2.2 (by omega)
    refine ⟨b, o, hA, hlt, fun i hi => ?_⟩
    have e : (xs.take m).getD i [] = xs.getD i [] := by
      simp only [List.getD]
      rw [List.getElem?_take_of_lt hi]
    rw [e]
    exact hc i (by omega)⟩
end
section
variable {H : Type} {enc : TypeId × Value → H} {P : Program} {W : World} {base : Nat} {t e u : TypeId} {v : Value} {d : DataW H} {p : List MemPlace}
theorem tr_byt {fuel : Nat} {y : DataW H × List MemPlace} (ht : P.underlying t = some (.slice e)) (he : P.underlying e = some (.int .u8)) (hce : P.cellsOf e = 1) (h : DataW.trod enc P W 0 (fun _ => true) true fuel t [v] = some y) :
    ∃ (A : Option Addr) (n cap : Nat) (l : List UInt8), v = .slice A n cap ∧ Rd W A n cap l := by
  rcases open_ints ht he hce h with ⟨hcs, _⟩ | ⟨x, l, c, zs, hcs, _, hl, hm, hz, _, hcell, hwz⟩
  · simp only [List.cons.injEq, and_true] at hcs
    subst hcs
    exact ⟨none, 0, 0, [], rfl, Rd.nil W⟩
  · simp only [List.cons.injEq, and_true] at hcs
    subst hcs
    have hz' : zs.length = c := by simpa using hz
    have hs := sl_of (W := W) (f := fun i => .int .u8 (zs.getD i 0)) hl hm (by rw [← hz']; exact hcell)
    refine ⟨_, _, _, (zs.take l).map fun z => UInt8.ofNat z.toNat, rfl, by simp; omega, hs.1, hs.2.1, fun hn => ?_⟩
    obtain ⟨b, o, hA, hc⟩ := hs.2.2 hn
    refine ⟨b, o, hA, fun i hi => ?_⟩
    have hi' : i < zs.length := by omega
    have hi2 : i < (zs.take l).length := by rw [List.length_take]; omega
    have hb := bounds_u8 (hwz zs[i] (List.getElem_mem hi'))
    rw [hc i hi]
    simp only [List.getD, List.getElem?_map, List.getElem?_eq_getElem hi', List.getElem?_eq_getElem hi2, Option.map_some, Option.getD_some, List.getElem_take]
    congr 2
    have : zs[i].toNat < 256 := by omega
    simp [Nat.mod_eq_of_lt this]
    omega
theorem tr_rows {fuel : Nat} {y : DataW H × List MemPlace} (ht : P.underlying t = some (.slice e)) (he : P.underlying e = some (.slice u)) (ce : P.cellsOf e = 1) (hu : P.underlying u = some (.int .u8)) (cu : P.cellsOf u = 1)
    (h : DataW.trod enc P W 0 (fun _ => true) true fuel t [v] = some y) : ∃ A n ca xs, v = .slice A n ca ∧ RdB W A n ca xs := by
  rcases open_slice ht h with ⟨hcs, _⟩ | ⟨a, l, c, m, nn, D, Pl, hcs, _, hl, hm, hmm, _, hx⟩
  · simp only [List.cons.injEq, and_true] at hcs
    subst hcs
    exact ⟨none, 0, 0, [], rfl, RdB.nil W⟩
  · simp only [List.cons.injEq, and_true] at hcs
    subst hcs
    have hm' : m = c := by simpa using hmm
    subst hm'
    have each : ∀ i, i < m → ∃ x : List UInt8, ∃ A n ca, W.cell? (a.add i) = some (.slice A n ca) ∧ Rd W A n ca x := by
      intro i hi
      obtain ⟨cs', h1, h2⟩ := hx i hi
      rw [ce] at h1
      obtain ⟨_, hlen, hcell⟩ := World.cells?_some h1
      match cs', hlen with
      | [v0], _ =>
        have e0 := hcell 0 (by omega)
        rw [add_add] at e0
        obtain ⟨A, n, ca, x, rfl, r⟩ := tr_byt he hu cu h2
        exact ⟨x, A, n, ca, by simpa using e0, r⟩
    have hex : ∃ F : Nat → List UInt8, ∀ i, i < m → ∃ A n ca, W.cell? (a.add i) = some (.slice A n ca) ∧ Rd W A n ca (F i) :=
      ⟨fun i => if hi : i < m then (each i hi).choose else [], fun i hi => by simp only [hi, dif_pos]; exact (each i hi).choose_spec⟩
    obtain ⟨F, hF'⟩ := hex
    refine ⟨_, l, m, (List.range l).map F, rfl, ⟨by simp, hl, hm, fun hn => ?_⟩⟩
    obtain ⟨_, _, _, hc0, _⟩ := hF' 0 (by omega)
    have e0 := spot_none hc0
    have hb := World.block_lt_of_cell? W _ hc0
    rw [e0, add_at] at hb
    refine ⟨a.block, a.off, by rw [← e0], hb, fun i hi => ?_⟩
    have hFj : ((List.range l).map F).getD i [] = F i := by simp [List.getD, hi]
    rw [hFj]
    obtain ⟨A, n, ca, h0, r⟩ := hF' i (by omega)
    rw [e0, add_at] at h0
    exact ⟨A, n, ca, h0, r⟩
end
section
variable {H : Type} {enc : TypeId × Value → H}
set_option maxRecDepth 100000 in
theorem op_rows {W : World} {base : Nat} {v : Value} {d : DataW H} {p : List MemPlace} (ho : Value.okWide Tryz.prog W .any base 57 v) (h : DataW.Trod enc Tryz.prog W 0 (fun _ => true) true 57 v d p) :
    ∃ A n ca xs, v = .slice A n ca ∧ RdB W A n ca xs := by
  obtain ⟨a, len, cap, rfl⟩ := okWide_slice Tryz.underlying57 ho
  obtain ⟨fuel, hf⟩ := h
  exact tr_rows Tryz.underlying57 Tryz.underlying58 (by kernel_rfl) Tryz.underlying5 (by kernel_rfl) hf
end
end Go.Proofs.YtppidbdkejkopaaGreatDoor.FrWalk
namespace Go.Proofs.YtppidbdkejkopaaGreatDoor.CrcWalk
open Go.RowKit CrcMath
theorem ret_int {k : IntKind} {a b : Int} (h : a = b) : Ending.returned (.int k a) = .returned (.int k b) := by rw [h]
theorem ret_bool {a b : Bool} (h : a = b) : Ending.returned (.bool a) = .returned (.bool b) := by rw [h]
def steps : Nat → Nat → Nat
  | 0, x => x
  | k + 1, x => stepB (steps k x)
theorem steps_lt (k : Nat) {x : Nat} (h : x < 4294967296) : steps k x < 4294967296 := by
  induction k with
  | zero => exact h
  | succ k ih => exact step_lt _ ih
theorem steps_8 (x : Nat) : steps 8 x = step8 x := rfl
theorem low_and (x : Nat) (h : x < 4294967296) : bits .and .u32 (x : Int) 1 = ((x % 2 : Nat) : Int) := by
  have e := u32_and_nat x 1 h (by decide)
  rw [Nat.and_one_is_mod] at e
  exact e
theorem xor_poly (x : Nat) (h : x < 4294967296) : bits .xor .u32 ((x : Int) / 2) 3988292384 = ((x / 2 ^^^ poly : Nat) : Int) := by
  have e := u32_xor_nat (x / 2) poly (by omega) (by decide)
  rw [show (((x / 2 : Nat) : Int)) = (x : Int) / 2 from by omega] at e
  exact e
theorem step_odd {x : Nat} (h : x % 2 = 1) : stepB x = x / 2 ^^^ poly := by unfold stepB; rw [if_pos h]
theorem step_evn {x : Nat} (h : ¬ x % 2 = 1) : stepB x = x / 2 := by unfold stepB; rw [if_neg h, Nat.xor_zero]
set_option maxHeartbeats 400000 in
set_option maxRecDepth 100000 in
theorem entry_any (i : Nat) (w : World) (hi : i < 4294967296) :
    Calls Tryz.prog 66 #[.int .u32 (i : Int)] w fun e w' => e = .returned (.int .u32 (step8 i : Nat)) ∧ w = w' := by
  go_enter Tryz.func66, Tryz.ntmps66
  go_wp2
  go_loop [0, 4] (fun r c => ∃ k : Nat, k ≤ 8 ∧ r = .int .u32 ((steps k i : Nat) : Int) ∧ c = .int .i64 k) (fun _ c => 8 - (intOf c).toNat)
  case atStart => exact ⟨0, by omega, rfl, rfl⟩
  case round =>
    obtain ⟨k, hk, rfl, rfl⟩ := hrel
    by_cases hlt : k < 8
    · have hx := steps_lt k hi
      have hs : steps (k + 1) i = stepB (steps k i) := rfl
      have HS := Go.Lib.hid hs
      clear hs
      generalize steps k i = x at *
      have ea := low_and x hx
      by_cases hp : x % 2 = 1
      · have ea1 : bits .and .u32 (x : Int) 1 = 1 := by rw [ea, hp]; rfl
        have ex := xor_poly x hx
        have HP := Go.Lib.hid hp
        clear ea hp
        go_wp2
        go_round
        case rel => exact ⟨k + 1, by omega, by rw [HS.out, step_odd HP.out], by go_num⟩
        case measure => simp [intOf]; omega
      · have ea1 : bits .and .u32 (x : Int) 1 = 0 := by rw [ea]; omega
        have HP := Go.Lib.hid hp
        clear ea hp
        go_wp2
        go_round
        case rel => exact ⟨k + 1, by omega, by rw [HS.out, step_evn HP.out]; go_num, by go_num⟩
        case measure => simp [intOf]; omega
    · obtain rfl : k = 8 := by omega
      go_wp2
      go_ret
      exact ⟨by rw [steps_8]; rfl, rfl⟩
end Go.Proofs.YtppidbdkejkopaaGreatDoor.CrcWalk
namespace Go.Proofs.YtppidbdkejkopaaGreatDoor.CrcWalk
open Go.RowKit CrcMath NumMem
def part (k : Nat) : Array Value := ((List.range 256).map fun j => Value.int .u32 ((if j < k then step8 j else 0 : Nat) : Int)).toArray
theorem part_size (k : Nat) : (part k).size = 256 := by simp [part]
theorem part_get (k j : Nat) (h : j < 256) : (part k)[j]? = some (.int .u32 ((if j < k then step8 j else 0 : Nat) : Int)) := by
  simp [part, h]
theorem part_set (k : Nat) : (part k).setIfInBounds k (.int .u32 ((step8 k : Nat) : Int)) = part (k + 1) := by
  apply Array.ext_getElem?
  intro j
  rw [Array.getElem?_setIfInBounds]
  by_cases hj : j < 256
  · rw [part_get (k + 1) j hj]
    by_cases hkj : k = j
    · subst hkj
      rw [if_pos rfl, if_pos (by rw [part_size]; exact hj), if_pos (by omega)]
    · rw [if_neg hkj, part_get k j hj]
      by_cases h2 : j < k
      · rw [if_pos h2, if_pos (by omega)]
      · rw [if_neg h2, if_neg (by omega)]
  · have e1 : (part (k + 1))[j]? = none := Array.getElem?_eq_none (by rw [part_size]; omega)
    have e2 : (part k)[j]? = none := Array.getElem?_eq_none (by rw [part_size]; omega)
    rw [e1, e2]
    split <;> first | rfl | (rw [part_size]; rw [if_neg (by omega)])
theorem part_one (k : Nat) : (part k).all (·.oneCell') = true := by
  rw [Array.all_eq_true_iff_forall_mem]
  intro v hv
  simp [part] at hv
  obtain ⟨j, _, rfl⟩ := hv
  rfl
def tab : Array Value := part 256
theorem tab_size : tab.size = 256 := part_size 256
theorem tab_get (j : Nat) (h : j < 256) : tab[j]? = some (.int .u32 ((step8 j : Nat) : Int)) := by
  unfold tab
  rw [part_get 256 j h, if_pos h]
theorem tab_info : (Tryz.prog.info? 78).map (fun i => (i.zero, i.size)) = some (some (.agg (part 0)), 256) := by kernel_rfl
theorem below_setRow {B : Nat} {a w : World} (h : Below B a w) (g : Nat) (cs : Array Value) (hg : B ≤ g) : Below B a (w.setRow g cs) :=
  ⟨h.os, h.tape, h.output, by simpa using h.size, fun k hk => (setRow_other w g k cs (by omega)).trans (h.block k hk)⟩
set_option maxRecDepth 100000 in
set_option maxHeartbeats 1000000 in
theorem new_any (w : World) :
    Calls Tryz.prog 35 #[] w fun e w' => e = .returned (.agg tab) ∧ Below w.heap.size w w' := by
  obtain ⟨hz, hsz⟩ := zero_of_info tab_info
  go_enter Tryz.func35, Tryz.ntmps35
  go_wp2_with fail
  go_loopw [3] (fun i wr => ∃ k : Nat, k ≤ 256 ∧ i = .int .i64 k ∧ wr = (w.alloc (.cells (part 0) 78)).alloc (.cells (part k) 78)) (fun i _ => 256 - (intOf i).toNat)
  case atStart => exact ⟨0, by omega, rfl, rfl⟩
  case round =>
    obtain ⟨k, hk, rfl, rfl⟩ := hrel
    by_cases hlt : k < 256
    · have hg := part_get k k hlt
      have hs := part_set k
      have hs8 := step8_lt k (by omega)
      go_wp2_with (go_at_call 66; refine (entry_any k _ (by omega)).mono ?_; rintro e w' ⟨rfl, rfl⟩)
      go_roundw
      case rel => exact ⟨k + 1, by omega, by go_num, rfl⟩
      case measure => simp [intOf]; omega
    · obtain rfl : k = 256 := by omega
      rw [← part_size 256] at hsz
      have H1 := Go.Lib.hid hsz
      clear hsz
      go_wp2_with (first
        | (with_reducible refine wpList_load_row rfl 78 (.tmp 1) rfl (w.heap.size + 1) rfl 78 (part 256) (0, 0) _ (heap_alloc2_new w _ _) Tryz.underlying78 rfl H1.out ?_)
        | (with_reducible refine wpList_store_row rfl 78 (.tmp 0) (.tmp 12) rfl w.heap.size (part 256) rfl rfl 78 (part 0) (heap_alloc2_old w _ _) H1.out (by rw [part_size, part_size]) (part_one 256) ?_))
      exact bodyPost_ret_by (v := .agg (part 256)) (results_cell_row rfl _ _ w.heap.size 78 (part 256) (0, 0) _ rfl (setRow_heap _ _ _ _ _ _ (heap_alloc2_old w _ _)) Tryz.underlying78 rfl H1.out) rfl ⟨rfl, below_setRow (((Below.refl _ _).alloc (Nat.le_refl _) _).alloc (by simp) _) _ _ (Nat.le_refl _)⟩
end Go.Proofs.YtppidbdkejkopaaGreatDoor.CrcWalk
namespace Go.Proofs.YtppidbdkejkopaaGreatDoor.CrcWalk
open Go.RowKit CrcMath NumMem
theorem reg_take (r : Nat) (l : List UInt8) (k : Nat) (h : k < l.length) : reg r (l.take (k + 1)) = upd (reg r (l.take k)) (l.getD k 0).toNat := by
  rw [List.take_succ_eq_append_getElem h, reg_append]
  simp [reg, List.getD, h]
theorem low_byte (x c : Nat) (hc : c < 256) : bits .xor .u8 ((x : Int) % 256) (c : Int) = (((x ^^^ c) % 256 : Nat) : Int) := by
  have e : (x : Int) % 256 = ((x % 256 : Nat) : Int) := by omega
  rw [e, u8_xor_nat _ _ (by omega) hc]
  have h : (x ^^^ c) % 2 ^ 8 = x % 2 ^ 8 ^^^ c % 2 ^ 8 := Nat.xor_mod_two_pow
  have h2 : c % 2 ^ 8 = c := by omega
  rw [h2] at h
  congr 1
  exact h.symm
theorem upd_bits (x c j : Nat) (hx : x < 4294967296) (hc : c < 256) (hj : (x ^^^ c) % 256 = j) : bits .xor .u32 ((x : Int) / 256) ((step8 j : Nat) : Int) = ((upd x c : Nat) : Int) := by
  have h : j < 256 := by omega
  have h8 := step8_lt j (by omega)
  have e : (x : Int) / 256 = ((x / 256 : Nat) : Int) := by omega
  rw [e, u32_xor_nat _ _ (by omega) h8, upd_table x c hc, hj]
theorem inv_bits (x : Nat) (hx : x < 4294967296) : bits .xor .u32 IntKind.u32.max (x : Int) = ((x ^^^ ones : Nat) : Int) := by
  have e := u32_xor_nat ones x ones_lt hx
  rw [Nat.xor_comm] at e
  exact e
end Go.Proofs.YtppidbdkejkopaaGreatDoor.CrcWalk
