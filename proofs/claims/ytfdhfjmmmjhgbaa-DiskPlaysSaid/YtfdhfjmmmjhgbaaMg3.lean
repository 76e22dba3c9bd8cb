/-
  Contracts of the landed disk: mayHave, May, New, stands, begin, put, Used, Fuse.
-/
import Derived.Lib.ConvBytes
import Derived.Maps.OwnOps
import Derived.WalkSpells
import Derived.Lib.SliceRun
import Derived.Shelf.Sort.Plain
import Derived.Shelf.Slices.In.SortNone
import Derived.Shelf.SlIter.Nil
import Derived.Test.YtfdhfjmmmjhgbaaProg
import Derived.Lib.SmallJoins
import Derived.Deep.DeepCutAuto
import Derived.Deep.CutBlock
import Derived.Deep.QuietTactic
import Derived.BigQuiet
import Derived.Laws.Concat
import Derived.Deep.Strs
import Derived.Test.YtfdhfjmmmjhgbaaMg2
namespace Go.Proofs.Ytfdhfjmmmjhgbaa.DkWalk
open Go.RowKit Go.Maps Go.Proofs.Ytfdhfjmmmjhgbaa.MemRow Go.Proofs.Ytfdhfjmmmjhgbaa.Ev Go.Proofs.Ytfdhfjmmmjhgbaa.NameMath Go.Proofs.Ytfdhfjmmmjhgbaa.NameWalk Go.Proofs.Ytfdhfjmmmjhgbaa.EvWalk Go.Proofs.Ytfdhfjmmmjhgbaa.NumMem

/-! ### Names -/
set_option maxHeartbeats 4000000 in
set_option maxRecDepth 100000 in
theorem mayHave_any (c : UInt8) (w : World) : Calls Try.prog 44 #[.int .u8 (c.toNat : Int)] w fun e w' => e = .returned (.bool (chN c)) ∧ w = w' := by
  have hch : chN c = decide ((97 ≤ c.toNat ∧ c.toNat ≤ 122) ∨ (48 ≤ c.toNat ∧ c.toNat ≤ 57) ∨ c.toNat = 95) := rfl
  have hx := UInt8.toNat_lt c
  generalize chN c = b at *
  generalize c.toNat = x at *
  have HB := Go.Lib.hid hch
  clear hch
  have cases5 : (97 ≤ x ∧ x ≤ 122) ∨ 122 < x ∨ x < 48 ∨ (48 ≤ x ∧ x ≤ 57) ∨ (57 < x ∧ x < 97) := by omega
  rcases cases5 with ⟨h1, h2⟩ | h1 | h1 | ⟨h1, h2⟩ | ⟨h1, h2⟩
  · have hb : b = true := by rw [HB.out]; exact decide_eq_true (by omega)
    subst hb
    have k1 : (97 : Int) ≤ x := by omega
    have k2 : (x : Int) ≤ 122 := by omega
    go_enter Try.func44, Try.ntmps44
    go_wp2_with fail
    go_ret
    exact ⟨rfl, rfl⟩
  · have hb : b = false := by rw [HB.out]; exact decide_eq_false (by omega)
    subst hb
    have k1 : (97 : Int) ≤ x := by omega
    have k2 : ¬ (x : Int) ≤ 122 := by omega
    have k3 : (48 : Int) ≤ x := by omega
    have k4 : ¬ (x : Int) ≤ 57 := by omega
    have k6 : ((x : Int) == 95) = false := by rw [beq_eq_false_iff_ne]; omega
    go_enter Try.func44, Try.ntmps44
    go_wp2_with fail
    go_ret
    exact ⟨rfl, rfl⟩
  · have hb : b = false := by rw [HB.out]; exact decide_eq_false (by omega)
    subst hb
    have k1 : ¬ (97 : Int) ≤ x := by omega
    have k3 : ¬ (48 : Int) ≤ x := by omega
    have k6 : ((x : Int) == 95) = false := by rw [beq_eq_false_iff_ne]; omega
    go_enter Try.func44, Try.ntmps44
    go_wp2_with fail
    go_ret
    exact ⟨rfl, rfl⟩
  · have hb : b = true := by rw [HB.out]; exact decide_eq_true (by omega)
    subst hb
    have k1 : ¬ (97 : Int) ≤ x := by omega
    have k3 : (48 : Int) ≤ x := by omega
    have k4 : (x : Int) ≤ 57 := by omega
    go_enter Try.func44, Try.ntmps44
    go_wp2_with fail
    go_ret
    exact ⟨rfl, rfl⟩
  · have k1 : ¬ (97 : Int) ≤ x := by omega
    have k3 : (48 : Int) ≤ x := by omega
    have k4 : ¬ (x : Int) ≤ 57 := by omega
    by_cases h95 : x = 95
    · subst h95
      have hb : b = true := by rw [HB.out]; rfl
      subst hb
      go_enter Try.func44, Try.ntmps44
      go_wp2_with fail
      go_ret
      exact ⟨rfl, rfl⟩
    · have hb : b = false := by rw [HB.out]; exact decide_eq_false (by omega)
      subst hb
      have k6 : ((x : Int) == 95) = false := by rw [beq_eq_false_iff_ne]; omega
      go_enter Try.func44, Try.ntmps44
      go_wp2_with fail
      go_ret
      exact ⟨rfl, rfl⟩
theorem conv_text (s : ByteArray) (w : World) : ∃ c w2, (convert 9 33 (.string s)).run Try.prog w = .ok (.slice (some ⟨w.heap.size, 0, none⟩) s.size c) w2 ∧ Below w.heap.size w w2 ∧ ∀ j (hj : j < s.size), w2.cell? ⟨w.heap.size, j, none⟩ = some (.int .u8 ((s[j]'hj).toNat : Int)) := by
  refine ⟨_, _, Lib.run_convert_string_bytes w _ _ 5 s Try.underlying9 Try.underlying33 Try.underlying5, ⟨rfl, rfl, rfl, by rw [Lib.bytesWorld_size]; omega, fun k hk => Lib.bytesWorld_at_old w _ s k hk⟩, fun j hj => ?_⟩
  rw [Lib.bytesWorld_cell w _ s j hj]
  have hl : j < s.data.toList.length := by have := size_list s; omega
  rw [List.getD_eq_getElem?_getD, List.getElem?_eq_getElem hl]
  rfl
set_option maxHeartbeats 4000000 in
set_option maxRecDepth 100000 in
theorem mayL_any (s : ByteArray) (w : World) (hs : s.size ≤ maxLen) :
    Calls Try.prog 19 #[.string s] w fun e w' => e = .returned (.bool (mayN s)) ∧ Below w.heap.size w w' := by
  have hsz := size_list s
  unfold maxLen at hs
  generalize hR : mayN s = R
  have HR := Go.Lib.hid hR
  have HSZ := Go.Lib.hid hsz
  clear hR hsz
  by_cases h1 : 1 ≤ s.size
  · have k1 : ¬ (s.size : Int) < 1 := by omega
    by_cases h2 : s.size ≤ 20
    · have k2 : ¬ (20 : Int) < s.size := by omega
      obtain ⟨c, w2, hq, hb, hc⟩ := conv_text s w
      have B2 := Go.Lib.hid hb
      clear hb
      go_enter Try.func19, Try.ntmps19
      go_wp2_with fail
      go_loopw [4, 16] (fun _ i wr => ∃ j : Nat, j ≤ s.size ∧ i = .int .i64 j ∧ Hid ((s.data.toList.take j).all chN = true) ∧ w2 = wr) (fun _ i _ => s.size - (intOf i).toNat)
      case atStart => exact ⟨0, Nat.zero_le _, rfl, Go.Lib.hid rfl, rfl⟩
      case round =>
        obtain ⟨j, hj, rfl, HQ, rfl⟩ := hrel
        by_cases hlt : j < s.size
        · have i1 : (j : Int) < s.size := by omega
          have i0 : (0 : Int) ≤ j := by omega
          have HT := Go.Lib.hid (take_byte s j hlt)
          have hcj := hc j hlt
          generalize s[j]'hlt = c at *
          have HA : Hid ((s.data.toList.take (j + 1)).all chN = chN c) := Go.Lib.hid (by rw [HT.out, List.all_append, HQ.out]; simp)
          have HM : Hid (chN c = false → mayN s = false) := Go.Lib.hid (fun h => by
            have h1 := HA.out
            rw [h] at h1
            unfold mayN
            cases ha : s.data.toList.all chN with
            | false => rfl
            | true =>
              exfalso
              have h2 : (s.data.toList.take (j + 1)).all chN = true := List.all_eq_true.2 fun x hx => List.all_eq_true.1 ha x (List.mem_of_mem_take hx)
              rw [h2] at h1
              cases h1)
          clear hc HT
          go_wp2_with fail
          refine (mayHave_any c w2).mono ?_
          rintro e w' ⟨rfl, rfl⟩
          generalize chN c = b at *
          cases b with
          | true =>
            go_wp2_with fail
            go_roundw
            case rel => exact ⟨j + 1, by omega, by go_num, HA, by trivial⟩
            case measure => simp [intOf]; omega
          | false =>
            have hr : R = false := by rw [← HR.out]; exact HM.out rfl
            subst hr
            go_wp2_with fail
            go_ret
            exact ⟨rfl, B2.out⟩
        · obtain rfl : s.size = j := by omega
          have hr : R = true := by
            have h3 := HQ.out
            rw [HSZ.out, List.take_length] at h3
            rw [← HR.out]
            unfold mayN
            rw [h3]
            exact decide_eq_true ⟨h1, h2⟩
          subst hr
          clear HQ HR
          go_wp2_with fail
          go_ret
          exact ⟨rfl, B2.out⟩
    · have k2 : (20 : Int) < s.size := by omega
      obtain rfl : R = false := by rw [← HR.out]; unfold mayN; rw [decide_eq_false (fun h => h2 h.2), Bool.and_false]
      clear HR
      go_enter Try.func19, Try.ntmps19
      go_wp2_with fail
      go_ret
      exact ⟨rfl, Below.refl _ _⟩
  · have k1 : (s.size : Int) < 1 := by omega
    obtain rfl : R = false := by rw [← HR.out]; unfold mayN; rw [decide_eq_false (fun h => h1 h.1), Bool.and_false]
    clear HR
    go_enter Try.func19, Try.ntmps19
    go_wp2_with fail
    go_ret
    exact ⟨rfl, Below.refl _ _⟩

/-! ### A new disk; the fuse; the start of a call; a file's name -/
set_option maxRecDepth 100000 in
theorem newL_any (q : Int) (w : World) : Calls Try.prog 10 #[.int .i64 q] w fun e w' => ∃ g, e = .returned (.pointer (some ⟨g, 0, none⟩)) ∧ LdIs w' g (newD q) (fun k => w.heap.size ≤ k ∧ k < w'.heap.size) ∧ Below w.heap.size w w' := by
  have b1 : Below w.heap.size w ((w.alloc (.map #[] 0)).alloc (.cells #[.int .i64 q, .map (some w.heap.size), .bool false, .int .i64 0] 58)) := ((Below.refl _ _).alloc (Nat.le_refl _) _).alloc (by simp) _
  have hown : ((w.alloc (.map #[] 0)).alloc (.cells #[.int .i64 q, .map (some w.heap.size), .bool false, .int .i64 0] 58)).ownsMap Try.prog 9 ptrR w.heap.size 0 (.map []) := (World.ownsMap_made w Try.prog 9 ptrR).alloc _
  have e1 : (w.alloc (.map #[] 0)).heap.size = w.heap.size + 1 := by simp
  have hbox := heap_alloc_new (w.alloc (.map #[] 0)) (.cells #[.int .i64 q, .map (some w.heap.size), .bool false, .int .i64 0] 58)
  rw [e1] at hbox
  have hsz : ((w.alloc (.map #[] 0)).alloc (.cells #[.int .i64 q, .map (some w.heap.size), .bool false, .int .i64 0] 58)).heap.size = w.heap.size + 2 := by simp
  have h1 : LdAt ((w.alloc (.map #[] 0)).alloc (.cells #[.int .i64 q, .map (some w.heap.size), .bool false, .int .i64 0] 58)) (w.heap.size + 1) (newD q) (fun k => w.heap.size ≤ k ∧ k < ((w.alloc (.map #[] 0)).alloc (.cells #[.int .i64 q, .map (some w.heap.size), .bool false, .int .i64 0] 58)).heap.size) q w.heap.size false 0 (.map []) (fun _ => ⟨0, none, 0, 0⟩) :=
    ⟨hbox, rfl, rfl, fun h => (by cases h), hown, MapOf.empty _, fun _ h => (by simp [newD] at h), fun _ h => (by simp [newD] at h), ⟨by omega, by omega⟩, ⟨by omega, by omega⟩, fun k hk => hk.2⟩
  have HL := Go.Lib.hid h1
  have HB := Go.Lib.hid b1
  clear h1 b1 hown hbox
  have hmm := fun W => run_makeMap (P := Try.prog) 56 W
  go_enter Try.func10, Try.ntmps10
  go_wp2
  go_ret
  exact ⟨_, rfl, ⟨_, _, _, _, _, _, HL.out⟩, HB.out⟩
set_option maxRecDepth 100000 in
theorem stands_any (g : Nat) (D : Dk) (F : Nat → Prop) (qv : Int) (mb : Nat) (fu : Bool) (lv : Int) (M : DataW Nat) (hd : ByteArray → Hd) (w : World) (h : LdAt w g D F qv mb fu lv M hd) (hl : D.left ≤ 9223372036854775807) :
    Calls Try.prog 35 #[.pointer (some ⟨g, 0, none⟩)] w fun e w' => e = .returned (.bool (decide (D.left = 0))) ∧ (∃ lv', LdAt w' g (burnD D) F qv mb fu lv' M hd) ∧ w.grownBy w' (some g) := by
  have k2 := h.c2
  have k3 := h.c3
  have z3 := h.frozen 3
  have hz := h.lz
  have H := Go.Lib.hid h
  cases fu with
  | false =>
    have hz : D.left = -1 := hz
    have hb : burnD D = D := by
      unfold burnD
      rw [if_neg (by omega)]
    rw [hb, decide_eq_false (by omega)]
    clear hb hz h
    go_enter Try.func35, Try.ntmps35
    go_wp2
    go_ret
    exact ⟨rfl, ⟨_, H.out⟩, World.grownBy.refl _ _⟩
  | true =>
    have hz : D.left = lv := hz
    have h0 := h.l0 rfl
    by_cases hl0 : lv = 0
    · have hb : burnD D = D := by
        unfold burnD
        rw [if_neg (by omega)]
      rw [hb, decide_eq_true (by omega)]
      subst hl0
      clear hb hz h
      go_enter Try.func35, Try.ntmps35
      go_wp2
      go_ret
      exact ⟨rfl, ⟨_, H.out⟩, World.grownBy.refl _ _⟩
    · have hb : burnD D = ⟨D.quota, lv - 1, D.fs⟩ := by
        unfold burnD
        rw [if_pos (by omega), hz]
      rw [hb, decide_eq_false (by omega)]
      have e0 : (lv == 0) = false := by rw [beq_eq_false_iff_ne]; exact hl0
      have hs := grownSet w g 3 (.int .i64 (lv - 1))
      have HN := Go.Lib.hid (h.setL (lv - 1) rfl (by omega))
      clear hb h
      go_enter Try.func35, Try.ntmps35
      go_wp2
      go_ret
      exact ⟨rfl, ⟨_, HN.out⟩, hs⟩
/-- What the start of a call comes to: an error, or the file. -/
def begC (D : Dk) (s : ByteArray) : Int := if D.left = 0 then 14 else if idxF D.fs s < D.fs.length then 0 else 11
def begP (D : Dk) (hd : ByteArray → Hd) (s : ByteArray) : Value := if D.left = 0 then .pointer none else ptrOf D.fs hd s
set_option maxRecDepth 100000 in
theorem beginL_any (g : Nat) (D : Dk) (F : Nat → Prop) (qv : Int) (mb : Nat) (fu : Bool) (lv : Int) (M : DataW Nat) (hd : ByteArray → Hd) (s : ByteArray) (w : World) (h : LdAt w g D F qv mb fu lv M hd) (hl : D.left ≤ 9223372036854775807) (hs : s.size ≤ maxLen) :
    Calls Try.prog 48 #[.pointer (some ⟨g, 0, none⟩), .string s] w fun e w' => e = .returned (.tuple #[begP D hd s, .int .i64 (begC D s)]) ∧ (∃ lv', LdAt w' g (burnD D) F qv mb fu lv' M hd) ∧ w.grownBy w' (some g) := by
  generalize hC : begC D s = cc
  generalize hP : begP D hd s = pp
  have HC := Go.Lib.hid hC
  have HP := Go.Lib.hid hP
  clear hC hP
  go_enter Try.func48, Try.ntmps48
  go_wp2_with fail
  refine (stands_any g D F qv mb fu lv M hd w h hl).mono ?_
  rintro e w1 ⟨rfl, ⟨lv', h1⟩, g1⟩
  have H1 := Go.Lib.hid h1
  have G1 := Go.Lib.hid g1
  by_cases h0 : D.left = 0
  · obtain rfl : cc = 14 := by rw [← HC.out]; unfold begC; rw [if_pos h0]
    obtain rfl : pp = .pointer none := by rw [← HP.out]; unfold begP; rw [if_pos h0]
    rw [decide_eq_true h0]
    clear h1 g1 h h0 HC HP
    go_wp2_with fail
    go_ret2
    exact ⟨rfl, ⟨_, H1.out⟩, G1.out⟩
  · have q1 := h1.look hs
    have k1 := h1.c1
    have ef : (burnD D).fs = D.fs := rfl
    rw [ef] at q1
    rw [decide_eq_false h0]
    by_cases hk : idxF D.fs s < D.fs.length
    · obtain rfl : cc = 0 := by rw [← HC.out]; unfold begC; rw [if_neg h0, if_pos hk]
      have e3 : ptrOf D.fs hd s = .pointer (some ⟨(hd s).k, 0, none⟩) := if_pos hk
      obtain rfl : pp = .pointer (some ⟨(hd s).k, 0, none⟩) := by rw [← HP.out, ← e3]; unfold begP; rw [if_neg h0]
      rw [e3] at q1
      clear h1 g1 e3 h h0 hk ef HC HP
      go_wp2_with fail
      go_ret2
      exact ⟨rfl, ⟨_, H1.out⟩, G1.out⟩
    · obtain rfl : cc = 11 := by rw [← HC.out]; unfold begC; rw [if_neg h0, if_neg hk]
      have e3 : ptrOf D.fs hd s = .pointer none := if_neg hk
      obtain rfl : pp = .pointer none := by rw [← HP.out, ← e3]; unfold begP; rw [if_neg h0]
      rw [e3] at q1
      clear h1 g1 e3 h h0 hk ef HC HP
      go_wp2_with fail
      go_ret2
      exact ⟨rfl, ⟨_, H1.out⟩, G1.out⟩
set_option maxRecDepth 100000 in
theorem putL_any (g : Nat) (D : Dk) (F : Nat → Prop) (qv : Int) (mb : Nat) (fu : Bool) (lv : Int) (M : DataW Nat) (hd : ByteArray → Hd) (f : Fl) (x : Hd) (fs' : List Fl) (w : World) (h : LdAt w g D F qv mb fu lv M hd) (hn : D.fs.length ≤ 1000) (hr : Rising fs') (hset : SetTo fs' D.fs f) (hs : f.name.size ≤ maxLen)
    (hx : FileR w F f x) (ha : ∀ y ∈ D.fs, y.name ≠ f.name → Apart (hd y.name) x) :
    Calls Try.prog 36 #[.pointer (some ⟨g, 0, none⟩), .string f.name, .pointer (some ⟨x.k, 0, none⟩)] w fun e w' => e = .returned (.tuple #[]) ∧ LdAt w' g ⟨D.quota, D.left, fs'⟩ F qv mb fu lv (M.put (keyF f.name) (.held x.k)) (setH hd f.name x) ∧ w.grownBy w' (some mb) := by
  have k1 := h.c1
  have hown := h.own
  have hkey := keyS hs
  have qm : ∀ W, (binOp .eql 56 (.map (some mb)) (.map none)).run Try.prog W = .ok (.bool (some mb).isNone) W := fun W => run_eql_map_nil W _ _ _ _ Try.underlying56
  have H := Go.Lib.hid h
  have HX := Go.Lib.hid hx
  have HA := Go.Lib.hid ha
  clear h hx ha
  go_enter Try.func36, Try.ntmps36
  go_wp2_with (at_mapUpdate; refine wpList_mapUpdate_own _ rfl _ _ _ 56 rfl 9 62 lawK Try.underlying56 ptrR mb D.fs.length M rfl hown (by unfold maxLen; omega) _ _ _ rfl rfl hkey _ [] (ptrR_some x.k) ?_; intro w1 hown1 hgrow1)
  go_end0
  exact ⟨rfl, H.out.named hr hset hown1 hgrow1 HX.out HA.out, hgrow1⟩
set_option maxRecDepth 100000 in
theorem fuseL_any (g : Nat) (D : Dk) (F : Nat → Prop) (k : Int) (w : World) (h : LdIs w g D F) :
    Calls Try.prog 13 #[.pointer (some ⟨g, 0, none⟩), .int .i64 k] w fun e w' => e = .returned (.tuple #[]) ∧ LdIs w' g (fuseD D k) (up F w w') ∧ Ch F w w' := by
  obtain ⟨qv, mb, fu, lv, M, hd, h⟩ := h
  have z2 := h.frozen 2
  have hs1 := grownSet w g 2 (.bool true)
  have hs2 := grown_setCell hs1 3 (.int .i64 (max k 0))
  have hb2 := four_set (x := .int .i64 (max k 0)) (i := 3) (four_set (x := .bool true) (i := 2) h.box (by omega)) (by omega)
  have h2 : LdAt ((w.setCell ⟨g, 2, none⟩ (.bool true)).setCell ⟨g, 3, none⟩ (.int .i64 (max k 0))) g (fuseD D k) F qv mb true (max k 0) M hd := h.boxed hs2 hb2 h.qz (by rw [if_pos rfl]) (fun _ => by omega)
  have hc : Ch F w ((w.setCell ⟨g, 2, none⟩ (.bool true)).setCell ⟨g, 3, none⟩ (.int .i64 (max k 0))) := Ch.of_grown hs2 (fun r e => by injection e with e; subst e; exact .inl h.fg)
  have hr : LdIs ((w.setCell ⟨g, 2, none⟩ (.bool true)).setCell ⟨g, 3, none⟩ (.int .i64 (max k 0))) g (fuseD D k) (up F w ((w.setCell ⟨g, 2, none⟩ (.bool true)).setCell ⟨g, 3, none⟩ (.int .i64 (max k 0)))) := ⟨_, _, _, _, _, _, h2.wide (fun _ hf => .inl hf) (fun _ hk => up_lt h.lt hc.size hk)⟩
  have HR := Go.Lib.hid hr
  have HC := Go.Lib.hid hc
  have z3 : (w.setCell ⟨g, 2, none⟩ (.bool true)).frozen? ⟨g, 3, none⟩ = false := by simp [World.frozen?, four_set (x := .bool true) (i := 2) h.box (by omega)]
  have k2 := h.c2
  have k3 := h.c3
  clear h2 hb2 hs2 hc hr
  by_cases h0 : k ≤ 0
  · have hm : max k 0 = 0 := by omega
    rw [hm] at HR HC
    go_enter Try.func13, Try.ntmps13
    go_wp2
    go_end0
    exact ⟨rfl, HR.out, HC.out⟩
  · have hm : max k 0 = k := by omega
    rw [hm] at HR HC
    go_enter Try.func13, Try.ntmps13
    go_wp2
    go_end0
    exact ⟨rfl, HR.out, HC.out⟩

end Go.Proofs.Ytfdhfjmmmjhgbaa.DkWalk

/-
  Contracts of the landed disk: a round over its map; Used; Read.
-/
namespace Go.Proofs.Ytfdhfjmmmjhgbaa.DkWalk
open Go.RowKit Go.Maps Go.Proofs.Ytfdhfjmmmjhgbaa.MemRow Go.Proofs.Ytfdhfjmmmjhgbaa.Ev Go.Proofs.Ytfdhfjmmmjhgbaa.NameMath Go.Proofs.Ytfdhfjmmmjhgbaa.NameWalk Go.Proofs.Ytfdhfjmmmjhgbaa.EvWalk Go.Proofs.Ytfdhfjmmmjhgbaa.NumMem

def mkP (c : Option Nat) : Value := match c with | none => .pointer none | some k => .pointer (some ⟨k, 0, none⟩)
theorem mkP_inv (v : Value) (y : DataW Nat × List MemPlace) (h : ptrR v = some y) : ∃ c, v = mkP c := by
  unfold ptrR at h
  split at h
  · exact ⟨some _, rfl⟩
  · exact ⟨none, rfl⟩
  · cases h
section
variable (w : World) {ops : Array Oper} {rest : List Oper} {o : Oper} {a : Act} {Q : Exit → Act → World → Prop}
/-- The step of 'for name, f := range d.files'. -/
theorem wpList_next_fs (hg : o.guard = none) (it : Operand) (hop : o.op = Op.next it false) {M : DataW Nat} {fs : List Fl} {kk : ByteArray → Nat} (mp : MapOf M fs kk) (b r n : Nat) (left : Lit → Bool) (cnt : Nat)
    (hit : a.eval it = .pointer (some ⟨r, 0, none⟩)) (h : w.ranges Try.prog 9 ptrR b r n M left cnt)
    (hDone : cnt = 0 → (∀ kl, left kl = false) → wpList Try.prog ops Q rest (a.put o.dst (.tuple #[.bool false])) w)
    (hMore : ∀ (f : Fl), f ∈ fs → ∀ (w' : World) (cnt' : Nat), left (keyF f.name) = true → f.name.size ≤ maxLen → w'.ranges Try.prog 9 ptrR b r n M (strike left f.name) cnt' → cnt' < cnt → w.grownBy w' (some r) → w'.heap.size = w.heap.size →
      (Instr.entry (.pointer (some ⟨r, 0, none⟩))).run Try.prog w' = .ok (.tuple #[.string f.name, .pointer (some ⟨kk f.name, 0, none⟩)]) w' → wpList Try.prog ops Q rest (a.put o.dst (.tuple #[.bool true, .string f.name, .pointer (some ⟨kk f.name, 0, none⟩)])) w') :
    wpList Try.prog ops Q (o :: rest) a w := by
  refine wpList_next_ranges w hg it hop 9 lawK ptrR Go.Proofs.encStr mkP (fun key kl hk => by obtain ⟨x, hx, _⟩ := Maps.keyOf_str Try.underlying9 hk; exact ⟨x, hx⟩) mkP_inv b r n M left cnt hit h hDone ?_
  intro x c kl y w' cnt' hkey hlk hv hat hrg hlt hgr hsz hen
  obtain ⟨x', ex, rfl, hxl⟩ := Maps.keyOf_str Try.underlying9 hkey
  obtain rfl := encStr_inj ex
  obtain ⟨f, hf, ek⟩ := (mp.keys _).1 (has_true_of_atKey hat)
  have hx : x = f.name.data.toList := by
    unfold keyF at ek
    injection ek
  have e1 : Go.Proofs.encStr x = .string f.name := by
    rw [hx]
  have e2 : mkP c = .pointer (some ⟨kk f.name, 0, none⟩) := by
    have h1 := hat .nil
    rw [ek, mp.at_ f hf] at h1
    refine ptrR_held (ps := y.2) ?_
    rw [hv, h1]
  rw [ek] at hlk hrg
  rw [e1, e2] at hen ⊢
  refine hMore f hf w' cnt' hlk ?_ hrg hlt hgr hsz hen
  have := size_list f.name
  rw [hx] at hxl
  omega
end

/-! ### Used -/
set_option maxHeartbeats 4000000 in
set_option maxRecDepth 100000 in
theorem usedD_any (g : Nat) (D : Dk) (F : Nat → Prop) (qv : Int) (mb : Nat) (fu : Bool) (lv : Int) (M : DataW Nat) (hd : ByteArray → Hd) (w : World) (h : LdAt w g D F qv mb fu lv M hd) (go : DkGo D) :
    Calls Try.prog 24 #[.pointer (some ⟨g, 0, none⟩)] w fun e w' => e = .returned (.int .i64 (usedF D.fs : Nat)) ∧ Below w.heap.size w w' := by
  have k1 := h.c1
  have hown := h.own
  have MP := h.mp
  have h65 : usedF D.fs ≤ 65536 * 200 := by
    have h1 := usedF_le (fs := D.fs) fun f hf => (go.ok.fls f hf).1
    have h2 := go.ok.len
    omega
  have hsz := h.lt mb h.fm
  have H := Go.Lib.hid h
  have GO := Go.Lib.hid go
  clear h go
  go_enter Try.func24, Try.ntmps24
  go_wp2_with (at_range; refine wpList_range_own _ rfl _ 56 rfl 9 62 lawK Try.underlying56 ptrR mb D.fs.length M rfl hown ?_; intro w0 hrg0 hg0 hs0)
  go_frame
  go_loopw [3, 5] (fun s _ wr => ∃ (left : Lit → Bool) (cnt u : Nat), s = .int .i64 u ∧ wr.ranges Try.prog 9 ptrR mb w.heap.size D.fs.length M left cnt ∧ Hid (u = usedL left D.fs) ∧ Below w.heap.size w wr) (fun _ _ wr => wr.rangeLeft mb w.heap.size)
  case atStart => exact ⟨_, _, 0, rfl, hrg0, Go.Lib.hid (usedL_start fun f hf => (MP.keys _).2 ⟨f, hf, rfl⟩).symm, grown_below hg0⟩
  case round =>
    obtain ⟨left, cnt, u, rfl, hrg, HU, hb⟩ := hrel
    clear hrg0 hg0 hs0
    go_wp2_with (at_next; refine wpList_next_fs _ rfl _ rfl MP mb w.heap.size D.fs.length _ _ rfl hrg ?_ ?_)
    · intro hc0 hl0
      have hu : u = usedF D.fs := by rw [HU.out, usedL_end hl0]
      subst hu
      go_wp2_with fail
      go_ret
      exact ⟨rfl, hb⟩
    · intro f hf w2 cnt2 hlk hfs hrg2 hlt hg2 hs2 hen
      have hb2 : Below w.heap.size w w2 := hb.grown hg2 hb.size (fun r e => by injection e with e; omega)
      have hr := (H.out.below hb2).files f hf
      have x0 := hr.c0
      have HU2 : Hid (u + (hd f.name).nb = usedL (strike left f.name) D.fs) := Go.Lib.hid (by rw [usedL_step GO.out.up hf hlk, HU.out, hr.own.len])
      have hu2 : usedL (strike left f.name) D.fs ≤ 65536 * 200 := Nat.le_trans (usedL_le _ _) h65
      have hu3 : u + (hd f.name).nb ≤ 65536 * 200 := by rw [HU2.out]; exact hu2
      have HLE := hrg.left_eq
      clear hr hu2 hlk hg2 hs2 hrg hf HU
      generalize (hd f.name).nb = nb at *
      go_wp2_with fail
      go_roundw
      case rel => exact ⟨_, cnt2, u + nb, by go_num, hrg2, HU2, hb2⟩
      case measure => rw [hrg2.left_eq, HLE]; exact hlt

/-! ### A copy of bytes; Read -/
set_option maxRecDepth 100000 in
theorem cloneB_any (A : Option Addr) (n c : Nat) (l : List UInt8) (w : World) (h : Own w 0 5 A n c l) (hn : n ≤ 1000000) :
    Calls Try.prog 34 #[.slice A n c] w fun e w' => ∃ B cb, e = .returned (.slice B n cb) ∧ Own w' w.heap.size 5 B n cb l ∧ Below w.heap.size w w' := by
  have qn : ∀ W, (binOp .eql 33 (.slice A n c) (.slice none 0 0)).run Try.prog W = .ok (.bool A.isNone) W := fun W => Lib.run_eql_slice_nil W _ _ _ _ _ _ _ Try.underlying33
  cases A with
  | none =>
    have h0 : n = 0 ∧ l = [] := by
      rcases h.2 with ⟨hv, hn0⟩ | ⟨g, c', cur, hv, _⟩
      · exact ⟨hn0, List.eq_nil_of_length_eq_zero (by rw [h.len, hn0])⟩
      · injection hv with e1
        cases e1
    obtain ⟨rfl, rfl⟩ := h0
    go_enter Try.func34, Try.ntmps34
    go_wp2_with fail
    go_ret
    exact ⟨none, 0, rfl, ⟨rfl, .inl ⟨rfl, rfl⟩⟩, Below.refl _ _⟩
  | some a =>
    have al : Below w.heap.size w (w.alloc (.cells #[] 5)) := (Below.refl _ _).alloc (Nat.le_refl _) _
    have r2 := (h.below al).rd
    go_enter Try.func34, Try.ntmps34
    go_wp2_with (at_builtin; refine wpList_append_fresh rfl (.tmp 5) (.tmp 6) 33 rfl 5 Try.underlying33 u8_info rfl rfl (Own.empty w 5 (Nat.le_refl _)) r2 (by omega) al.size w al ?_; intro A5 c5 w5 o5 b5)
    go_ret
    exact ⟨A5, c5, rfl, o5, b5⟩
set_option maxHeartbeats 4000000 in
set_option maxRecDepth 100000 in
theorem readL_any (g : Nat) (D : Dk) (F : Nat → Prop) (s : ByteArray) (w : World) (h : LdIs w g D F) (go : DkGo D) (hs : s.size ≤ maxLen) :
    Calls Try.prog 26 #[.pointer (some ⟨g, 0, none⟩), .string s] w fun e w' => ∃ B m c, e = .returned (.tuple #[.slice B m c, .int .i64 (readC D s)]) ∧ Rd w' B m c (readB D s) ∧ Below w.heap.size w w' := by
  obtain ⟨qv, mb, fu, lv, M, hd, h⟩ := h
  have k1 := h.c1
  have q1 := h.look hs
  generalize hC : readC D s = cc
  generalize hB : readB D s = bb
  have HC := Go.Lib.hid hC
  have HB := Go.Lib.hid hB
  clear hC hB
  by_cases hk : idxF D.fs s < D.fs.length
  · obtain rfl : cc = 0 := by rw [← HC.out]; unfold readC; rw [if_pos hk]
    obtain rfl : bb = (D.fs.getD (idxF D.fs s) noFl).b := by rw [← HB.out]; unfold readB; rw [if_pos hk]
    have e3 : ptrOf D.fs hd s = .pointer (some ⟨(hd s).k, 0, none⟩) := if_pos hk
    rw [e3] at q1
    have hr := (h.file hk).1
    have hle : (hd s).nb ≤ 1000000 := by
      have := (go.ok.fls _ (fl_get hk)).1
      have := hr.own.len
      omega
    have x0 := hr.c0
    have ho := hr.own
    clear HC HB hr h e3 hk go
    generalize (D.fs.getD (idxF D.fs s) noFl).b = bb at *
    generalize (hd s).k = k at *
    generalize (hd s).B = B at *
    generalize (hd s).nb = nb at *
    generalize (hd s).cb = cb at *
    go_enter Try.func26, Try.ntmps26
    go_wp2_with fail
    refine (cloneB_any B nb cb bb w ho hle).mono ?_
    rintro e w2 ⟨B2, c2, rfl, o2, b2⟩
    go_wp2_with fail
    go_ret2
    exact ⟨_, _, _, rfl, o2.rd, b2⟩
  · obtain rfl : cc = 11 := by rw [← HC.out]; unfold readC; rw [if_neg hk]
    obtain rfl : bb = [] := by rw [← HB.out]; unfold readB; rw [if_neg hk]
    have e3 : ptrOf D.fs hd s = .pointer none := if_neg hk
    rw [e3] at q1
    clear HC HB h e3 hk
    go_enter Try.func26, Try.ntmps26
    go_wp2_with fail
    go_ret2
    exact ⟨none, 0, 0, rfl, Rd.nil _, Below.refl _ _⟩

end Go.Proofs.Ytfdhfjmmmjhgbaa.DkWalk

/-
  Contracts of the landed disk: Sync, Remove, Rename, Truncate, Turn.
-/
namespace Go.Proofs.Ytfdhfjmmmjhgbaa.DkWalk
open Go.RowKit Go.Maps Go.Proofs.Ytfdhfjmmmjhgbaa.MemRow Go.Proofs.Ytfdhfjmmmjhgbaa.Ev Go.Proofs.Ytfdhfjmmmjhgbaa.NameMath Go.Proofs.Ytfdhfjmmmjhgbaa.NameWalk Go.Proofs.Ytfdhfjmmmjhgbaa.EvWalk Go.Proofs.Ytfdhfjmmmjhgbaa.NumMem

theorem setTo_len {fs fs' : List Fl} {f : Fl} (hr : Rising fs) (hr' : Rising fs') (hset : SetTo fs' fs f) (hk : idxF fs f.name < fs.length) : fs'.length = fs.length := by
  have e : names fs' = names fs := up_ext hr' hr fun x => by
    unfold names
    rw [List.mem_map, List.mem_map]
    constructor
    · rintro ⟨y, hy, rfl⟩
      rcases (hset y).1 hy with rfl | ⟨hy, _⟩
      · exact ⟨_, fl_get hk, idxF_name hk⟩
      · exact ⟨y, hy, rfl⟩
    · rintro ⟨y, hy, rfl⟩
      by_cases hn : y.name = f.name
      · exact ⟨f, (hset f).2 (.inl rfl), hn.symm⟩
      · exact ⟨y, (hset y).2 (.inr ⟨hy, hn⟩), rfl⟩
  have := congrArg List.length e
  simpa [names] using this
theorem DidL.join {c : Int} {D' : Dk} {g : Nat} {F : Nat → Prop} {w w1 w' : World} (c1 : Ch F w w1) (hlt : ∀ k, F k → k < w.heap.size) (c2 : Ch F w1 w') (h : LdIs w' g D' (up F w1 w')) : DidL c D' g F w (.returned (.int .i64 c)) w' := by
  have c3 : Ch F w w' := c1.trans (c2.wide fun _ hk => .inl hk)
  refine ⟨rfl, h.wide (fun k hk => ?_) (fun k hk => up_lt hlt c3.size hk), c3⟩
  rcases hk with hk | hk
  · exact .inl hk
  · have := c1.size
    exact .inr ⟨by omega, hk.2⟩
theorem LdAt.is {w : World} {g : Nat} {D : Dk} {F : Nat → Prop} {qv lv : Int} {mb : Nat} {fu : Bool} {M : DataW Nat} {hd : ByteArray → Hd} (h : LdAt w g D F qv mb fu lv M hd) : LdIs w g D F := ⟨_, _, _, _, _, _, h⟩
/-- What a file's own blocks are, is the disk's. -/
theorem FileR.ch {w w' : World} {F : Nat → Prop} {f : Fl} {h : Hd} (r : FileR w F f h) (hc : Ch (fun k => k = h.k ∨ ∃ a, h.B = some a ∧ k = a.block) w w') : Ch F w w' :=
  hc.wide fun k hk => by
    rcases hk with rfl | ⟨a, ha, rfl⟩
    · exact r.fk
    · exact r.fb a ha

set_option maxHeartbeats 4000000 in
set_option maxRecDepth 100000 in
theorem syncL_any (g : Nat) (D : Dk) (F : Nat → Prop) (s : ByteArray) (w : World) (h : LdIs w g D F) (go : DkGo D) (hs : s.size ≤ maxLen) :
    Calls Try.prog 29 #[.pointer (some ⟨g, 0, none⟩), .string s] w (fun e w' => DidL (syncD D s).1 (syncD D s).2 g F w e w') := by
  obtain ⟨qv, mb, fu, lv, M, hd, h⟩ := h
  have HLT := Go.Lib.hid h.lt
  generalize hR : syncD D s = R
  have HR := Go.Lib.hid hR
  clear hR
  go_enter Try.func29, Try.ntmps29
  go_wp2_with fail
  refine (beginL_any g D F qv mb fu lv M hd s w h go.ok.left.2 hs).mono ?_
  rintro e w1 ⟨rfl, ⟨lv', h1⟩, g1⟩
  have c1 : Ch F w w1 := Ch.of_grown g1 (fun r e => by injection e with e; subst e; exact .inl h.fg)
  have go1 := burn_go go
  by_cases h0 : D.left = 0
  · have hb0 : burnD D = D := by
      unfold burnD
      rw [if_neg (by omega)]
    rw [hb0] at h1
    obtain rfl : R = (14, D) := by rw [← HR.out]; unfold syncD; rw [if_pos h0]
    rw [show begC D s = 14 by unfold begC; rw [if_pos h0], show begP D hd s = .pointer none by unfold begP; rw [if_pos h0]]
    have HD := Go.Lib.hid (DidL.of (c := 14) h1 HLT.out c1)
    clear HR h1 c1 g1 h0 hb0 h
    go_wp2_with fail
    go_ret
    exact HD.out
  by_cases hk : idxF D.fs s < D.fs.length
  · have hR1 : (0, ⟨(burnD D).quota, (burnD D).left, syncF (burnD D).fs s⟩) = R := by
      rw [← HR.out]
      unfold syncD syncC
      rw [if_neg h0, if_neg (show ¬ ¬ idxF (burnD D).fs s < (burnD D).fs.length from fun h => h hk)]
    rw [show begC D s = 0 by unfold begC; rw [if_neg h0, if_pos hk], show begP D hd s = .pointer (some ⟨(hd s).k, 0, none⟩) by unfold begP ptrOf; rw [if_neg h0, if_pos hk]]
    have hk1 : idxF (burnD D).fs s < (burnD D).fs.length := hk
    clear HR h0 hk h go g1
    generalize burnD D = D1 at *
    subst hR1
    have fr := (h1.file hk1).1
    have hl := fr.own.len
    have hset := syncF_set go1.up hk1
    have x0 := fr.c0
    have x1 := fr.c1
    have z1 := fr.frozen 1
    have hs1 := grownSet w1 (hd s).k 1 (.int .i64 ((hd s).nb : Int))
    have cc : Ch (fun k => k = (hd s).k ∨ ∃ a, (hd s).B = some a ∧ k = a.block) w1 (w1.setCell ⟨(hd s).k, 1, none⟩ (.int .i64 ((hd s).nb : Int))) := Ch.of_grown hs1 (fun r e => by injection e with e; exact .inl (.inl e.symm))
    have hbx : (w1.setCell ⟨(hd s).k, 1, none⟩ (.int .i64 ((hd s).nb : Int))).heap[(hd s).k]? = some (.cells #[.slice (hd s).B (hd s).nb (hd s).cb, .int .i64 ((D1.fs.getD (idxF D1.fs s) noFl).b.length : Nat)] 64 (0, 0)) := by
      rw [hl]
      exact pairSet1 fr.box
    have h2 := h1.wrote hk1 (x := hd s) rfl hset (by simp [syncF]) rfl cc (fun a ha => .inl ⟨a, ha, rfl⟩) hbx (own8_grown fr.own hs1 (fun a ha e => own8_not fr.own fr.box (by decide) a ha (by injection e)))
    have HD := Go.Lib.hid (DidL.join (c := 0) c1 HLT.out (fr.ch cc) h2.is)
    clear h1 c1 h2 hbx cc hs1 hset hl fr
    go_wp2_with fail
    go_ret
    exact HD.out
  · obtain rfl : R = (11, burnD D) := by
      rw [← HR.out]
      unfold syncD syncC
      rw [if_neg h0, if_pos (show ¬ idxF (burnD D).fs s < (burnD D).fs.length from hk)]
    rw [show begC D s = 11 by unfold begC; rw [if_neg h0, if_neg hk], show begP D hd s = .pointer none by unfold begP ptrOf; rw [if_neg h0, if_neg hk]]
    have HD := Go.Lib.hid (DidL.of (c := 11) h1 HLT.out c1)
    clear HR h1 c1 g1 h0 hk h
    go_wp2_with fail
    go_ret
    exact HD.out

set_option maxHeartbeats 4000000 in
set_option maxRecDepth 100000 in
theorem removeL_any (g : Nat) (D : Dk) (F : Nat → Prop) (s : ByteArray) (w : World) (h : LdIs w g D F) (go : DkGo D) (hs : s.size ≤ maxLen) :
    Calls Try.prog 33 #[.pointer (some ⟨g, 0, none⟩), .string s] w (fun e w' => DidL (removeD D s).1 (removeD D s).2 g F w e w') := by
  obtain ⟨qv, mb, fu, lv, M, hd, h⟩ := h
  have HLT := Go.Lib.hid h.lt
  generalize hR : removeD D s = R
  have HR := Go.Lib.hid hR
  clear hR
  go_enter Try.func33, Try.ntmps33
  go_wp2_with fail
  refine (beginL_any g D F qv mb fu lv M hd s w h go.ok.left.2 hs).mono ?_
  rintro e w1 ⟨rfl, ⟨lv', h1⟩, g1⟩
  have c1 : Ch F w w1 := Ch.of_grown g1 (fun r e => by injection e with e; subst e; exact .inl h.fg)
  have go1 := burn_go go
  by_cases h0 : D.left = 0
  · have hb0 : burnD D = D := by
      unfold burnD
      rw [if_neg (by omega)]
    rw [hb0] at h1
    obtain rfl : R = (14, D) := by rw [← HR.out]; unfold removeD; rw [if_pos h0]
    rw [show begC D s = 14 by unfold begC; rw [if_pos h0], show begP D hd s = .pointer none by unfold begP; rw [if_pos h0]]
    have HD := Go.Lib.hid (DidL.of (c := 14) h1 HLT.out c1)
    clear HR h1 c1 g1 h0 hb0 h
    go_wp2_with fail
    go_ret
    exact HD.out
  by_cases hk : idxF D.fs s < D.fs.length
  · have hR1 : (0, ⟨(burnD D).quota, (burnD D).left, dropF (burnD D).fs s⟩) = R := by
      rw [← HR.out]
      unfold removeD removeC
      rw [if_neg h0, if_pos (show idxF (burnD D).fs s < (burnD D).fs.length from hk)]
    rw [show begC D s = 0 by unfold begC; rw [if_neg h0, if_pos hk], show begP D hd s = .pointer (some ⟨(hd s).k, 0, none⟩) by unfold begP ptrOf; rw [if_neg h0, if_pos hk]]
    have hk1 : idxF (burnD D).fs s < (burnD D).fs.length := hk
    clear HR h0 hk h go g1
    generalize burnD D = D1 at *
    subst hR1
    have k1 := h1.c1
    have hown := h1.own
    have hkey := keyS hs
    have H1 := Go.Lib.hid h1
    have C1 := Go.Lib.hid c1
    clear h1 c1
    go_wp2_with (at_delete; refine wpList_delete_own _ rfl _ _ 56 9 rfl 62 lawK Try.underlying56 ptrR mb D1.fs.length M rfl hown _ _ rfl hkey ?_; intro w2 hown2 hturn2)
    have h2 := H1.out.dropped (dropF_rising go1.up s) (dropF_set go1.up hk1) hown2 hturn2.grown
    have c2 : Ch F w1 w2 := Ch.of_grown hturn2.grown (fun r e => by injection e with e; subst e; exact .inl H1.out.fm)
    have HD := Go.Lib.hid (DidL.join (c := 0) C1.out HLT.out c2 (h2.wide (fun _ hf => .inl hf) (fun _ hk => up_lt H1.out.lt c2.size hk)).is)
    go_ret
    exact HD.out
  · obtain rfl : R = (11, burnD D) := by
      rw [← HR.out]
      unfold removeD removeC
      rw [if_neg h0, if_neg (show ¬ idxF (burnD D).fs s < (burnD D).fs.length from hk)]
    rw [show begC D s = 11 by unfold begC; rw [if_neg h0, if_neg hk], show begP D hd s = .pointer none by unfold begP ptrOf; rw [if_neg h0, if_neg hk]]
    have HD := Go.Lib.hid (DidL.of (c := 11) h1 HLT.out c1)
    clear HR h1 c1 g1 h0 hk h
    go_wp2_with fail
    go_ret
    exact HD.out

set_option maxHeartbeats 4000000 in
set_option maxRecDepth 100000 in
theorem renameL_any (g : Nat) (D : Dk) (F : Nat → Prop) (s t : ByteArray) (w : World) (h : LdIs w g D F) (go : DkGo D) (hs : s.size ≤ maxLen) (ht : t.size ≤ maxLen) :
    Calls Try.prog 30 #[.pointer (some ⟨g, 0, none⟩), .string s, .string t] w (fun e w' => DidL (renameD D s t).1 (renameD D s t).2 g F w e w') := by
  obtain ⟨qv, mb, fu, lv, M, hd, h⟩ := h
  have HLT := Go.Lib.hid h.lt
  generalize hR : renameD D s t = R
  have HR := Go.Lib.hid hR
  clear hR
  go_enter Try.func30, Try.ntmps30
  go_wp2_with fail
  refine (beginL_any g D F qv mb fu lv M hd s w h go.ok.left.2 hs).mono ?_
  rintro e w1 ⟨rfl, ⟨lv', h1⟩, g1⟩
  have c1 : Ch F w w1 := Ch.of_grown g1 (fun r e => by injection e with e; subst e; exact .inl h.fg)
  have go1 := burn_go go
  by_cases h0 : D.left = 0
  · have hb0 : burnD D = D := by
      unfold burnD
      rw [if_neg (by omega)]
    rw [hb0] at h1
    obtain rfl : R = (14, D) := by rw [← HR.out]; unfold renameD; rw [if_pos h0]
    rw [show begC D s = 14 by unfold begC; rw [if_pos h0], show begP D hd s = .pointer none by unfold begP; rw [if_pos h0]]
    have HD := Go.Lib.hid (DidL.of (c := 14) h1 HLT.out c1)
    clear HR h1 c1 g1 h0 hb0 h
    go_wp2_with fail
    go_ret
    exact HD.out
  by_cases hk : idxF D.fs s < D.fs.length
  · have HR1 : Hid (renameC (burnD D) s t = R) := Go.Lib.hid (by rw [← HR.out]; unfold renameD; rw [if_neg h0])
    rw [show begC D s = 0 by unfold begC; rw [if_neg h0, if_pos hk], show begP D hd s = .pointer (some ⟨(hd s).k, 0, none⟩) by unfold begP ptrOf; rw [if_neg h0, if_pos hk]]
    have hk1 : idxF (burnD D).fs s < (burnD D).fs.length := hk
    clear HR h0 hk h go g1
    generalize burnD D = D1 at *
    go_wp2_with fail
    refine (mayL_any t w1 ht).mono ?_
    rintro e w2 ⟨rfl, b2⟩
    have h2 := h1.below b2
    have c2 := c1.then_below b2
    cases hmay : mayN t with
    | false =>
      obtain rfl : R = (5, D1) := by
        rw [← HR1.out]
        unfold renameC
        rw [if_neg (fun h => h hk1), if_pos hmay]
      have HD := Go.Lib.hid (DidL.of (c := 5) h2 HLT.out c2)
      clear HR1 h1 c1 h2 c2 hmay hk1
      go_wp2_with fail
      go_ret
      exact HD.out
    | true =>
      have q2 := h2.look ht
      have k2 := h2.c1
      by_cases hkt : idxF D1.fs t < D1.fs.length
      · obtain rfl : R = (12, D1) := by
          rw [← HR1.out]
          unfold renameC
          rw [if_neg (fun h => h hk1), if_neg (by rw [hmay]; decide), if_pos hkt]
        rw [show ptrOf D1.fs hd t = .pointer (some ⟨(hd t).k, 0, none⟩) from if_pos hkt] at q2
        have HD := Go.Lib.hid (DidL.of (c := 12) h2 HLT.out c2)
        clear HR1 h1 c1 h2 c2 hmay hk1 hkt
        go_wp2_with fail
        go_ret
        exact HD.out
      · have hR2 : (0, ⟨D1.quota, D1.left, putF (dropF D1.fs s) ⟨t, (D1.fs.getD (idxF D1.fs s) noFl).b, (D1.fs.getD (idxF D1.fs s) noFl).safe⟩⟩) = R := by
          rw [← HR1.out]
          unfold renameC
          rw [if_neg (fun h => h hk1), if_neg (by rw [hmay]; decide), if_neg hkt]
        subst hR2
        rw [show ptrOf D1.fs hd t = .pointer none from if_neg hkt] at q2
        have hown := h2.own
        have hkey := keyS hs
        have H2 := Go.Lib.hid h2
        have C2 := Go.Lib.hid c2
        have HT := Go.Lib.hid hkt
        have HK := Go.Lib.hid hk1
        clear HR1 h1 c1 h2 c2 hmay hk1 hkt
        go_wp2_with (at_delete; refine wpList_delete_own _ rfl _ _ 56 9 rfl 62 lawK Try.underlying56 ptrR mb D1.fs.length M rfl hown _ _ rfl hkey ?_; intro w3 hown3 hturn3)
        have hset := dropF_set go1.up HK.out
        have h3 := H2.out.dropped (dropF_rising go1.up s) hset hown3 hturn3.grown
        have c3 : Ch F w2 w3 := Ch.of_grown hturn3.grown (fun r e => by injection e with e; subst e; exact .inl H2.out.fm)
        have fr := (H2.out.file HK.out).1
        have ff := H2.out.far (fl_get HK.out)
        rw [idxF_name HK.out] at ff
        have fr3 := fr.grown hturn3.grown (fun e => ff.2.1 (by injection e)) fun a ha e => (ff.2.2 a ha).2 (by injection e)
        have hap : ∀ y ∈ dropF D1.fs s, y.name ≠ t → Apart (hd y.name) (hd s) := fun y hy _ => by
          have hy2 := (hset y).1 hy
          have ha := H2.out.apart y hy2.1 _ (fl_get HK.out) (by rw [idxF_name HK.out]; exact hy2.2)
          rwa [idxF_name HK.out] at ha
        have hln : (dropF D1.fs s).length ≤ 1000 := by
          have := dropF_len HK.out
          have := go1.ok.len
          omega
        have H3 := Go.Lib.hid h3
        have C3 := Go.Lib.hid c3
        have PU := putL_any g ⟨D1.quota, D1.left, dropF D1.fs s⟩ F qv mb fu lv' (M.del (keyF s)) hd ⟨t, (D1.fs.getD (idxF D1.fs s) noFl).b, (D1.fs.getD (idxF D1.fs s) noFl).safe⟩ (hd s) _ w3 h3 hln (putF_rising (dropF_rising go1.up s) _) (putF_set (dropF_rising go1.up s) _) ht ⟨fr3.box, fr3.own, fr3.fk, fr3.fb⟩ hap
        have P := Go.Lib.hid PU
        clear PU h3 c3 fr ff fr3 hap hln hset hown3 hturn3 hown
        go_wp2_with fail
        refine (P.out).mono ?_
        rintro e w4 ⟨rfl, h4, g4⟩
        have c4 : Ch F w3 w4 := Ch.of_grown g4 (fun r e => by injection e with e; subst e; exact .inl H3.out.fm)
        have c24 : Ch F w2 w4 := C3.out.trans (c4.wide fun _ hk => .inl hk)
        have HD := Go.Lib.hid (DidL.join (c := 0) C2.out HLT.out c24 (h4.wide (fun _ hf => .inl hf) (fun _ hk => up_lt H2.out.lt c24.size hk)).is)
        clear h4 g4 c4 c24 P
        go_wp2_with fail
        go_ret
        exact HD.out
  · obtain rfl : R = (11, burnD D) := by
      rw [← HR.out]
      unfold renameD renameC
      rw [if_neg h0, if_pos (show ¬ idxF (burnD D).fs s < (burnD D).fs.length from hk)]
    rw [show begC D s = 11 by unfold begC; rw [if_neg h0, if_neg hk], show begP D hd s = .pointer none by unfold begP ptrOf; rw [if_neg h0, if_neg hk]]
    have HD := Go.Lib.hid (DidL.of (c := 11) h1 HLT.out c1)
    clear HR h1 c1 g1 h0 hk h
    go_wp2_with fail
    go_ret
    exact HD.out

end Go.Proofs.Ytfdhfjmmmjhgbaa.DkWalk

/-
  Contracts of the landed disk: Truncate, Turn.
-/
namespace Go.Proofs.Ytfdhfjmmmjhgbaa.DkWalk
open Go.RowKit Go.Maps Go.Proofs.Ytfdhfjmmmjhgbaa.MemRow Go.Proofs.Ytfdhfjmmmjhgbaa.Ev Go.Proofs.Ytfdhfjmmmjhgbaa.NameMath Go.Proofs.Ytfdhfjmmmjhgbaa.NameWalk Go.Proofs.Ytfdhfjmmmjhgbaa.EvWalk Go.Proofs.Ytfdhfjmmmjhgbaa.NumMem

set_option maxHeartbeats 4000000 in
set_option maxRecDepth 100000 in
theorem truncL_any (g : Nat) (D : Dk) (F : Nat → Prop) (s : ByteArray) (z : Int) (w : World) (h : LdIs w g D F) (go : DkGo D) (hs : s.size ≤ maxLen) :
    Calls Try.prog 31 #[.pointer (some ⟨g, 0, none⟩), .string s, .int .i64 z] w (fun e w' => DidL (truncD D s z).1 (truncD D s z).2 g F w e w') := by
  obtain ⟨qv, mb, fu, lv, M, hd, h⟩ := h
  have HLT := Go.Lib.hid h.lt
  generalize hR : truncD D s z = R
  have HR := Go.Lib.hid hR
  clear hR
  go_enter Try.func31, Try.ntmps31
  go_wp2_with fail
  refine (beginL_any g D F qv mb fu lv M hd s w h go.ok.left.2 hs).mono ?_
  rintro e w1 ⟨rfl, ⟨lv', h1⟩, g1⟩
  have c1 : Ch F w w1 := Ch.of_grown g1 (fun r e => by injection e with e; subst e; exact .inl h.fg)
  have go1 := burn_go go
  by_cases h0 : D.left = 0
  · have hb0 : burnD D = D := by
      unfold burnD
      rw [if_neg (by omega)]
    rw [hb0] at h1
    obtain rfl : R = (14, D) := by rw [← HR.out]; unfold truncD; rw [if_pos h0]
    rw [show begC D s = 14 by unfold begC; rw [if_pos h0], show begP D hd s = .pointer none by unfold begP; rw [if_pos h0]]
    have HD := Go.Lib.hid (DidL.of (c := 14) h1 HLT.out c1)
    clear HR h1 c1 g1 h0 hb0 h
    go_wp2_with fail
    go_ret
    exact HD.out
  by_cases hk : idxF D.fs s < D.fs.length
  · have hR1 : (if z < 0 ∨ (((burnD D).fs.getD (idxF (burnD D).fs s) noFl).b.length : Int) < z then (1, burnD D) else (0, ⟨(burnD D).quota, (burnD D).left, putF (burnD D).fs ⟨s, ((burnD D).fs.getD (idxF (burnD D).fs s) noFl).b.take z.toNat, min ((burnD D).fs.getD (idxF (burnD D).fs s) noFl).safe z.toNat⟩⟩)) = R := by
      rw [← HR.out]
      unfold truncD truncC
      rw [if_neg h0, if_neg (show ¬ ¬ idxF (burnD D).fs s < (burnD D).fs.length from fun h => h hk)]
    rw [show begC D s = 0 by unfold begC; rw [if_neg h0, if_pos hk], show begP D hd s = .pointer (some ⟨(hd s).k, 0, none⟩) by unfold begP ptrOf; rw [if_neg h0, if_pos hk]]
    have hk1 : idxF (burnD D).fs s < (burnD D).fs.length := hk
    clear HR h0 hk h go g1
    generalize burnD D = D1 at *
    have HR1 := Go.Lib.hid hR1
    clear hR1
    have fr := (h1.file hk1).1
    have hl := fr.own.len
    have hcap := fr.own.rd.le_cap
    have h65 := (go1.ok.fls _ (fl_get hk1))
    have x0 := fr.c0
    have x1 := fr.c1
    have z0 := fr.frozen 0
    generalize D1.fs.getD (idxF D1.fs s) noFl = f at *
    by_cases hbad : z < 0 ∨ (f.b.length : Int) < z
    · obtain rfl : R = (1, D1) := by rw [← HR1.out, if_pos hbad]
      have HD := Go.Lib.hid (DidL.of (c := 1) h1 HLT.out c1)
      rcases hbad with hz | hz
      · clear HR1 h1 c1 fr hl hk1
        go_wp2_with fail
        go_ret
        exact HD.out
      · have hz0 : ¬ z < 0 := by omega
        have hz1 : ((hd s).nb : Int) < z := by omega
        clear HR1 h1 c1 fr hl hk1
        go_wp2_with fail
        go_ret
        exact HD.out
    · obtain ⟨y, hy⟩ : ∃ y : Nat, z = y := ⟨z.toNat, by omega⟩
      subst hy
      have hR2 : (0, ⟨D1.quota, D1.left, putF D1.fs ⟨s, f.b.take y, min f.safe y⟩⟩) = R := by rw [← HR1.out, if_neg hbad, Int.toNat_natCast]
      have hmin : min ((f.safe : Nat) : Int) (y : Int) = ((min f.safe y : Nat) : Int) := by omega
      generalize min f.safe y = mn at *
      subst hR2
      have hz0 : ¬ (y : Int) < 0 := by omega
      have hz1 : ¬ ((hd s).nb : Int) < y := by omega
      have hyn : y ≤ (hd s).nb := by omega
      have qs := slice_upto (hd s).B (hd s).nb (hd s).cb y (Nat.le_trans hyn hcap)
      have hs1 := grownSet w1 (hd s).k 0 (.slice (hd s).B y (hd s).cb)
      have hs2 := grown_setCell hs1 1 (.int .i64 (mn : Int))
      have hb1 := pairSet0 (x := .slice (hd s).B y (hd s).cb) fr.box
      have hb2 := pairSet1 (x := .int .i64 (mn : Int)) hb1
      obtain ⟨y0, y1, yz⟩ := two_cell hb1
      have yz1 := yz 1
      have cc : Ch (fun k => k = (hd s).k ∨ ∃ a, (hd s).B = some a ∧ k = a.block) w1 ((w1.setCell ⟨(hd s).k, 0, none⟩ (.slice (hd s).B y (hd s).cb)).setCell ⟨(hd s).k, 1, none⟩ (.int .i64 (mn : Int))) := Ch.of_grown hs2 (fun r e => by injection e with e; exact .inl (.inl e.symm))
      have hset := putF_set go1.up ⟨s, f.b.take y, mn⟩
      have hlen := setTo_len go1.up (putF_rising go1.up _) hset hk1
      have h2 := h1.wrote hk1 (x := ⟨(hd s).k, (hd s).B, y, (hd s).cb⟩) rfl hset hlen rfl cc (fun a ha => .inl ⟨a, ha, rfl⟩) hb2 (own8_grown (own8_first fr.own hyn) hs2 (fun a ha e => own8_not fr.own fr.box (by decide) a ha (by injection e)))
      have HD := Go.Lib.hid (DidL.join (c := 0) c1 HLT.out (fr.ch cc) h2.is)
      have HM := Go.Lib.hid hmin
      clear h1 c1 h2 hb1 hb2 cc hs1 hs2 hset hlen fr hl HR1 hbad hmin hk1 yz hcap h65
      go_upto_region 8 with (fail)
      rw [HM.out]
      go_wp2_with fail
      go_ret
      exact HD.out
  · obtain rfl : R = (11, burnD D) := by
      rw [← HR.out]
      unfold truncD truncC
      rw [if_neg h0, if_pos (show ¬ idxF (burnD D).fs s < (burnD D).fs.length from hk)]
    rw [show begC D s = 11 by unfold begC; rw [if_neg h0, if_neg hk], show begP D hd s = .pointer none by unfold begP ptrOf; rw [if_neg h0, if_neg hk]]
    have HD := Go.Lib.hid (DidL.of (c := 11) h1 HLT.out c1)
    clear HR h1 c1 g1 h0 hk h
    go_wp2_with fail
    go_ret
    exact HD.out

set_option maxHeartbeats 4000000 in
set_option maxRecDepth 100000 in
theorem turnL_any (g : Nat) (D1 : Dk) (F : Nat → Prop) (s : ByteArray) (z : Int) (w1 : World) (h : LdIs w1 g D1 F) (go1 : DkGo D1) (hs : s.size ≤ maxLen) :
    Calls Try.prog 32 #[.pointer (some ⟨g, 0, none⟩), .string s, .int .i64 z] w1 (fun e w' => DidL (turnC D1 s z).1 (turnC D1 s z).2 g F w1 e w') := by
  obtain ⟨qv, mb, fu, lv, M, hd, h1⟩ := h
  have HLT := Go.Lib.hid h1.lt
  generalize hR : turnC D1 s z = R
  have HR := Go.Lib.hid hR
  clear hR
  have k1 := h1.c1
  have q1 := h1.look hs
  by_cases hk1 : idxF D1.fs s < D1.fs.length
  · have hR1 : (if z < 0 ∨ ((D1.fs.getD (idxF D1.fs s) noFl).b.length : Int) ≤ z then (1, D1) else (0, ⟨D1.quota, D1.left, putF D1.fs ⟨s, (D1.fs.getD (idxF D1.fs s) noFl).b.set z.toNat ((D1.fs.getD (idxF D1.fs s) noFl).b.getD z.toNat 0 ^^^ 1), (D1.fs.getD (idxF D1.fs s) noFl).safe⟩⟩)) = R := by
      rw [← HR.out]
      unfold turnC
      rw [if_neg (show ¬ ¬ idxF D1.fs s < D1.fs.length from fun h => h hk1)]
    have HR1 := Go.Lib.hid hR1
    clear hR1 HR
    rw [show ptrOf D1.fs hd s = .pointer (some ⟨(hd s).k, 0, none⟩) from if_pos hk1] at q1
    have fr := (h1.file hk1).1
    have hl := fr.own.len
    have x0 := fr.c0
    by_cases hbad : z < 0 ∨ ((D1.fs.getD (idxF D1.fs s) noFl).b.length : Int) ≤ z
    · obtain rfl : R = (1, D1) := by rw [← HR1.out, if_pos hbad]
      have HD := Go.Lib.hid (DidL.of (c := 1) h1 HLT.out (Ch.refl F w1))
      rcases hbad with hz | hz
      · clear HR1 h1 fr hl hk1
        go_enter Try.func32, Try.ntmps32
        go_wp2_with fail
        go_ret
        exact HD.out
      · have hz0 : ¬ z < 0 := by omega
        have hz1 : ((hd s).nb : Int) ≤ z := by omega
        clear HR1 h1 fr hl hk1
        go_enter Try.func32, Try.ntmps32
        go_wp2_with fail
        go_ret
        exact HD.out
    · obtain ⟨y, hy⟩ : ∃ y : Nat, z = y := ⟨z.toNat, by omega⟩
      subst hy
      have hR2 : (0, ⟨D1.quota, D1.left, putF D1.fs ⟨s, (D1.fs.getD (idxF D1.fs s) noFl).b.set y ((D1.fs.getD (idxF D1.fs s) noFl).b.getD y 0 ^^^ 1), (D1.fs.getD (idxF D1.fs s) noFl).safe⟩⟩) = R := by rw [← HR1.out, if_neg hbad, Int.toNat_natCast]
      subst hR2
      have hz0 : ¬ (y : Int) < 0 := by omega
      have hz1 : ¬ ((hd s).nb : Int) ≤ y := by omega
      have hz2 : (0 : Int) ≤ y := by omega
      have hz3 : (y : Int) < (hd s).nb := by omega
      have hyn : y < (hd s).nb := by omega
      obtain ⟨blk, oo, hA, _, hcc⟩ := fr.own.rd.at_ (by omega)
      obtain ⟨rfl, hfz, _⟩ := own_zero (k := 1) (cs := cellsOf (D1.fs.getD (idxF D1.fs s) noFl).b) fr.own hA
      have hc := hcc y hyn
      rw [Nat.zero_add] at hc
      have hzf := hfz y
      have HX := Go.Lib.hid (xor1 ((D1.fs.getD (idxF D1.fs s) noFl).b.getD y 0))
      have hs1 := grownSet w1 blk y (.int .u8 (((D1.fs.getD (idxF D1.fs s) noFl).b.getD y 0 ^^^ 1).toNat : Int))
      have cc : Ch (fun k => k = (hd s).k ∨ ∃ a, (hd s).B = some a ∧ k = a.block) w1 (w1.setCell ⟨blk, y, none⟩ (.int .u8 (((D1.fs.getD (idxF D1.fs s) noFl).b.getD y 0 ^^^ 1).toNat : Int))) := Ch.of_grown hs1 (fun r e => by injection e with e; exact .inl (.inr ⟨_, hA, e.symm⟩))
      have hne : (hd s).k ≠ blk := fun e => own8_not fr.own fr.box (by decide) _ hA e.symm
      have hbx := (hs1.block _ fr.lt (fun e => hne (by injection e))).trans fr.box
      have hset := putF_set go1.up ⟨s, (D1.fs.getD (idxF D1.fs s) noFl).b.set y ((D1.fs.getD (idxF D1.fs s) noFl).b.getD y 0 ^^^ 1), (D1.fs.getD (idxF D1.fs s) noFl).safe⟩
      have hlen := setTo_len go1.up (putF_rising go1.up _) hset hk1
      have h2 := h1.wrote hk1 (x := hd s) rfl hset hlen rfl cc (fun a ha => .inl ⟨a, ha, rfl⟩) hbx (own8_set fr.own hA y _)
      have HD := Go.Lib.hid (DidL.join (c := 0) (Ch.refl F w1) HLT.out (fr.ch cc) h2.is)
      clear h1 h2 cc hs1 hset hlen fr hl HR1 hbad hk1 hcc hfz hne hbx
      rw [hA] at x0
      generalize (D1.fs.getD (idxF D1.fs s) noFl).b.getD y 0 = cv at *
      go_enter Try.func32, Try.ntmps32
      go_upto_region 7 with (fail)
      rw [HX.out]
      go_wp2_with fail
      go_ret
      exact HD.out
  · obtain rfl : R = (11, D1) := by
      rw [← HR.out]
      unfold turnC
      rw [if_pos hk1]
    rw [show ptrOf D1.fs hd s = .pointer none from if_neg hk1] at q1
    have HD := Go.Lib.hid (DidL.of (c := 11) h1 HLT.out (Ch.refl F w1))
    clear HR h1 hk1
    go_enter Try.func32, Try.ntmps32
    go_wp2_with fail
    go_ret
    exact HD.out

end Go.Proofs.Ytfdhfjmmmjhgbaa.DkWalk

/-
  Contract of the landed disk: Append.
-/
namespace Go.Proofs.Ytfdhfjmmmjhgbaa.DkWalk
open Go.RowKit Go.Maps Go.Proofs.Ytfdhfjmmmjhgbaa.MemRow Go.Proofs.Ytfdhfjmmmjhgbaa.Ev Go.Proofs.Ytfdhfjmmmjhgbaa.NameMath Go.Proofs.Ytfdhfjmmmjhgbaa.NameWalk Go.Proofs.Ytfdhfjmmmjhgbaa.EvWalk Go.Proofs.Ytfdhfjmmmjhgbaa.NumMem

theorem rdc_of {w : World} {A : Option Addr} {n cap : Nat} {l : List UInt8} (h : Rd w A n cap l) : RdC 1 w A n cap (cellsOf l) := by
  refine ⟨by rw [cellsOf_length, h.len, Nat.mul_one], h.2.1, h.2.2.1, fun hn => ?_⟩
  obtain ⟨b, o, hA, hc⟩ := h.2.2.2 hn
  refine ⟨b, o, hA, fun i v hi => ?_⟩
  have hl := h.len
  have hil : i < l.length := by
    have := (List.getElem?_eq_some_iff.1 hi).1
    rwa [cellsOf_length] at this
  rw [hc i (by omega)]
  unfold cellsOf at hi
  rw [List.getElem?_map, List.getElem?_eq_getElem hil] at hi
  rw [← hi, List.getD_eq_getElem?_getD, List.getElem?_eq_getElem hil]
  rfl
theorem LdAt.noByte {w : World} {g : Nat} {D : Dk} {F : Nat → Prop} {qv lv : Int} {mb : Nat} {fu : Bool} {M : DataW Nat} {hd : ByteArray → Hd} (h : LdAt w g D F qv mb fu lv M hd) : ∀ o k, w.cell? ⟨g, o, none⟩ ≠ some (.int .u8 k) := by
  intro o k
  rw [cell_of_row w g o _ _ _ h.box]
  match o with
  | 0 => simp
  | 1 => simp
  | 2 => simp
  | 3 => simp
  | n + 4 => simp
/-- The file that is appended to: one that is there, or a new one. -/
structure AppRel (w : World) (F G : Nat → Prop) (D : Dk) (hd : ByteArray → Hd) (s : ByteArray) (x : Hd) : Prop where
  fr : FileR w G (fileOf D.fs s) x
  ap : ∀ y ∈ D.fs, y.name ≠ s → Apart (hd y.name) x
  old : idxF D.fs s < D.fs.length → x = hd s
  new : ¬ idxF D.fs s < D.fs.length → ∀ k, F k → k ≠ x.k ∧ ∀ a, x.B = some a → k ≠ a.block
section
variable {w w' : World} {F G : Nat → Prop} {D : Dk} {hd : ByteArray → Hd} {s : ByteArray} {x : Hd}
theorem AppRel.below (h : AppRel w F G D hd s x) (hb : Below w.heap.size w w') : AppRel w' F G D hd s x :=
  ⟨h.fr.kept (hb.block _ h.fr.lt) (fun a ha => hb.block _ (h.fr.blt a ha)) (fun _ h => h), h.ap, h.old, h.new⟩
theorem AppRel.wide {G' : Nat → Prop} (h : AppRel w F G D hd s x) (hs : ∀ k, G k → G' k) : AppRel w F G' D hd s x := ⟨h.fr.wide hs, h.ap, h.old, h.new⟩
end
theorem fileOf_name (fs : List Fl) (s : ByteArray) : (fileOf fs s).name = s := by
  unfold fileOf
  split
  · next h => exact idxF_name h
  · rfl
/-- All is ready for the map. -/
theorem app_ready {w w' : World} {g : Nat} {D : Dk} {F G : Nat → Prop} {qv lv : Int} {mb : Nat} {fu : Bool} {M : DataW Nat} {hd : ByteArray → Hd} {s : ByteArray} {x x' : Hd} {f' : Fl} (h : LdAt w g D F qv mb fu lv M hd) (go : DkGo D) (r : AppRel w F G D hd s x) (hFG : ∀ k, F k → G k) (hG : ∀ k, G k → k < w.heap.size)
    (hn : f'.name = s) (hk : x'.k = x.k) (hc : Ch (fun k => k = x.k ∨ ∃ a, x.B = some a ∧ k = a.block) w w') (hB : ∀ a, x'.B = some a → (∃ b, x.B = some b ∧ a.block = b.block) ∨ (w.heap.size ≤ a.block ∧ a.block < w'.heap.size))
    (hb : w'.heap[x'.k]? = some (.cells #[.slice x'.B x'.nb x'.cb, .int .i64 f'.safe] 64 (0, 0))) (ho : Own w' 0 5 x'.B x'.nb x'.cb f'.b) :
    ∃ fq hq, LdAt w' g ⟨D.quota, D.left, fq⟩ (up G w w') qv mb fu lv M hq ∧ fq.length ≤ 1000 ∧ SetTo (putF D.fs f') fq f' ∧ FileR w' (up G w w') f' x' ∧ ∀ y ∈ fq, y.name ≠ f'.name → Apart (hq y.name) x' := by
  subst hn
  have fr' : FileR w' (up G w w') f' x' := ⟨hb, ho, by rw [hk]; exact .inl r.fr.fk, fun a ha => by
    rcases hB a ha with ⟨b, hb2, e⟩ | h2
    · rw [e]
      exact .inl (r.fr.fb b hb2)
    · exact .inr h2⟩
  have hset := putF_set go.up f'
  have hl200 := go.ok.len
  have hup : ∀ k, up G w w' k → k < w'.heap.size := fun k hk => up_lt hG hc.size hk
  have new : ∀ y ∈ D.fs, y.name ≠ f'.name → Apart (hd y.name) x' := fun y hy hne2 => by
    have ha := r.ap y hy hne2
    refine ⟨by rw [hk]; exact ha.1, fun a b h1 h2 e => ?_⟩
    rcases hB b h2 with ⟨c, hc2, e2⟩ | h3
    · exact ha.2 a c h1 hc2 (by rw [e, e2])
    · have := (h.files y hy).blt a h1
      omega
  by_cases hkx : idxF D.fs f'.name < D.fs.length
  · obtain rfl := r.old hkx
    have hlen := setTo_len go.up (putF_rising go.up f') hset hkx
    have h2 := h.wrote hkx rfl hset hlen hk hc hB hb ho
    refine ⟨_, _, h2.wide (fun k hk => ?_) hup, by omega, fun y => ?_, fr', fun y hy hne => ?_⟩
    · rcases hk with hk | hk
      · exact .inl (hFG k hk)
      · exact .inr hk
    · constructor
      · intro hy
        rcases (hset y).1 hy with rfl | ⟨_, h4⟩
        · exact .inl rfl
        · exact .inr ⟨hy, h4⟩
      · rintro (rfl | ⟨hy, _⟩)
        · exact (hset y).2 (.inl rfl)
        · exact hy
    · rcases (hset y).1 hy with rfl | ⟨hy, _⟩
      · exact absurd rfl hne
      · rw [setH_ne _ _ hne]
        exact new y hy hne
  · have hkeep := r.new hkx
    have h2 := h.keep hc.size fun k hk => hc.block k (h.lt k hk) fun e => by
      rcases e with e | ⟨a, ha, e⟩
      · exact (hkeep k hk).1 e
      · exact (hkeep k hk).2 a ha e
    exact ⟨D.fs, hd, h2.wide (fun k hk => .inl (hFG k hk)) hup, by omega, hset, fr', new⟩

set_option maxHeartbeats 8000000 in
set_option maxRecDepth 100000 in
theorem appendL_any (g : Nat) (D : Dk) (F : Nat → Prop) (s : ByteArray) (Bb : Option Addr) (m cb : Nat) (b : List UInt8) (w : World) (h : LdIs w g D F) (go : DkGo D) (hs : s.size ≤ maxLen) (rb : Rd w Bb m cb b) (hm : m ≤ 1000000) :
    Calls Try.prog 16 #[.pointer (some ⟨g, 0, none⟩), .string s, .slice Bb m cb] w (fun e w' => DidL (appendD D s b).1 (appendD D s b).2 g F w e w') := by
  obtain ⟨qv, mb, fu, lv, M, hd, h⟩ := h
  have HLT := Go.Lib.hid h.lt
  have hbl := rb.len
  generalize hR : appendD D s b = R
  have HR := Go.Lib.hid hR
  clear hR
  go_enter Try.func16, Try.ntmps16
  go_wp2_with fail
  refine (stands_any g D F qv mb fu lv M hd w h go.ok.left.2).mono ?_
  rintro e w1 ⟨rfl, ⟨lv', h1⟩, g1⟩
  have rb1 := Rd.grown rb g1 h.noByte
  have c1 : Ch F w w1 := Ch.of_grown g1 (fun r e => by injection e with e; subst e; exact .inl h.fg)
  have C1 := Go.Lib.hid c1
  by_cases h0 : D.left = 0
  · have hb0 : burnD D = D := by
      unfold burnD
      rw [if_neg (by omega)]
    rw [hb0] at h1
    obtain rfl : R = (14, D) := by rw [← HR.out]; unfold appendD; rw [if_pos h0]
    rw [decide_eq_true h0]
    have HD := Go.Lib.hid (DidL.of (c := 14) h1 HLT.out c1)
    clear HR h1 c1 g1 h0 hb0 h rb rb1
    go_wp2_with fail
    go_ret
    exact HD.out
  rw [decide_eq_false h0]
  have HR1 : Hid (appendC (burnD D) s b = R) := Go.Lib.hid (by rw [← HR.out]; unfold appendD; rw [if_neg h0])
  have go1 := burn_go go
  clear HR h0 h go rb g1
  generalize burnD D = D1 at *
  have k1 := h1.c1
  have q1 := h1.look_ok hs
  go_upto_region 4 with (fail)
  go_upto_if 21 with (fail)
  go_cut [7, 8] (fun v v8 wx => ∃ x, v = .pointer (some ⟨x.k, 0, none⟩) ∧ v8 = .bool (decide (idxF D1.fs s < D1.fs.length)) ∧ Below w1.heap.size w1 wx ∧ AppRel wx F (up F w1 wx) D1 hd s x)
  case first =>
    by_cases hk : idxF D1.fs s < D1.fs.length
    · rw [decide_eq_true hk, show ptrOf D1.fs hd s = .pointer (some ⟨(hd s).k, 0, none⟩) from if_pos hk]
      have HA : Hid (AppRel w1 F (up F w1 w1) D1 hd s (hd s)) := Go.Lib.hid (by
        refine ⟨?_, fun y hy hne => ?_, fun _ => rfl, fun h => absurd hk h⟩
        · have fr := (h1.file hk).1
          rw [show fileOf D1.fs s = D1.fs.getD (idxF D1.fs s) noFl from if_pos hk]
          exact fr.wide fun _ hf => .inl hf
        · have ha := h1.apart y hy _ (fl_get hk) (by rw [idxF_name hk]; exact hne)
          rwa [idxF_name hk] at ha)
      clear h1 c1 q1
      go_wp2_with fail
      go_meet
      exact ⟨_, rfl, by simp [hk], Below.refl _ _, HA.out⟩
    · rw [decide_eq_false hk, show ptrOf D1.fs hd s = .pointer none from if_neg hk]
      have al : Below w1.heap.size w1 (w1.alloc (.cells #[.slice none 0 0, .int .i64 0] 64)) := (Below.refl _ _).alloc (Nat.le_refl _) _
      have hx := heap_alloc_new w1 (.cells #[.slice none 0 0, .int .i64 0] 64)
      have HA : Hid (AppRel (w1.alloc (.cells #[.slice none 0 0, .int .i64 0] 64)) F (up F w1 (w1.alloc (.cells #[.slice none 0 0, .int .i64 0] 64))) D1 hd s ⟨w1.heap.size, none, 0, 0⟩) := Go.Lib.hid (by
        have e : fileOf D1.fs s = ⟨s, [], 0⟩ := if_neg hk
        refine ⟨?_, fun y hy hne => ?_, fun h => absurd h hk, fun _ k hf => ⟨?_, fun a ha => (by cases ha)⟩⟩
        · rw [e]
          exact ⟨hx, ⟨rfl, .inl ⟨rfl, rfl⟩⟩, .inr ⟨Nat.le_refl _, by simp⟩, fun a ha => (by cases ha)⟩
        · have := (h1.files y hy).lt
          exact ⟨by simp only; omega, fun a b _ hb => (by cases hb)⟩
        · have := h1.lt k hf
          simp only
          omega)
      have AL := Go.Lib.hid al
      clear h1 c1 q1 hx al
      go_wp2_with fail
      go_meet
      exact ⟨_, rfl, by simp [hk], AL.out, HA.out⟩
  case rest =>
    obtain ⟨x, rfl, rfl, bc, ar⟩ := hcut
    have hc := h1.below bc
    have hup : ∀ k, up F w1 wc k → k < wc.heap.size := fun k hk => up_lt h1.lt bc.size hk
    have cc := c1.then_below bc
    have rbc := rb1.below bc
    clear q1 k1
    go_wp2_with fail
    refine (mayL_any s wc hs).mono ?_
    rintro e w2 ⟨rfl, b2⟩
    have h2 := hc.below b2
    have c2 := cc.then_below b2
    have r2 := rbc.below b2
    have a2 := ar.below b2
    cases hmay : mayN s with
    | false =>
      obtain rfl : R = (5, D1) := by rw [← HR1.out]; unfold appendC; rw [if_pos hmay]
      have HD := Go.Lib.hid (DidL.of (c := 5) h2 HLT.out c2)
      clear HR1 h1 c1 hc cc h2 c2 hmay
      go_wp2_with fail
      go_ret
      exact HD.out
    | true =>
      have hR2 : (if 65536 < (fileOf D1.fs s).b.length + b.length ∨ (¬ idxF D1.fs s < D1.fs.length ∧ 200 ≤ D1.fs.length) then (3, D1) else if D1.quota < (usedF D1.fs + b.length : Nat) then (10, D1) else (0, ⟨D1.quota, D1.left, putF D1.fs ⟨s, (fileOf D1.fs s).b ++ b, (fileOf D1.fs s).safe⟩⟩)) = R := by
        rw [← HR1.out]
        unfold appendC
        rw [if_neg (show ¬ mayN s = false by rw [hmay]; decide)]
      have HR2 := Go.Lib.hid hR2
      have x0 := a2.fr.c0
      have hxl := a2.fr.own.len
      have k2 := h2.c1
      have hsz := h2.size go1.up
      have ql : ∀ ty, (Builtin.len_ #[56] ty #[.map (some mb)]).run Try.prog w2 = .ok (.int .i64 (D1.fs.length : Nat)) w2 := fun ty => by rw [← hsz]; exact h2.own.len Try.underlying56 ty
      have h65 : (fileOf D1.fs s).b.length ≤ 65536 := (fileOf_ok go1.ok s).1
      have h200 := go1.ok.len
      have H1 := Go.Lib.hid h1
      have C2 := Go.Lib.hid c2
      have A2 := Go.Lib.hid a2
      have H2 := Go.Lib.hid h2
      have R2 := Go.Lib.hid r2
      clear HR1 h1 c1 hc cc hmay hR2 h2 c2 a2 ar rb1 rbc r2
      go_upto_region 8 with (fail)
      go_cut [8, 28] (fun v8 v wx => v8 = .bool (decide (idxF D1.fs s < D1.fs.length)) ∧ v = .bool (decide (65536 < (fileOf D1.fs s).b.length + b.length ∨ (¬ idxF D1.fs s < D1.fs.length ∧ 200 ≤ D1.fs.length))) ∧ w2 = wx)
      case first =>
        generalize hL : (fileOf D1.fs s).b.length = L at *
        generalize hI : idxF D1.fs s = ix at *
        generalize hN : D1.fs.length = N at *
        clear hL hI hN HR2 H1 C2 A2 H2 R2
        by_cases hbig : 65536 < L + b.length
        · have hd : decide (65536 < L + b.length ∨ (¬ ix < N ∧ 200 ≤ N)) = true := decide_eq_true (.inl hbig)
          have HD := Go.Lib.hid hd
          have i0 : (65536 : Int) < (x.nb : Int) + m := by omega
          clear hd hbig
          go_wp2_with fail
          go_meet
          exact ⟨rfl, by rw [HD.out], rfl⟩
        · have i0 : ¬ (65536 : Int) < (x.nb : Int) + m := by omega
          by_cases hk : ix < N
          · have hd : decide (65536 < L + b.length ∨ (¬ ix < N ∧ 200 ≤ N)) = false := decide_eq_false (fun h => by rcases h with h | h; exact hbig h; exact h.1 hk)
            have HD := Go.Lib.hid hd
            have HK := Go.Lib.hid (decide_eq_true hk)
            rw [decide_eq_true hk]
            clear hd hbig hk
            go_wp2_with fail
            go_meet
            exact ⟨by rw [HK.out], by rw [HD.out], rfl⟩
          · have HK := Go.Lib.hid (decide_eq_false hk)
            by_cases h2 : 200 ≤ N
            · have hd : decide (65536 < L + b.length ∨ (¬ ix < N ∧ 200 ≤ N)) = true := decide_eq_true (.inr ⟨hk, h2⟩)
              have HD := Go.Lib.hid hd
              have i2 : (200 : Int) ≤ N := by omega
              rw [decide_eq_false hk]
              clear hd hbig hk
              go_wp2_with fail
              go_meet
              exact ⟨by rw [HK.out], by rw [HD.out], rfl⟩
            · have hd : decide (65536 < L + b.length ∨ (¬ ix < N ∧ 200 ≤ N)) = false := decide_eq_false (fun h => by rcases h with h | h; exact hbig h; exact h2 h.2)
              have HD := Go.Lib.hid hd
              have i2 : ¬ (200 : Int) ≤ N := by omega
              rw [decide_eq_false hk]
              clear hd hbig hk
              go_wp2_with fail
              go_meet
              exact ⟨by rw [HK.out], by rw [HD.out], rfl⟩
      case rest =>
        obtain ⟨rfl, rfl, rfl⟩ := hcut
        clear ql k2 x0
        by_cases hbig : 65536 < (fileOf D1.fs s).b.length + b.length ∨ (¬ idxF D1.fs s < D1.fs.length ∧ 200 ≤ D1.fs.length)
        · obtain rfl : R = (3, D1) := by rw [← HR2.out, if_pos hbig]
          rw [decide_eq_true hbig]
          have HD := Go.Lib.hid (DidL.of (c := 3) H2.out HLT.out C2.out)
          clear HR2 hbig
          go_wp2_with fail
          go_ret
          exact HD.out
        · rw [decide_eq_false hbig]
          have HR3 : Hid ((if D1.quota < (usedF D1.fs + b.length : Nat) then (10, D1) else (0, ⟨D1.quota, D1.left, putF D1.fs ⟨s, (fileOf D1.fs s).b ++ b, (fileOf D1.fs s).safe⟩⟩)) = R) := Go.Lib.hid (by rw [← HR2.out, if_neg hbig])
          have hsum : (fileOf D1.fs s).b.length + b.length ≤ 65536 := by omega
          have hu := usedF_le (fs := D1.fs) fun f hf => (go1.ok.fls f hf).1
          clear HR2 hbig
          have h2 := H2.out
          have k0 := h2.c0
          have b0 : Below w2.heap.size w2 w2.drew := bel_drew (Below.refl _ _)
          have hcd := h2.below b0
          have hqz := h2.qz
          generalize hU : usedF D1.fs = U at *
          have HU := Go.Lib.hid hU
          clear hU
          have hw : IntKind.i64.wrap ((U : Int) + m) = (U : Int) + m := IntWalk.i64_in _ (by omega)
          go_wp2_with fail
          go_region_held (fun w' => w'.cell? ⟨g, 0, none⟩ = some (.int .i64 qv))
            (first | exact k0 | exact bcell b8 k0)
            (first | (go_at_call 24; refine (usedD_any g D1 F qv mb fu lv' M hd w2.drew hcd go1).mono ?_; rintro e w8 ⟨rfl, bb⟩; rw [HU.out]; have b8 := below_chain b0 bb; clear bb))
          all_goals
            have h8 := h2.below b8
            have c8 := C2.out.then_below b8
            have a8 := A2.out.below b8
            have p8 := R2.out.below b8
            have HUP := Go.Lib.hid hup
            clear k0 b0 hcd h2
            by_cases hov : D1.quota < (U + b.length : Nat)
            · obtain rfl : R = (10, D1) := by rw [← HR3.out, if_pos hov]
              have HD := Go.Lib.hid (DidL.of (c := 10) h8 HLT.out c8)
              have i3 : D1.quota < (U : Int) + m := by omega
              clear HR3 hov h8 c8 a8 p8 hqz hup
              go_wp2_with fail
              go_ret
              exact HD.out
            · have hR4 : (0, ⟨D1.quota, D1.left, putF D1.fs ⟨s, (fileOf D1.fs s).b ++ b, (fileOf D1.fs s).safe⟩⟩) = R := by rw [← HR3.out, if_neg hov]
              have i3 : ¬ D1.quota < (U : Int) + m := by omega
              clear HR3 hov hqz hup
              generalize hf0 : fileOf D1.fs s = f0 at *
              subst hR4
              have fr8 := a8.fr
              rw [hf0] at fr8
              have x0 := fr8.c0
              have hxlt := fr8.lt
              have h63 : x.nb + m ≤ maxLen := by unfold maxLen; omega
              have hsz8 : (x.nb + m) * 1 ≤ 140737488355328 := by omega
              have d8 := rdc_of p8
              have HF0 := Go.Lib.hid hf0
              have FR8 := Go.Lib.hid fr8
              have H8 := Go.Lib.hid h8
              have C8 := Go.Lib.hid c8
              have A8 := Go.Lib.hid a8
              have own8 : OwnC 1 w8 0 5 x.B x.nb x.cb (cellsOf f0.b) := fr8.own
              have lt8 : ∀ k, up F w1 wc k → k < w8.heap.size := fun k hk => Nat.lt_of_lt_of_le (HUP.out k hk) (Nat.le_trans b2.size b8.size)
              have LT8 := Go.Lib.hid lt8
              clear fr8 h8 c8 a8 p8 hf0 hu hw lt8
              go_upto_region 12 with (fail)
              go_wp2_with (at_builtin; refine wpList_append_cells rfl (.tmp 66) (.tmp 67) 33 rfl 5 (.int .u8 0) 1 Try.underlying33 u8_info rfl (by decide) rfl rfl own8 d8 (cellsOf_one b) h63 hsz8 (Nat.zero_le _) ?_; intro A9 c9 w9 o9 g9 loc; have bx9 := (g9.block _ hxlt (fun e => (by cases hB : x.B with
                  | none => rw [hB] at e; cases e
                  | some a => rw [hB] at e; injection e with e; exact own8_not FR8.out.own FR8.out.box (by decide) a hB e.symm))).trans FR8.out.box; obtain ⟨y0, y1, yz⟩ := two_cell bx9; have yz0 := yz 0)
              have hs10 := grownSet w9 x.k 0 (.slice A9 (x.nb + m) c9)
              have c89 : Ch (fun k => k = x.k ∨ ∃ a, x.B = some a ∧ k = a.block) w8 w9 := Ch.of_grown g9 (fun r e => by
                cases hB : x.B with
                | none => rw [hB] at e; cases e
                | some a => rw [hB] at e; injection e with e; exact .inl (.inr ⟨a, rfl, e.symm⟩))
              have c10 : Ch (fun k => k = x.k ∨ ∃ a, x.B = some a ∧ k = a.block) w8 (w9.setCell ⟨x.k, 0, none⟩ (.slice A9 (x.nb + m) c9)) := c89.then_grown hs10 (fun r e => by injection e with e; exact .inl (.inl (.inl e.symm)))
              have hb10 := pairSet0 (x := .slice A9 (x.nb + m) c9) bx9
              have o9' : Own w9 0 5 A9 (x.nb + m) c9 (f0.b ++ b) := by
                unfold Own
                rw [cellsOf_append]
                exact o9
              have ho10 := own8_grown o9' hs10 (fun a ha e => own8_not o9' bx9 (by decide) a ha (by injection e))
              have hB10 : ∀ a, A9 = some a → (∃ b, x.B = some b ∧ a.block = b.block) ∨ (w8.heap.size ≤ a.block ∧ a.block < (w9.setCell ⟨x.k, 0, none⟩ (.slice A9 (x.nb + m) c9)).heap.size) := fun a ha => by
                rcases loc with h | h
                · cases hB : x.B with
                  | none => rw [ha, hB] at h; cases h
                  | some b => rw [ha, hB] at h; injection h with h; exact .inl ⟨b, rfl, h⟩
                · rw [ha] at h
                  injection h with h
                  have h : a.block = w8.heap.size := h
                  have := (World.ownsRow.lt o9' a.block (by simp [Value.ownBlock, ha])).2
                  have := hs10.size
                  exact .inr ⟨by omega, by omega⟩
              obtain ⟨fq, hq, l10, q1, q2, q3, q4⟩ := app_ready (x' := ⟨x.k, A9, x.nb + m, c9⟩) (f' := ⟨s, f0.b ++ b, f0.safe⟩) H8.out go1 A8.out (fun _ hf => .inl hf) LT8.out rfl rfl c10 hB10 hb10 ho10
              have PU := putL_any g ⟨D1.quota, D1.left, fq⟩ _ qv mb fu lv' M hq ⟨s, f0.b ++ b, f0.safe⟩ ⟨x.k, A9, x.nb + m, c9⟩ _ _ l10 q1 (putF_rising go1.up _) q2 hs q3 q4
              have P := Go.Lib.hid PU
              have C10 := Go.Lib.hid c10
              have L10 := Go.Lib.hid l10
              clear PU l10 q2 q3 q4 hB10 ho10 o9' hb10 c10 c89 hs10 loc o9 g9 bx9 y0 y1 yz yz0 own8 d8
              refine (P.out).mono ?_
              rintro e w11 ⟨rfl, l11, g11⟩
              have glt8 := H8.out.lt
              have c811 : Ch (up F w1 wc) w8 w11 := (C10.out.wide fun k hk => (by
                rcases hk with rfl | ⟨a, ha, rfl⟩
                · exact FR8.out.fk
                · exact FR8.out.fb a ha)).trans (Ch.of_grown g11 (fun r e => by injection e with e; subst e; exact .inl (.inl (.inl H8.out.fm))))
              have c111 : Ch F w1 w11 := (Ch.of_below bc).trans (((Ch.of_below b2).trans ((Ch.of_below b8).trans (c811.wide fun k hk => .inl (.inl hk)))).wide fun k hk => hk)
              have HD := Go.Lib.hid (DidL.join (c := 0) C1.out HLT.out c111 (l11.is.wide (fun k hk => by
                have z1 := bc.size
                have z2 := b2.size
                have z3 := b8.size
                have z4 := g11.size
                have z5 := c811.size
                rcases hk with (hk | hk) | hk
                · exact .inl hk
                · exact .inr ⟨by omega, by omega⟩
                · exact .inr ⟨by omega, by omega⟩) (fun k hk => up_lt H1.out.lt c111.size hk)))
              clear l11 g11 c811 c111 glt8 P C10 L10 FR8 H8 A8 LT8 C8
              go_wp2_with fail
              go_ret
              exact HD.out

end Go.Proofs.Ytfdhfjmmmjhgbaa.DkWalk

/-
  Contract of the landed disk: Crash.
-/
namespace Go.Proofs.Ytfdhfjmmmjhgbaa.DkWalk
open Go.RowKit Go.Maps Go.Proofs.Ytfdhfjmmmjhgbaa.MemRow Go.Proofs.Ytfdhfjmmmjhgbaa.Ev Go.Proofs.Ytfdhfjmmmjhgbaa.NameMath Go.Proofs.Ytfdhfjmmmjhgbaa.NameWalk Go.Proofs.Ytfdhfjmmmjhgbaa.EvWalk Go.Proofs.Ytfdhfjmmmjhgbaa.NumMem

theorem crashIf_rising {left : Lit → Bool} {keep : Int} {fs : List Fl} (h : Rising fs) : Rising (fs.map (crashIf left keep)) := by
  unfold Rising
  rw [crashIf_names]
  exact h
set_option maxHeartbeats 8000000 in
set_option maxRecDepth 100000 in
theorem crashLd_any (g : Nat) (D : Dk) (F : Nat → Prop) (keep : Int) (w : World) (h : LdIs w g D F) (go : DkGo D) (hkp : -9223372036854775808 ≤ keep ∧ keep ≤ 9223372036854775807) :
    Calls Try.prog 17 #[.pointer (some ⟨g, 0, none⟩), .int .i64 keep] w fun e w' => e = .returned (.tuple #[]) ∧ LdIs w' g (crashD D keep) (up F w w') ∧ Ch F w w' := by
  obtain ⟨qv, mb, fu, lv, M, hd, h⟩ := h
  have k1 := h.c1
  have hown := h.own
  have MP := h.mp
  have hsz := h.lt mb h.fm
  have HLT := Go.Lib.hid h.lt
  have H := Go.Lib.hid h
  have GO := Go.Lib.hid go
  obtain ⟨K, hK⟩ : ∃ K : Nat, max keep 0 = K := ⟨(max keep 0).toNat, by omega⟩
  have HK := Go.Lib.hid hK
  clear h go hK
  go_enter Try.func17, Try.ntmps17
  go_wp2_with (at_range; refine wpList_range_own _ rfl _ 56 rfl 9 62 lawK Try.underlying56 ptrR mb D.fs.length M rfl hown ?_; intro w0 hrg0 hg0 hs0)
  go_frame
  go_loopw [5, 6] (fun _ _ wr => ∃ (left : Lit → Bool) (cnt : Nat) (hd' : ByteArray → Hd), wr.ranges Try.prog 9 ptrR mb w.heap.size D.fs.length M left cnt ∧ Hid (LdAt wr g ⟨D.quota, D.left, D.fs.map (crashIf left keep)⟩ F qv mb fu lv M hd') ∧ Hid (∀ y ∈ D.fs, (hd' y.name).k = (hd y.name).k) ∧ Hid (Ch F w wr)) (fun _ _ wr => wr.rangeLeft mb w.heap.size)
  case atStart =>
    have hl : ∀ f ∈ D.fs, has M (keyF f.name) = true := fun f hf => (MP.keys _).2 ⟨f, hf, rfl⟩
    refine ⟨_, _, hd, hrg0, Go.Lib.hid ?_, Go.Lib.hid fun _ _ => rfl, Go.Lib.hid (Ch.of_below (grown_below hg0))⟩
    rw [crashIf_start keep hl]
    exact H.out.below (grown_below hg0)
  case round =>
    obtain ⟨left, cnt, hd', hrg, HA, HE, HC⟩ := hrel
    clear hrg0 hg0 hs0
    go_wp2_with (at_next; refine wpList_next_fs _ rfl _ rfl MP mb w.heap.size D.fs.length _ _ rfl hrg ?_ ?_)
    · intro hc0 hl0
      have ha := HA.out
      rw [crashIf_end _ _ hl0] at ha
      have k2 := ha.c2
      have k3 := ha.c3
      have z2 := ha.frozen 2
      have hb1 := four_set (x := .bool false) (i := 2) ha.box (by omega)
      have z3 : (wr.setCell ⟨g, 2, none⟩ (.bool false)).frozen? ⟨g, 3, none⟩ = false := by simp [World.frozen?, hb1]
      have hb2 := four_set (x := .int .i64 0) (i := 3) hb1 (by omega)
      have hs1 := grownSet wr g 2 (.bool false)
      have hs2 := grown_setCell hs1 3 (.int .i64 0)
      have h2 : LdAt ((wr.setCell ⟨g, 2, none⟩ (.bool false)).setCell ⟨g, 3, none⟩ (.int .i64 0)) g (crashD D keep) F qv mb false 0 M hd' := ha.boxed hs2 hb2 ha.qz rfl (fun h => by cases h)
      have c2 : Ch F w ((wr.setCell ⟨g, 2, none⟩ (.bool false)).setCell ⟨g, 3, none⟩ (.int .i64 0)) := HC.out.then_grown hs2 (fun r e => by injection e with e; subst e; exact .inl (.inl ha.fg))
      have HR := Go.Lib.hid (h2.is.wide (G := up F w _) (fun _ hf => .inl hf) (fun _ hk => up_lt HLT.out c2.size hk))
      have HC2 := Go.Lib.hid c2
      clear h2 c2 hs1 hs2 hb1 hb2 ha hrg HA HC HE
      go_wp2_with fail
      go_end0
      exact ⟨rfl, HR.out, HC2.out⟩
    · intro f hf w2 cnt2 hlk hfs hrg2 hlt hg2 hs2 hen
      have hne : ∀ k, F k → k ≠ w.heap.size := fun k hk e => by have := HLT.out k hk; omega
      have hF2 : ∀ k, F k → w2.heap[k]? = wr.heap[k]? := fun k hk => hg2.block k (HA.out.lt k hk) (fun e => hne k hk (by injection e))
      have h2 := HA.out.keep hg2.size hF2
      have c2 : Ch F w w2 := HC.out.then_grown hg2 (fun r e => by injection e with e; subst e; exact .inl (.inr ⟨Nat.le_refl _, hrg.lt⟩))
      have hr' : Rising (D.fs.map (crashIf left keep)) := crashIf_rising GO.out.up
      have efc : crashIf left keep f = f := if_pos hlk
      have hf' : f ∈ D.fs.map (crashIf left keep) := List.mem_map.2 ⟨f, hf, efc⟩
      have hidx := idx_lt hf'
      have hat := idx_at hr' hf'
      have fr := (h2.file hidx).1
      rw [hat] at fr
      have hkk := HE.out f hf
      have x0 := fr.c0
      have x1 := fr.c1
      have z0 := fr.frozen 0
      rw [hkk] at x0 x1 z0
      have hl := fr.own.len
      have hcap := fr.own.rd.le_cap
      have hok := GO.out.ok.fls f hf
      have hset := crashIf_step GO.out.up hf keep hlk
      have hN : crashN keep f = f.safe + min K (f.b.length - f.safe) := by
        unfold crashN
        have := HK.out
        congr 2
        omega
      have hmn : min (max keep 0) (((hd' f.name).nb : Int) - (f.safe : Int)) = ((min K (f.b.length - f.safe) : Nat) : Int) := by
        rw [HK.out]
        omega
      have hmle : f.safe + min K (f.b.length - f.safe) ≤ (hd' f.name).nb := by omega
      generalize min K (f.b.length - f.safe) = mn at *
      obtain ⟨N, hNN⟩ : ∃ N, N = f.safe + mn := ⟨_, rfl⟩
      rw [← hNN] at hN hmle
      have w1' : IntKind.i64.wrap (((hd' f.name).nb : Int) - (f.safe : Int)) = ((hd' f.name).nb : Int) - (f.safe : Int) := IntWalk.i64_in _ (by omega)
      have w2' : IntKind.i64.wrap ((f.safe : Int) + (mn : Int)) = (f.safe : Int) + (mn : Int) := IntWalk.i64_in _ (by omega)
      have qs := slice_upto (hd' f.name).B (hd' f.name).nb (hd' f.name).cb N (Nat.le_trans hmle hcap)
      rw [show ((N : Nat) : Int) = (f.safe : Int) + (mn : Int) by omega] at qs
      have hs3 := grownSet w2 (hd' f.name).k 0 (.slice (hd' f.name).B N (hd' f.name).cb)
      have hs4 := grown_setCell hs3 1 (.int .i64 (N : Int))
      have hb3 := pairSet0 (x := .slice (hd' f.name).B N (hd' f.name).cb) fr.box
      have hb4 := pairSet1 (x := .int .i64 (N : Int)) hb3
      obtain ⟨y0, y1, yz⟩ := two_cell hb3
      have yz1 := yz 1
      have cc : Ch (fun k => k = (hd' f.name).k ∨ ∃ a, (hd' f.name).B = some a ∧ k = a.block) w2 ((w2.setCell ⟨(hd' f.name).k, 0, none⟩ (.slice (hd' f.name).B N (hd' f.name).cb)).setCell ⟨(hd' f.name).k, 1, none⟩ (.int .i64 (N : Int))) := Ch.of_grown hs4 (fun r e => by injection e with e; exact .inl (.inl e.symm))
      have efl : crashL keep f = ⟨f.name, f.b.take N, N⟩ := by unfold crashL; rw [hN]
      rw [efl] at hset
      have h4 := h2.wroteG (G := F) hidx (fs' := D.fs.map (crashIf (strike left f.name) keep)) (f := ⟨f.name, f.b.take N, N⟩) (x := ⟨(hd' f.name).k, (hd' f.name).B, N, (hd' f.name).cb⟩) rfl hset (by simp) rfl cc (fun a ha => .inl ⟨a, ha, rfl⟩) (fun _ h => h) (fun k hk => Nat.lt_of_lt_of_le (h2.lt k hk) hs4.size) fr.fb hb4 (own8_grown (own8_first fr.own hmle) hs4 (fun a ha e => own8_not fr.own fr.box (by decide) a ha (by injection e)))
      have c4 : Ch F w ((w2.setCell ⟨(hd' f.name).k, 0, none⟩ (.slice (hd' f.name).B N (hd' f.name).cb)).setCell ⟨(hd' f.name).k, 1, none⟩ (.int .i64 (N : Int))) := c2.trans ((fr.ch cc).wide fun _ hk => .inl hk)
      have e4 : ∀ y ∈ D.fs, (setH hd' f.name ⟨(hd' f.name).k, (hd' f.name).B, N, (hd' f.name).cb⟩ y.name).k = (hd y.name).k := fun y hy => by
        unfold setH
        split
        · next e => rw [e]; exact hkk
        · exact HE.out y hy
      have hrg4 := hrg2.kept hs4 (fun e => (h2.file hidx).2.2 (by injection e with e; exact e.symm)) (fun e => hne _ fr.fk (by injection e with e; exact e.symm))
      have HLEFT := hrg.left_eq
      have HMN := Go.Lib.hid hmn
      have H4 := Go.Lib.hid h4
      have C4 := Go.Lib.hid c4
      have E4 := Go.Lib.hid e4
      rw [hkk] at H4 C4 E4 hrg4 y0 y1 yz1
      clear hmn h4 c4 e4 cc efl hset hb3 hb4 hs3 hs4 fr hat hidx hf' efc hr' c2 h2 hF2 hne yz hrg2 hkk hN hl hcap hok HE HC HA hrg hmle hNN hg2 hs2
      generalize (hd f.name).k = kf at *
      generalize (hd' f.name).B = B at *
      generalize (hd' f.name).nb = nb at *
      generalize (hd' f.name).cb = cb at *
      generalize f.safe = sf at *
      go_upto_region 3 with (fail)
      go_region
      rw [HMN.out]
      go_upto_region 4 with (fail)
      go_region
      go_wp2_with fail
      go_roundw
      case rel =>
        have bdd := fun W : World => (bel_drew (bel_drew (Below.refl W.heap.size W)))
        exact ⟨_, cnt2, _, hrg4, Go.Lib.hid (H4.out.below (bdd _)), Go.Lib.hid E4.out, Go.Lib.hid (C4.out.then_below (bdd _))⟩
      case measure =>
        have e := hrg4.left_eq
        rw [HLEFT]
        exact Nat.lt_of_le_of_lt (Nat.le_of_eq e) hlt

end Go.Proofs.Ytfdhfjmmmjhgbaa.DkWalk

/-
  Contract of the landed disk: Clone.
-/
namespace Go.Proofs.Ytfdhfjmmmjhgbaa.DkWalk
open Go.RowKit Go.Maps Go.Proofs.Ytfdhfjmmmjhgbaa.MemRow Go.Proofs.Ytfdhfjmmmjhgbaa.Ev Go.Proofs.Ytfdhfjmmmjhgbaa.NameMath Go.Proofs.Ytfdhfjmmmjhgbaa.NameWalk Go.Proofs.Ytfdhfjmmmjhgbaa.EvWalk Go.Proofs.Ytfdhfjmmmjhgbaa.NumMem

theorem run_makeHintD {P : Program} {t k e : TypeId} (hu : P.underlying t = some (.map k e)) (q : IntKind) (n : Int) (w : World) : (Instr.makeMap t (some (.int q n))).run P w = .ok (.map (some w.heap.size)) (w.alloc (.map #[] 0)) := by
  simp [Instr.makeMap, run_underlying hu, asInt, asIntOf, Result.andThen]
set_option maxHeartbeats 8000000 in
set_option maxRecDepth 100000 in
theorem cloneL_any (g : Nat) (D : Dk) (F : Nat → Prop) (w : World) (h : LdIs w g D F) (go : DkGo D) :
    Calls Try.prog 15 #[.pointer (some ⟨g, 0, none⟩)] w fun e w' => ∃ g', e = .returned (.pointer (some ⟨g', 0, none⟩)) ∧ LdIs w' g' D (fun k => w.heap.size ≤ k ∧ k < w'.heap.size) ∧ Below w.heap.size w w' := by
  obtain ⟨qv, mb, fu, lv, M, hd, h⟩ := h
  have k0 := h.c0
  have k1 := h.c1
  have k2 := h.c2
  have k3 := h.c3
  have H := Go.Lib.hid h
  have GO := Go.Lib.hid go
  clear h go
  go_enter Try.func15, Try.ntmps15
  go_upto_region 2 with (fail)
  have bx1 := heap_alloc_new w (.cells #[.int .i64 qv, .map (some mb), .bool fu, .int .i64 lv] 58)
  have b1 : Below w.heap.size w (w.alloc (.cells #[.int .i64 qv, .map (some mb), .bool fu, .int .i64 lv] 58)) := (Below.refl _ _).alloc (Nat.le_refl _) _
  have s1 : (w.alloc (.cells #[.int .i64 qv, .map (some mb), .bool fu, .int .i64 lv] 58)).heap.size = w.heap.size + 1 := by simp
  generalize w.alloc (.cells #[.int .i64 qv, .map (some mb), .bool fu, .int .i64 lv] 58) = w1 at *
  have h1 := H.out.below b1
  have q1 := h1.c1
  have hsz := h1.size GO.out.up
  have ql : ∀ ty, (Builtin.len_ #[56] ty #[.map (some mb)]).run Try.prog w1 = .ok (.int .i64 (D.fs.length : Nat)) w1 := fun ty => by rw [← hsz]; exact h1.own.len Try.underlying56 ty
  have hmm := run_makeHintD (P := Try.prog) (t := 56) Try.underlying56
  have bx2 : (w1.alloc (.map #[] 0)).heap[w.heap.size]? = some (.cells #[.int .i64 qv, .map (some mb), .bool fu, .int .i64 lv] 58 (0, 0)) := ((World.grownBy_alloc w1 (.map #[] 0) none).block _ (by omega) (by simp)).trans bx1
  have b2 : Below w.heap.size w (w1.alloc (.map #[] 0)) := b1.alloc b1.size _
  have s2 : (w1.alloc (.map #[] 0)).heap.size = w.heap.size + 2 := by simp [s1]
  have o2 : (w1.alloc (.map #[] 0)).ownsMap Try.prog 9 ptrR w1.heap.size 0 (.map []) := World.ownsMap_made w1 Try.prog 9 ptrR
  have z2 : (w1.alloc (.map #[] 0)).frozen? ⟨w.heap.size, 1, none⟩ = false := by simp only [World.frozen?, bx2]; simp
  have y2 : (w1.alloc (.map #[] 0)).cell? ⟨w.heap.size, 1, none⟩ = some (.map (some mb)) := by rw [cell_of_row _ w.heap.size 1 _ _ _ bx2]; rfl
  have bxS := four_set (x := .map (some (w.heap.size + 1))) (i := 1) bx1 (by omega)
  have hsS := grownSet w1 w.heap.size 1 (.map (some (w.heap.size + 1)))
  have bS := b1.setCell (Nat.le_refl _) (p := ⟨w.heap.size, 1, none⟩) (.map (some (w.heap.size + 1)))
  have sS : (w1.setCell ⟨w.heap.size, 1, none⟩ (.map (some (w.heap.size + 1)))).heap.size = w.heap.size + 1 := by rw [← s1]; simp [World.setCell]
  have o3 : ((w1.setCell ⟨w.heap.size, 1, none⟩ (.map (some (w.heap.size + 1)))).alloc (.map #[] 0)).ownsMap Try.prog 9 ptrR (w.heap.size + 1) 0 (.map []) := by
    have := World.ownsMap_made (w1.setCell ⟨w.heap.size, 1, none⟩ (.map (some (w.heap.size + 1)))) Try.prog 9 ptrR
    rwa [sS] at this
  have bx3 := ((World.grownBy_alloc (w1.setCell ⟨w.heap.size, 1, none⟩ (.map (some (w.heap.size + 1)))) (.map #[] 0) none).block w.heap.size (by omega) (by simp)).trans bxS
  have b3 := bS.alloc bS.size (.map #[] 0)
  have s3 : ((w1.setCell ⟨w.heap.size, 1, none⟩ (.map (some (w.heap.size + 1)))).alloc (.map #[] 0)).heap.size = w.heap.size + 2 := by simp [sS]
  go_upto_region 3 with (fail)
  generalize (w1.setCell ⟨w.heap.size, 1, none⟩ (.map (some (w.heap.size + 1)))).alloc (.map #[] 0) = w3 at *
  have h3 : LdAt w3 w.heap.size ⟨D.quota, D.left, []⟩ (fun k => w.heap.size ≤ k ∧ k < w3.heap.size) qv (w.heap.size + 1) fu lv (.map []) (fun _ => ⟨0, none, 0, 0⟩) :=
    ⟨bx3, H.out.qz, H.out.lz, H.out.l0, o3, MapOf.empty _, fun _ h => (by simp at h), fun _ h => (by simp at h), ⟨by omega, by omega⟩, ⟨by omega, by omega⟩, fun k hk => hk.2⟩
  have hh3 := H.out.below b3
  have hown := hh3.own
  have MP := hh3.mp
  have p1 := hh3.c1
  have H3 := Go.Lib.hid h3
  have B3 := Go.Lib.hid b3
  have S3 := Go.Lib.hid s3
  clear bx1 b1 s1 h1 q1 ql hmm bx2 b2 s2 o2 z2 y2 hsS bxS sS bS bx3 o3 h3 hh3 b3 k0 k1 k2 k3 hsz s3
  go_wp2_with (at_range; refine wpList_range_own _ rfl _ 56 rfl 9 62 lawK Try.underlying56 ptrR mb D.fs.length M rfl hown ?_; intro w4 hrg4 hg4 hs4)
  go_frame
  go_loopw [4, 5] (fun _ _ wr => ∃ (left : Lit → Bool) (cnt : Nat) (Mc : DataW Nat) (hdc : ByteArray → Hd), wr.ranges Try.prog 9 ptrR mb w3.heap.size D.fs.length M left cnt ∧ Hid (LdAt wr w.heap.size ⟨D.quota, D.left, came left D.fs⟩ (fun k => w.heap.size ≤ k ∧ k < wr.heap.size ∧ k ≠ w3.heap.size) qv (w.heap.size + 1) fu lv Mc hdc) ∧ Below w.heap.size w wr) (fun _ _ wr => wr.rangeLeft mb w3.heap.size)
  case atStart =>
    have hl : ∀ f ∈ D.fs, has M (keyF f.name) = true := fun f hf => (MP.keys _).2 ⟨f, hf, rfl⟩
    have hb4 := grown_below hg4
    have s3 := S3.out
    refine ⟨_, _, .map [], fun _ => ⟨0, none, 0, 0⟩, hrg4, Go.Lib.hid ?_, below_chain B3.out hb4⟩
    rw [came_start hl]
    have h4 := H3.out.below hb4
    refine ⟨h4.box, h4.qz, h4.lz, h4.l0, h4.own, h4.mp, fun _ h => (by simp at h), fun _ h => (by simp at h), ⟨by omega, by omega, by omega⟩, ⟨by omega, by omega, by omega⟩, fun k hk => hk.2.1⟩
  case round =>
    obtain ⟨left, cnt, Mc, hdc, hrg, HA, hb⟩ := hrel
    clear hrg4 hg4 hs4
    go_wp2_with (at_next; refine wpList_next_fs _ rfl _ rfl MP mb w3.heap.size D.fs.length _ _ rfl hrg ?_ ?_)
    · intro hc0 hl0
      have ha := HA.out
      rw [came_end _ hl0] at ha
      have HR := Go.Lib.hid (ha.is.wide (G := fun k => w.heap.size ≤ k ∧ k < wr.heap.size) (fun k hk => ⟨hk.1, hk.2.1⟩) (fun k hk => hk.2))
      clear ha HA hrg
      go_wp2_with fail
      go_ret
      exact ⟨_, rfl, HR.out, hb⟩
    · intro f hf w5 cnt5 hlk hfs hrg5 hlt hg5 hs5 hen
      have s3 := S3.out
      have hF : ∀ k, (w.heap.size ≤ k ∧ k < wr.heap.size ∧ k ≠ w3.heap.size) → w5.heap[k]? = wr.heap[k]? := fun k hk => hg5.block k hk.2.1 (fun e => hk.2.2 (by injection e))
      have h5 := HA.out.keep hg5.size hF
      have b5 : Below w.heap.size w w5 := hb.grown hg5 hb.size (fun r e => by injection e with e; omega)
      have ho := H.out.below b5
      have fr := ho.files f hf
      have x0 := fr.c0
      have x1 := fr.c1
      have g1 := h5.c1
      have hn1 : some w.heap.size ≠ some (w.heap.size + 1) := fun e => by injection e with e; omega
      have hn2 : some (hd f.name).k ≠ some (w.heap.size + 1) := fun e => by
        have := (H.out.files f hf).lt
        injection e with e
        omega
      have hown5 := h5.own
      have hkey := keyS hfs
      have hle : (hd f.name).nb ≤ 1000000 := by
        have := (GO.out.ok.fls f hf).1
        have := fr.own.len
        omega
      have hlen : (came left D.fs).length ≤ 200 := Nat.le_trans (List.length_filter_le _ _) GO.out.ok.len
      have hmx : (came left D.fs).length < maxLen := by unfold maxLen; omega
      have bd : Below w5.heap.size w5 w5.drew := bel_drew (Below.refl _ _)
      have own5 : Own w5.drew 0 5 (hd f.name).B (hd f.name).nb (hd f.name).cb f.b := fr.own
      have HLEFT := hrg.left_eq
      have H5 := Go.Lib.hid h5
      have B5 := Go.Lib.hid b5
      have HF := Go.Lib.hid hf
      have S5 := Go.Lib.hid hs5
      have HRG := Go.Lib.hid hrg5
      clear h5 b5 ho fr hg5 hF hrg HA s3 hs5 hrg5
      generalize (hd f.name).k = kf at *
      generalize (hd f.name).B = B at *
      generalize (hd f.name).nb = nb at *
      generalize (hd f.name).cb = cb at *
      go_upto_region 6 with (fail)
      go_region_held_law (fun w' => w'.cell? ⟨w.heap.size, 1, none⟩ = some (.map (some (w.heap.size + 1))) ∧ w'.cell? ⟨kf, 0, none⟩ = some (.slice B nb cb) ∧ w'.cell? ⟨kf, 1, none⟩ = some (.int .i64 f.safe))
        (first | exact ⟨g1, x0, x1⟩ | exact ⟨bcell (below_chain bd b6) g1, bcell (below_chain bd b6) x0, bcell (below_chain bd b6) x1⟩ | exact ⟨bcell b7 g1, bcell b7 x0, bcell b7 x1⟩ | exact ⟨hg8.cell (bcell b7 g1) hn1, hg8.cell (bcell b7 x0) hn2, hg8.cell (bcell b7 x1) hn2⟩)
        (first
          | (go_at_call 34; refine (cloneB_any B nb cb f.b w5.drew own5 hle).mono ?_; rintro e w6 ⟨B6, c6, rfl, o6, b6⟩; have b7 := (below_chain bd b6).alloc (below_chain bd b6).size (.cells #[.slice B6 nb c6, .int .i64 f.safe] 64); have hown7 := hown5.kept (below_grown b7 none) (by simp); obtain ⟨w8, hrun8, hown8, hg8⟩ := hown7.update lawK Try.underlying56 hmx hkey (ptrR_some w6.heap.size)))
      have z3 := S3.out
      have hr5 := HRG.out.lt
      have wz5 : w5.drew.heap.size = w5.heap.size := rfl
      have wz6 := b6.size
      have wz7 : (w6.alloc (.cells #[.slice B6 nb c6, .int .i64 f.safe] 64)).heap.size = w6.heap.size + 1 := by simp
      have wz8 := hg8.size
      have wzr := S5.out
      have wzb := hb.size
      have hbx := heap_alloc_new w6 (.cells #[.slice B6 nb c6, .int .i64 f.safe] 64)
      have ho7 := o6.below ((Below.refl _ _).alloc (Nat.le_refl _) (.cells #[.slice B6 nb c6, .int .i64 f.safe] 64))
      have h7 := H5.out.below b7
      generalize hw7 : w6.alloc (.cells #[.slice B6 nb c6, .int .i64 f.safe] 64) = w7 at *
      have h7' := h7.wide (G := fun k => w.heap.size ≤ k ∧ k < w7.heap.size ∧ k ≠ w3.heap.size) (fun k hk => ⟨hk.1, by omega, hk.2.2⟩) (fun k hk => hk.2.1)
      have hB6 : ∀ a, B6 = some a → w5.heap.size ≤ a.block ∧ a.block < w6.heap.size := fun a ha => World.ownsRow.lt o6 a.block (by simp [Value.ownBlock, ha])
      have fx : FileR w7 (fun k => w.heap.size ≤ k ∧ k < w7.heap.size ∧ k ≠ w3.heap.size) f ⟨w6.heap.size, B6, nb, c6⟩ := ⟨hbx, own8_lower ho7, ⟨by simp only; omega, by simp only; omega, by simp only; omega⟩, fun a ha => by
        have := hB6 a ha
        exact ⟨by omega, by omega, by omega⟩⟩
      have hap : ∀ y ∈ came left D.fs, y.name ≠ f.name → Apart (hdc y.name) ⟨w6.heap.size, B6, nb, c6⟩ := fun y hy _ => by
        have h1 := H5.out.files y hy
        refine ⟨by have := h1.lt; simp only; omega, fun a b ha hb2 => ?_⟩
        have h2 := h1.blt a ha
        have h3 := hB6 b hb2
        omega
      have h8 := h7'.named (came_rising GO.out.up) (came_step GO.out.up HF.out hlk) hown8 hg8 fx hap
      have h8' := h8.wide (G := fun k => w.heap.size ≤ k ∧ k < w8.heap.size ∧ k ≠ w3.heap.size) (fun k hk => ⟨hk.1, by omega, hk.2.2⟩) (fun k hk => hk.2.1)
      have hmb := H.out.lt mb H.out.fm
      have hrg7 := HRG.out.kept (below_grown b7 none) (by simp) (by simp)
      have hrg8 := hrg7.kept hg8 (fun e => by injection e with e; omega) (fun e => by injection e with e; omega)
      have b8 : Below w.heap.size w w8 := (below_chain B5.out b7).grown hg8 (by omega) (fun j e => by injection e with e; omega)
      have H8 := Go.Lib.hid h8'
      clear h7 h7' h8 h8' fx hap hB6 hbx ho7 hw7 hrun8 hown8 hg8 hown7 o6 b6 b7 own5 hown5 hrg7 x0 x1 g1 hkey
      go_wp2_with fail
      go_roundw
      case rel => exact ⟨_, cnt5, _, _, hrg8, Go.Lib.hid H8.out, b8⟩
      case measure => rw [hrg8.left_eq, HLEFT]; exact hlt

end Go.Proofs.Ytfdhfjmmmjhgbaa.DkWalk

/-
  DERIVED: THE SHELF's CONTRACTS AT THIS DUMP, IN PLAIN WORDS (tools/lay-plain.mjs out of 'TryShelf.lean', which tools/lay-shelf.mjs wrote): THE SAME DECLARATIONS UNDER THE SAME NAMES: 'import', 'namespace', 'open', 'def', 'theorem' AND NOTHING ELSE: no command of the shelf's: FOR A HAND-IN. Each laying: the table of numbers ('.._ren') and one theorem, a field a fact of the dump's own or the kernel's comparison; each contract: ONE APPLICATION.
-/
namespace Go.Proofs
open Go.Shelf
def Try.lays190_ren : Go.Shelf.Ren := ⟨fun | 190 => 53 | 125 => 57 | 258 => 56 | 128 => 67 | 129 => 68 | 302 => 58 | 303 => 59 | 304 => 60 | 305 => 61 | 306 => 62 | 307 => 63 | 308 => 64 | 309 => 65 | 310 => 66 | 333 => 69 | 329 => 70 | 330 => 71 | 334 => 72 | 335 => 73 | 336 => 74 | 344 => 75 | n => n, fun | 31 => 38 | 9 => 9 | 3 => 3 | 46 => 83 | 0 => 0 | 51 => 94 | 53 => 96 | 4 => 4 | 183 => 86 | 182 => 85 | 131 => 91 | 5 => 5 | 218 => 97 | 222 => 101 | 228 => 103 | 229 => 104 | n => n, fun | n => n⟩
theorem Try.lays190 : Go.Proofs.Lays.n190 Try.prog Try.lays190_ren := {
  mixed := by kernel_rfl
  f125 := Try.func57.trans (congrArg some (by kernel_rfl))
  f128 := Try.func67.trans (congrArg some (by kernel_rfl))
  f129 := Try.func68.trans (congrArg some (by kernel_rfl))
  f190 := Try.func53.trans (congrArg some (by kernel_rfl))
  f258 := Try.func56.trans (congrArg some (by kernel_rfl))
  f302 := Try.func58.trans (congrArg some (by kernel_rfl))
  f303 := Try.func59.trans (congrArg some (by kernel_rfl))
  f304 := Try.func60.trans (congrArg some (by kernel_rfl))
  f305 := Try.func61.trans (congrArg some (by kernel_rfl))
  f306 := Try.func62.trans (congrArg some (by kernel_rfl))
  f307 := Try.func63.trans (congrArg some (by kernel_rfl))
  f308 := Try.func64.trans (congrArg some (by kernel_rfl))
  f309 := Try.func65.trans (congrArg some (by kernel_rfl))
  f310 := Try.func66.trans (congrArg some (by kernel_rfl))
  f329 := Try.func70.trans (congrArg some (by kernel_rfl))
  f330 := Try.func71.trans (congrArg some (by kernel_rfl))
  f333 := Try.func69.trans (congrArg some (by kernel_rfl))
  f334 := Try.func72.trans (congrArg some (by kernel_rfl))
  f335 := Try.func73.trans (congrArg some (by kernel_rfl))
  f336 := Try.func74.trans (congrArg some (by kernel_rfl))
  f344 := Try.func75.trans (congrArg some (by kernel_rfl))
  t0 := Try.underlying0
  a0 := Try.isAgg0
  z0 := Try.sizeOf0
  v0 := Try.zeroValue0
  t3 := Try.underlying3
  a3 := Try.isAgg3
  z3 := Try.sizeOf3
  v3 := Try.zeroValue3
  t4 := Try.underlying4
  a4 := Try.isAgg4
  z4 := Try.sizeOf4
  v4 := Try.zeroValue4
  t5 := Try.underlying5
  a5 := Try.isAgg5
  z5 := Try.sizeOf5
  v5 := Try.zeroValue5
  t9 := Try.underlying9
  a9 := Try.isAgg9
  z9 := Try.sizeOf9
  v9 := Try.zeroValue9
  t31 := Try.underlying38
  a31 := Try.isAgg38
  z31 := Try.sizeOf38
  v31 := Try.zeroValue38
  t46 := Try.underlying83
  a46 := Try.isAgg83
  z46 := Try.sizeOf83
  v46 := Try.zeroValue83
  t51 := Try.underlying94
  a51 := Try.isAgg94
  z51 := Try.sizeOf94
  v51 := Try.zeroValue94
  t53 := Try.underlying96
  a53 := Try.isAgg96
  z53 := Try.sizeOf96
  v53 := Try.zeroValue96
  t131 := Try.underlying91
  a131 := Try.isAgg91
  z131 := Try.sizeOf91
  v131 := Try.zeroValue91
  t182 := Try.underlying85
  a182 := Try.isAgg85
  z182 := Try.sizeOf85
  v182 := Try.zeroValue85
  t183 := Try.underlying86
  a183 := Try.isAgg86
  z183 := Try.sizeOf86
  v183 := Try.zeroValue86
  t218 := Try.underlying97
  a218 := Try.isAgg97
  z218 := Try.sizeOf97
  v218 := Try.zeroValue97
  t222 := Try.underlying101
  a222 := Try.isAgg101
  z222 := Try.sizeOf101
  v222 := Try.zeroValue101
  t228 := Try.underlying103
  a228 := Try.isAgg103
  z228 := Try.sizeOf103
  v228 := Try.zeroValue103
  t229 := Try.underlying104
  a229 := Try.isAgg104
  z229 := Try.sizeOf104
  v229 := Try.zeroValue104 }
open Go.Sort Go.RowKit in
theorem Try.slices_Sort_string (blk off cap : Nat) (ss : List (List UInt8)) (w : World) (hH : Holds encStr w blk off ss.toArray) (hblk : blk < w.heap.size) (hsz : ss.length < 4611686018427387904) :
    Calls Try.prog 53 #[.slice (some ⟨blk, off, none⟩) ss.length cap] w fun e w' =>
      e = .returned (.tuple #[]) ∧ ∃ n os, w' = grow (putRow encStr (Sort.ahead w n) blk off (ss.mergeSort fun x y => decide (x ≤ y)).toArray) os := Any.slices_Sort_string Try.lays190 blk off cap ss w hH hblk hsz
open Go.RowKit Go.Sort in
theorem Try.slices_Sort_string_none (p : Option Addr) (cap : Nat) (w : World) :
    Calls Try.prog 53 #[.slice p 0 cap] w fun e w' => e = .returned (.tuple #[]) ∧ w' = w := Any.slices_Sort_string_none Try.lays190 p cap w
def Try.keysA_ren : Go.Shelf.Ren := ⟨fun | 7 => 46 | 10 => 54 | n => n, fun | 23 => 56 | 26 => 9 | 3 => 62 | 28 => 70 | 0 => 0 | 27 => 69 | 33 => 37 | 4 => 4 | n => n, fun | n => n⟩
theorem Try.keysA : Go.Proofs.SlLaysZ.n7 Try.prog Try.keysA_ren := {
  mixed := by kernel_rfl
  f7 := ⟨Try.f46.name, by decide, Try.func46.trans (congrArg some (by kernel_rfl))⟩
  f10 := ⟨Try.f54.name, by decide, Try.func54.trans (congrArg some (by kernel_rfl))⟩
  t0 := Try.underlying0
  a0 := Try.isAgg0
  z0 := Try.sizeOf0
  v0 := Try.zeroValue0
  t4 := Try.underlying4
  a4 := Try.isAgg4
  z4 := Try.sizeOf4
  v4 := Try.zeroValue4
  t23 := Try.underlying56
  a23 := Try.isAgg56
  z23 := Try.sizeOf56
  v23 := Try.zeroValue56
  t26 := Try.underlying9
  a26 := Try.isAgg9
  z26 := Try.sizeOf9
  v26 := Try.zeroValue9
  t27 := Try.underlying69
  a27 := Try.isAgg69
  z27 := Try.sizeOf69
  v27 := Try.zeroValue69
  t28 := Try.underlying70
  a28 := Try.isAgg70
  z28 := Try.sizeOf70
  v28 := Try.zeroValue70
  t33 := Try.underlying37
  a33 := Try.isAgg37
  z33 := Try.sizeOf37
  v33 := Try.zeroValue37 }
def Try.sortedA_ren : Go.Shelf.Ren := ⟨fun | 6 => 45 | 8 => 52 | 9 => 53 | 11 => 55 | 13 => 57 | 12 => 56 | 23 => 67 | 24 => 68 | 14 => 58 | 15 => 59 | 16 => 60 | 17 => 61 | 18 => 62 | 19 => 63 | 20 => 64 | 21 => 65 | 22 => 66 | 25 => 69 | 26 => 70 | 27 => 71 | 28 => 72 | 29 => 73 | 30 => 74 | 31 => 75 | n => n, fun | 26 => 9 | 28 => 70 | 24 => 38 | 0 => 0 | 3 => 3 | 37 => 83 | 48 => 94 | 50 => 96 | 4 => 4 | 40 => 86 | 39 => 85 | 45 => 91 | 5 => 5 | 9 => 9 | 51 => 97 | 55 => 101 | 57 => 103 | 58 => 104 | 33 => 37 | n => n, fun | n => n⟩
theorem Try.sortedA : Go.Proofs.SlLaysZ.n6 Try.prog Try.sortedA_ren := {
  mixed := by kernel_rfl
  f6 := ⟨Try.f45.name, by decide, Try.func45.trans (congrArg some (by kernel_rfl))⟩
  f8 := ⟨Try.f52.name, by decide, Try.func52.trans (congrArg some (by kernel_rfl))⟩
  f11 := ⟨Try.f55.name, by decide, Try.func55.trans (congrArg some (by kernel_rfl))⟩
  t0 := Try.underlying0
  a0 := Try.isAgg0
  z0 := Try.sizeOf0
  v0 := Try.zeroValue0
  t24 := Try.underlying38
  a24 := Try.isAgg38
  z24 := Try.sizeOf38
  v24 := Try.zeroValue38
  t26 := Try.underlying9
  a26 := Try.isAgg9
  z26 := Try.sizeOf9
  v26 := Try.zeroValue9
  t28 := Try.underlying70
  a28 := Try.isAgg70
  z28 := Try.sizeOf70
  v28 := Try.zeroValue70
  i26 := by kernel_rfl }
end Go.Proofs

/-
  Contract of the landed disk: List.
-/
namespace Go.Proofs.Ytfdhfjmmmjhgbaa.DkWalk
open Go.RowKit Go.Maps Go.Sort Go.Shelf Go.Proofs Go.Proofs.Ytfdhfjmmmjhgbaa.MemRow Go.Proofs.Ytfdhfjmmmjhgbaa.Ev Go.Proofs.Ytfdhfjmmmjhgbaa.NameMath Go.Proofs.Ytfdhfjmmmjhgbaa.NameWalk Go.Proofs.Ytfdhfjmmmjhgbaa.EvWalk Go.Proofs.Ytfdhfjmmmjhgbaa.NumMem

/-- slices.Sort's two contracts at this dump, at the fence that asks nothing. -/
theorem sortsA (m : Nat) : AnyZ.SortsIn Try.prog Try.sortedA_ren Fence.wide m :=
  ⟨fun blk off cap ss W hH hblk hsz => callsIn_wide.2 (Try.slices_Sort_string blk off cap ss W hH hblk hsz),
   fun p cap W => callsIn_wide.2 (Try.slices_Sort_string_none p cap W)⟩
set_option maxHeartbeats 4000000 in
set_option maxRecDepth 100000 in
theorem listL_any (g : Nat) (D : Dk) (F : Nat → Prop) (w : World) (h : LdIs w g D F) (go : DkGo D) :
    Calls Try.prog 21 #[.pointer (some ⟨g, 0, none⟩)] w fun e w' => ∃ B m c, e = .returned (.slice B m c) ∧ RdS w' B m c (names D.fs) ∧ Below w.heap.size w w' := by
  obtain ⟨qv, mb, fu, lv, M, hd, h⟩ := h
  have k1 := h.c1
  have hsz := h.size go.up
  have h200 := go.ok.len
  have hmax : Maps.size M ≤ maxLen := by unfold maxLen; omega
  have hbytes : Maps.size M * 16 ≤ 140737488355328 := by omega
  have hown := h.own
  have hbl := hown.lt
  have hseq : SeqGives Fence.wide 2 Try.prog 54 #[.pointer (some ⟨w.heap.size, 0, none⟩)] encStr (fun ss => ss.Perm (strKeys M)) (Maps.size M) (w.alloc (.cells #[.map (some mb)] 56)) :=
    AnyZ.keys_gives (ρ := Try.keysA_ren) { Try.keysA with } Fence.wide _ trivial rfl (by omega) w.heap.size mb D.fs.length M _ (by simp) (by simp) (by
      obtain ⟨es, clock, hb, Ft, hs, hD⟩ := hown
      exact ⟨es, clock, (Below.heap_alloc _ _ mb hbl).trans hb, Ft, hs, hD⟩)
  have cK : Calls Try.prog 46 #[.map (some mb)] w fun e w' => e = .returned (.func (.func 54) #[] #[.pointer (some ⟨w.heap.size, 0, none⟩)]) ∧ w' = w.alloc (.cells #[.map (some mb)] 56) := (callsIn_wide (n := 5)).1 (AnyZ.keys_in Try.keysA Fence.wide 5 trivial rfl (some mb) w)
  have cS := AnyZ.sorted_in Try.sortedA Fence.wide 5 trivial trivial trivial trivial rfl (by omega) (sortsA _) (enters_of Try.func53 (by kernel_rfl) rfl) 54 #[.pointer (some ⟨w.heap.size, 0, none⟩)] trivial (enters_of Try.func54 (by kernel_rfl) rfl) _ _ hmax hbytes _ hseq
  have cS' := (callsIn_wide (n := 5)).1 cS
  change Calls Try.prog 45 _ _ _ at cS'
  have al : Below w.heap.size w (w.alloc (.cells #[.map (some mb)] 56)) := (Below.refl _ _).alloc (Nat.le_refl _) _
  have CS := Go.Lib.hid cS'
  have CK := Go.Lib.hid cK
  have HP := Go.Lib.hid (h.mp.strs (hown.canon lawK) go.up)
  have HG := Go.Lib.hid go.up
  clear cS cS' cK hseq hown h go hbl hbytes hmax hsz
  go_enter Try.func21, Try.ntmps21
  go_wp2_with fail
  refine (CK.out).mono ?_
  rintro e w1 ⟨rfl, rfl⟩
  go_wp2_with fail
  refine (CS.out).mono ?_
  rintro e w2 ⟨v, ss, rfl, hS, hrow, hnil, hb⟩
  have hss := sorted_names HG.out (hS.trans HP.out)
  have hss' : (ss.mergeSort fun x y => decide (x ≤ y)).map encStr = MemRow.strs (names D.fs) := hss
  have hln : ss.length = D.fs.length := by
    have := (hS.trans HP.out).length_eq
    simpa using this
  rw [hss', hln] at hrow
  have bw := below_chain al hb
  obtain ⟨B, c, hv⟩ : ∃ B c, v = .slice B D.fs.length c := by
    rcases hrow.2 with ⟨e, h0⟩ | ⟨g', cap, cur, e, _⟩
    · exact ⟨none, 0, by rw [e, h0]⟩
    · exact ⟨_, _, e⟩
  subst hv
  have hr : RdS w2 B D.fs.length c (names D.fs) := OwnC.rd (k := 1) hrow
  clear hss hss' hS hnil
  go_wp2_with fail
  go_ret
  exact ⟨_, _, _, rfl, hr, bw⟩

end Go.Proofs.Ytfdhfjmmmjhgbaa.DkWalk

/-
  What the walks of layer 8's statements have in common: two objects that share no block, both behind the law's start; the document's example.
-/
namespace Go.Proofs.Ytfdhfjmmmjhgbaa.DkWalk
open Go.RowKit Go.Maps Go.Proofs.Ytfdhfjmmmjhgbaa.MemRow Go.Proofs.Ytfdhfjmmmjhgbaa.Ev Go.Proofs.Ytfdhfjmmmjhgbaa.NameMath Go.Proofs.Ytfdhfjmmmjhgbaa.NameWalk Go.Proofs.Ytfdhfjmmmjhgbaa.EvWalk Go.Proofs.Ytfdhfjmmmjhgbaa.NumMem

/-- An object in memory, with its blocks. -/
abbrev Thing := World → (Nat → Prop) → Prop
/-- It stays while its blocks do. -/
structure Keeps (P : Thing) : Prop where
  keep : ∀ {w w' : World} {F : Nat → Prop}, P w F → w.heap.size ≤ w'.heap.size → (∀ k, F k → w'.heap[k]? = w.heap[k]?) → P w' F
  lt : ∀ {w : World} {F : Nat → Prop}, P w F → ∀ k, F k → k < w.heap.size
def NoT : Thing := fun _ F => ∀ k, ¬ F k
theorem noT_keeps : Keeps NoT := ⟨fun h _ _ => h, fun h k hk => absurd hk (h k)⟩
def LdT (g : Nat) (D : Dk) : Thing := fun w F => LdIs w g D F
theorem ldT_keeps (g : Nat) (D : Dk) : Keeps (LdT g D) := ⟨fun h hs hk => LdIs.keep h hs hk, fun h => LdIs.lt h⟩
def RfT (g : Nat) (D : Dk) : Thing := fun w F => RefIs w g D F
theorem rfT_keeps (g : Nat) (D : Dk) : Keeps (RfT g D) := ⟨fun ⟨A, n, cap, cs, h⟩ hs hk => ⟨A, n, cap, cs, h.keep hs hk⟩, fun ⟨_, _, _, _, h⟩ => h.lt⟩

/-- Two objects that share no block, both behind base. -/
def Pair (base : Nat) (w : World) (P Q : Thing) : Prop := ∃ F G, P w F ∧ Q w G ∧ (∀ k, F k → base ≤ k) ∧ (∀ k, G k → base ≤ k) ∧ ∀ k, F k → ¬ G k
theorem ch_below {base : Nat} {F : Nat → Prop} {a w w' : World} (hb : Below base a w) (hc : Ch F w w') (hF : ∀ k, F k → base ≤ k) (ha : base ≤ a.heap.size) : Below base a w' :=
  ⟨hc.os.trans hb.os, hc.tape.trans hb.tape, hc.output.trans hb.output, Nat.le_trans hb.size hc.size, fun k hk => (hc.block k (Nat.lt_of_lt_of_le hk (Nat.le_trans ha hb.size)) (fun hf => by have := hF k hf; omega)).trans (hb.block k hk)⟩
section
variable {base : Nat} {w w' : World} {P P' Q Q' : Thing}
theorem Pair.swap (h : Pair base w P Q) : Pair base w Q P := by
  obtain ⟨F, G, hp, hq, h1, h2, h3⟩ := h
  exact ⟨G, F, hq, hp, h2, h1, fun k hg hf => h3 k hf hg⟩
theorem Pair.below (h : Pair base w P Q) (kp : Keeps P) (kq : Keeps Q) (hb : Below w.heap.size w w') : Pair base w' P Q := by
  obtain ⟨F, G, hp, hq, h1, h2, h3⟩ := h
  exact ⟨F, G, kp.keep hp hb.size fun k hk => hb.block k (kp.lt hp k hk), kq.keep hq hb.size fun k hk => hb.block k (kq.lt hq k hk), h1, h2, h3⟩
/-- A call of the first one. -/
theorem Pair.left {F G : Nat → Prop} (hq : Q w G) (kq : Keeps Q) (h1 : ∀ k, F k → base ≤ k) (h2 : ∀ k, G k → base ≤ k) (h3 : ∀ k, F k → ¬ G k) (hb : base ≤ w.heap.size) (hp' : P' w' (up F w w')) (hc : Ch F w w') : Pair base w' P' Q := by
  refine ⟨_, G, hp', kq.keep hq hc.size fun k hk => hc.block k (kq.lt hq k hk) fun hf => h3 k hf hk, fun k hk => ?_, h2, fun k hk hg => ?_⟩
  · rcases hk with hk | hk
    · exact h1 k hk
    · omega
  · rcases hk with hk | hk
    · exact h3 k hk hg
    · have := kq.lt hq k hg
      omega
/-- A new object beside one. -/
theorem Pair.fresh {G : Nat → Prop} (hq : Q w G) (kq : Keeps Q) (h2 : ∀ k, G k → base ≤ k) (hb : base ≤ w.heap.size) (hp' : P' w' (fun k => w.heap.size ≤ k ∧ k < w'.heap.size)) (hc : Below w.heap.size w w') : Pair base w' P' Q :=
  ⟨_, G, hp', kq.keep hq hc.size fun k hk => hc.block k (kq.lt hq k hk), fun k hk => by have := hk.1; omega, h2, fun k hk hg => by
    have := kq.lt hq k hg
    have := hk.1
    omega⟩
end

/-! ### A landed disk's calls, another object beside it -/
section
variable {base : Nat} {w : World} {g : Nat} {D : Dk} {Q : Thing}
theorem pr_did {c : Int} {D' : Dk} {F G : Nat → Prop} {e : Ending} {w' : World} (hq : Q w G) (kq : Keeps Q) (h1 : ∀ k, F k → base ≤ k) (h2 : ∀ k, G k → base ≤ k) (h3 : ∀ k, F k → ¬ G k) (hb : base ≤ w.heap.size) (h : DidL c D' g F w e w') :
    e = .returned (.int .i64 c) ∧ Pair base w' (LdT g D') Q ∧ Below base w w' :=
  ⟨h.1, Pair.left hq kq h1 h2 h3 hb h.2.1 h.2.2, ch_below (Below.refl _ _) h.2.2 h1 hb⟩
theorem pr_append (h : Pair base w (LdT g D) Q) (kq : Keeps Q) (hb : base ≤ w.heap.size) (go : DkGo D) {s : ByteArray} (hs : s.size ≤ maxLen) {A : Option Addr} {m c : Nat} {b : List UInt8} (rb : Rd w A m c b) (hm : m ≤ 1000000) :
    Calls Try.prog 16 #[.pointer (some ⟨g, 0, none⟩), .string s, .slice A m c] w fun e w' => e = .returned (.int .i64 (appendD D s b).1) ∧ Pair base w' (LdT g (appendD D s b).2) Q ∧ Below base w w' := by
  obtain ⟨F, G, hp, hq, h1, h2, h3⟩ := h
  exact (appendL_any g D F s A m c b w hp go hs rb hm).mono fun e w' h => pr_did hq kq h1 h2 h3 hb h
theorem pr_sync (h : Pair base w (LdT g D) Q) (kq : Keeps Q) (hb : base ≤ w.heap.size) (go : DkGo D) {s : ByteArray} (hs : s.size ≤ maxLen) :
    Calls Try.prog 29 #[.pointer (some ⟨g, 0, none⟩), .string s] w fun e w' => e = .returned (.int .i64 (syncD D s).1) ∧ Pair base w' (LdT g (syncD D s).2) Q ∧ Below base w w' := by
  obtain ⟨F, G, hp, hq, h1, h2, h3⟩ := h
  exact (syncL_any g D F s w hp go hs).mono fun e w' h => pr_did hq kq h1 h2 h3 hb h
theorem pr_remove (h : Pair base w (LdT g D) Q) (kq : Keeps Q) (hb : base ≤ w.heap.size) (go : DkGo D) {s : ByteArray} (hs : s.size ≤ maxLen) :
    Calls Try.prog 33 #[.pointer (some ⟨g, 0, none⟩), .string s] w fun e w' => e = .returned (.int .i64 (removeD D s).1) ∧ Pair base w' (LdT g (removeD D s).2) Q ∧ Below base w w' := by
  obtain ⟨F, G, hp, hq, h1, h2, h3⟩ := h
  exact (removeL_any g D F s w hp go hs).mono fun e w' h => pr_did hq kq h1 h2 h3 hb h
theorem pr_rename (h : Pair base w (LdT g D) Q) (kq : Keeps Q) (hb : base ≤ w.heap.size) (go : DkGo D) {s t : ByteArray} (hs : s.size ≤ maxLen) (ht : t.size ≤ maxLen) :
    Calls Try.prog 30 #[.pointer (some ⟨g, 0, none⟩), .string s, .string t] w fun e w' => e = .returned (.int .i64 (renameD D s t).1) ∧ Pair base w' (LdT g (renameD D s t).2) Q ∧ Below base w w' := by
  obtain ⟨F, G, hp, hq, h1, h2, h3⟩ := h
  exact (renameL_any g D F s t w hp go hs ht).mono fun e w' h => pr_did hq kq h1 h2 h3 hb h
theorem pr_trunc (h : Pair base w (LdT g D) Q) (kq : Keeps Q) (hb : base ≤ w.heap.size) (go : DkGo D) {s : ByteArray} (hs : s.size ≤ maxLen) (z : Int) :
    Calls Try.prog 31 #[.pointer (some ⟨g, 0, none⟩), .string s, .int .i64 z] w fun e w' => e = .returned (.int .i64 (truncD D s z).1) ∧ Pair base w' (LdT g (truncD D s z).2) Q ∧ Below base w w' := by
  obtain ⟨F, G, hp, hq, h1, h2, h3⟩ := h
  exact (truncL_any g D F s z w hp go hs).mono fun e w' h => pr_did hq kq h1 h2 h3 hb h
theorem pr_turn (h : Pair base w (LdT g D) Q) (kq : Keeps Q) (hb : base ≤ w.heap.size) (go : DkGo D) {s : ByteArray} (hs : s.size ≤ maxLen) (z : Int) :
    Calls Try.prog 32 #[.pointer (some ⟨g, 0, none⟩), .string s, .int .i64 z] w fun e w' => e = .returned (.int .i64 (turnC D s z).1) ∧ Pair base w' (LdT g (turnC D s z).2) Q ∧ Below base w w' := by
  obtain ⟨F, G, hp, hq, h1, h2, h3⟩ := h
  exact (turnL_any g D F s z w hp go hs).mono fun e w' h => pr_did hq kq h1 h2 h3 hb h
theorem pr_crash (h : Pair base w (LdT g D) Q) (kq : Keeps Q) (hb : base ≤ w.heap.size) (go : DkGo D) {keep : Int} (hk : -9223372036854775808 ≤ keep ∧ keep ≤ 9223372036854775807) :
    Calls Try.prog 17 #[.pointer (some ⟨g, 0, none⟩), .int .i64 keep] w fun e w' => e = .returned (.tuple #[]) ∧ Pair base w' (LdT g (crashD D keep)) Q ∧ Below base w w' := by
  obtain ⟨F, G, hp, hq, h1, h2, h3⟩ := h
  exact (crashLd_any g D F keep w hp go hk).mono fun e w' h => ⟨h.1, Pair.left hq kq h1 h2 h3 hb h.2.1 h.2.2, ch_below (Below.refl _ _) h.2.2 h1 hb⟩
theorem pr_fuse (h : Pair base w (LdT g D) Q) (kq : Keeps Q) (hb : base ≤ w.heap.size) (k : Int) :
    Calls Try.prog 13 #[.pointer (some ⟨g, 0, none⟩), .int .i64 k] w fun e w' => e = .returned (.tuple #[]) ∧ Pair base w' (LdT g (fuseD D k)) Q ∧ Below base w w' := by
  obtain ⟨F, G, hp, hq, h1, h2, h3⟩ := h
  exact (fuseL_any g D F k w hp).mono fun e w' h => ⟨h.1, Pair.left hq kq h1 h2 h3 hb h.2.1 h.2.2, ch_below (Below.refl _ _) h.2.2 h1 hb⟩
theorem pr_read (h : Pair base w (LdT g D) Q) (kq : Keeps Q) (go : DkGo D) {s : ByteArray} (hs : s.size ≤ maxLen) :
    Calls Try.prog 26 #[.pointer (some ⟨g, 0, none⟩), .string s] w fun e w' => ∃ B m c, e = .returned (.tuple #[.slice B m c, .int .i64 (readC D s)]) ∧ Rd w' B m c (readB D s) ∧ Pair base w' (LdT g D) Q ∧ Below w.heap.size w w' := by
  have h' := h
  obtain ⟨F, G, hp, hq, h1, h2, h3⟩ := h
  exact (readL_any g D F s w hp go hs).mono fun e w' ⟨B, m, c, he, hr, hb⟩ => ⟨B, m, c, he, hr, h'.below (ldT_keeps g D) kq hb, hb⟩
theorem pr_list (h : Pair base w (LdT g D) Q) (kq : Keeps Q) (go : DkGo D) :
    Calls Try.prog 21 #[.pointer (some ⟨g, 0, none⟩)] w fun e w' => ∃ B m c, e = .returned (.slice B m c) ∧ RdS w' B m c (names D.fs) ∧ Pair base w' (LdT g D) Q ∧ Below w.heap.size w w' := by
  have h' := h
  obtain ⟨F, G, hp, hq, h1, h2, h3⟩ := h
  exact (listL_any g D F w hp go).mono fun e w' ⟨B, m, c, he, hr, hb⟩ => ⟨B, m, c, he, hr, h'.below (ldT_keeps g D) kq hb, hb⟩
theorem pr_used (h : Pair base w (LdT g D) Q) (kq : Keeps Q) (go : DkGo D) :
    Calls Try.prog 24 #[.pointer (some ⟨g, 0, none⟩)] w fun e w' => e = .returned (.int .i64 (usedF D.fs : Nat)) ∧ Pair base w' (LdT g D) Q ∧ Below w.heap.size w w' := by
  have h' := h
  obtain ⟨F, G, hp, hq, h1, h2, h3⟩ := h
  obtain ⟨qv, mb, fu, lv, M, hd, hp⟩ := hp
  exact (usedD_any g D F qv mb fu lv M hd w hp go).mono fun e w' ⟨he, hb⟩ => ⟨he, h'.below (ldT_keeps g D) kq hb, hb⟩
theorem pr_new {G : Nat → Prop} (hq : Q w G) (kq : Keeps Q) (h2 : ∀ k, G k → base ≤ k) (hb : base ≤ w.heap.size) (q : Int) :
    Calls Try.prog 10 #[.int .i64 q] w fun e w' => ∃ g, e = .returned (.pointer (some ⟨g, 0, none⟩)) ∧ Pair base w' (LdT g (newD q)) Q ∧ Below w.heap.size w w' :=
  (newL_any q w).mono fun _ _ ⟨g, he, hn, hbl⟩ => ⟨g, he, Pair.fresh hq kq h2 hb hn hbl, hbl⟩
/-- A new disk, alone. -/
theorem pr_alone (w : World) (q : Int) :
    Calls Try.prog 10 #[.int .i64 q] w fun e w' => ∃ g, e = .returned (.pointer (some ⟨g, 0, none⟩)) ∧ Pair w.heap.size w' (LdT g (newD q)) NoT ∧ Below w.heap.size w w' :=
  pr_new (Q := NoT) (G := fun _ => False) (fun _ h => h) noT_keeps (fun _ h => h.elim) (Nat.le_refl _) q
end
theorem pr_first {base : Nat} {w : World} (hb : base ≤ w.heap.size) (q : Int) :
    Calls Try.prog 10 #[.int .i64 q] w fun e w' => ∃ g, e = .returned (.pointer (some ⟨g, 0, none⟩)) ∧ Pair base w' (LdT g (newD q)) NoT ∧ Below w.heap.size w w' :=
  pr_new (Q := NoT) (G := fun _ => False) (fun _ h => h) noT_keeps (fun _ h => h.elim) hb q
theorem short_rd {w : World} {A : Option Addr} {n cap : Nat} {l : List UInt8} (h : Rd w A n cap l) : Rd w A (min n 200) cap (l.take 200) := by
  have hl := h.len
  by_cases h2 : 200 < n
  · rw [show min n 200 = 200 by omega]
    exact h.first (by omega)
  · rw [show min n 200 = n by omega, List.take_of_length_le (by omega)]
    exact h
theorem rd_str {w : World} {A : Option Addr} {n cap : Nat} {l : List UInt8} (h : Rd w A n cap l) : (convert 33 9 (.slice A n cap)).run Try.prog w = .ok (.string ⟨l.toArray⟩) w :=
  h.string 33 9 5 Try.underlying33 Try.underlying5 Try.underlying9
theorem newD_pos {q : Int} (h : 0 ≤ q) : newD q = ⟨q, -1, []⟩ := by
  unfold newD
  rw [show max q 0 = q by omega]

/-! ### What is read stays -/
set_option maxHeartbeats 4000000 in
set_option maxRecDepth 100000 in
theorem readN_any (g : Nat) (D : Dk) (F : Nat → Prop) (s : ByteArray) (w : World) (h : LdIs w g D F) (go : DkGo D) (hs : s.size ≤ maxLen) :
    Calls Try.prog 26 #[.pointer (some ⟨g, 0, none⟩), .string s] w fun e w' => ∃ B m c, e = .returned (.tuple #[.slice B m c, .int .i64 (readC D s)]) ∧ Rd w' B m c (readB D s) ∧ (∀ a, B = some a → w.heap.size ≤ a.block ∧ a.block < w'.heap.size) ∧ Below w.heap.size w w' := by
  obtain ⟨qv, mb, fu, lv, M, hd, h⟩ := h
  have k1 := h.c1
  have q1 := h.look hs
  generalize hC : readC D s = cc
  generalize hB : readB D s = bb
  have HC := Go.Lib.hid hC
  have HB := Go.Lib.hid hB
  clear hC hB
  by_cases hk : idxF D.fs s < D.fs.length
  · obtain rfl : cc = 0 := by rw [← HC.out]; unfold readC; rw [if_pos hk]
    obtain rfl : bb = (D.fs.getD (idxF D.fs s) noFl).b := by rw [← HB.out]; unfold readB; rw [if_pos hk]
    have e3 : ptrOf D.fs hd s = .pointer (some ⟨(hd s).k, 0, none⟩) := if_pos hk
    rw [e3] at q1
    have hr := (h.file hk).1
    have hle : (hd s).nb ≤ 1000000 := by
      have := (go.ok.fls _ (fl_get hk)).1
      have := hr.own.len
      omega
    have x0 := hr.c0
    have ho := hr.own
    clear HC HB hr h e3 hk go
    generalize (D.fs.getD (idxF D.fs s) noFl).b = bb at *
    generalize (hd s).k = k at *
    generalize (hd s).B = B at *
    generalize (hd s).nb = nb at *
    generalize (hd s).cb = cb at *
    go_enter Try.func26, Try.ntmps26
    go_wp2_with fail
    refine (cloneB_any B nb cb bb w ho hle).mono ?_
    rintro e w2 ⟨B2, c2, rfl, o2, b2⟩
    go_wp2_with fail
    go_ret2
    exact ⟨_, _, _, rfl, o2.rd, fun a ha => World.ownsRow.lt o2 a.block (by simp [Value.ownBlock, ha]), b2⟩
  · obtain rfl : cc = 11 := by rw [← HC.out]; unfold readC; rw [if_neg hk]
    obtain rfl : bb = [] := by rw [← HB.out]; unfold readB; rw [if_neg hk]
    have e3 : ptrOf D.fs hd s = .pointer none := if_neg hk
    rw [e3] at q1
    clear HC HB h e3 hk
    go_enter Try.func26, Try.ntmps26
    go_wp2_with fail
    go_ret2
    exact ⟨none, 0, 0, rfl, Rd.nil _, fun a ha => (by cases ha), Below.refl _ _⟩

/-- Two objects that share no block, seen as one. -/
def With (Q R : Thing) : Thing := fun w G => ∃ G1 G2, Q w G1 ∧ R w G2 ∧ (∀ k, G1 k → G k) ∧ (∀ k, G2 k → G k) ∧ (∀ k, G k → k < w.heap.size) ∧ ∀ k, G1 k → ¬ G2 k
theorem with_keeps {Q R : Thing} (kq : Keeps Q) (kr : Keeps R) : Keeps (With Q R) :=
  ⟨fun ⟨G1, G2, h1, h2, i1, i2, hl, hx⟩ hs hk => ⟨G1, G2, kq.keep h1 hs fun k h => hk k (i1 k h), kr.keep h2 hs fun k h => hk k (i2 k h), i1, i2, fun k h => Nat.lt_of_lt_of_le (hl k h) hs, hx⟩, fun ⟨_, _, _, _, _, _, hl, _⟩ => hl⟩
/-- A slice that holds bytes. -/
def SlT (A : Option Addr) (n c : Nat) (l : List UInt8) : Thing := fun w G => Rd w A n c l ∧ (∀ a, A = some a → G a.block) ∧ ∀ k, G k → k < w.heap.size
theorem slT_keeps (A : Option Addr) (n c : Nat) (l : List UInt8) : Keeps (SlT A n c l) :=
  ⟨fun ⟨h, i, hl⟩ hs hk => ⟨rd_keep h fun a ha => hk _ (i a ha), i, fun k h => Nat.lt_of_lt_of_le (hl k h) hs⟩, fun h => h.2.2⟩
/-- A row of bytes of the law's own. -/
def OwT (A : Option Addr) (n c : Nat) (l : List UInt8) : Thing := fun w G => Own w 0 5 A n c l ∧ (∀ a, A = some a → G a.block) ∧ ∀ k, G k → k < w.heap.size
theorem owT_keeps (A : Option Addr) (n c : Nat) (l : List UInt8) : Keeps (OwT A n c l) :=
  ⟨fun ⟨h, i, hl⟩ hs hk => ⟨own8_keep h fun a ha => hk _ (i a ha), i, fun k h => Nat.lt_of_lt_of_le (hl k h) hs⟩, fun h => h.2.2⟩
/-- A box. -/
def BxT (g : Nat) (cs : Array Value) (t : TypeId) : Thing := fun w G => w.heap[g]? = some (.cells cs t (0, 0)) ∧ G g ∧ ∀ k, G k → k < w.heap.size
theorem bxT_keeps (g : Nat) (cs : Array Value) (t : TypeId) : Keeps (BxT g cs t) :=
  ⟨fun ⟨h, i, hl⟩ hs hk => ⟨(hk _ i).trans h, i, fun k h => Nat.lt_of_lt_of_le (hl k h) hs⟩, fun h => h.2.2⟩
theorem pair_rd {base : Nat} {w : World} {P Q : Thing} {A : Option Addr} {n c : Nat} {l : List UInt8} (h : Pair base w P (With Q (SlT A n c l))) : Rd w A n c l := by
  obtain ⟨_, _, _, ⟨_, _, _, hr, _⟩, _⟩ := h
  exact hr.1
theorem pair_ow {base : Nat} {w : World} {P Q : Thing} {A : Option Addr} {n c : Nat} {l : List UInt8} (h : Pair base w P (With Q (OwT A n c l))) : Own w 0 5 A n c l := by
  obtain ⟨_, _, _, ⟨_, _, _, hr, _⟩, _⟩ := h
  exact hr.1
theorem pair_bx {base : Nat} {w : World} {P Q : Thing} {g : Nat} {cs : Array Value} {t : TypeId} (h : Pair base w P (With Q (BxT g cs t))) : w.heap[g]? = some (.cells cs t (0, 0)) := by
  obtain ⟨_, _, _, ⟨_, _, _, hr, _⟩, _⟩ := h
  exact hr.1
theorem pair_first {base : Nat} {w : World} {P Q R : Thing} (h : Pair base w P (With Q R)) : Pair base w P Q := by
  obtain ⟨F, G, hp, ⟨G1, _, h1, _, i1, _, _⟩, hF, hG, hd⟩ := h
  exact ⟨F, G1, hp, h1, hF, fun k hk => hG k (i1 k hk), fun k hf hg => hd k hf (i1 k hg)⟩
theorem pair_rot {base : Nat} {w : World} {P Q R : Thing} (kp : Keeps P) (h : Pair base w P (With Q R)) : Pair base w Q (With P R) := by
  obtain ⟨F, G, hp, ⟨G1, G2, h1, h2, i1, i2, hl, hx⟩, hF, hG, hd⟩ := h
  refine ⟨G1, fun k => F k ∨ G2 k, h1, ⟨F, G2, hp, h2, fun k hk => .inl hk, fun k hk => .inr hk, fun k hk => ?_, fun k hf hg => hd k hf (i2 k hg)⟩, fun k hk => hG k (i1 k hk), fun k hk => ?_, fun k hk hg => ?_⟩
  · rcases hk with hk | hk
    · exact kp.lt hp k hk
    · exact hl k (i2 k hk)
  · rcases hk with hk | hk
    · exact hF k hk
    · exact hG k (i2 k hk)
  · rcases hg with hg | hg
    · exact hd k hg (i1 k hk)
    · exact hx k hk hg
theorem pair_last {base : Nat} {w : World} {P Q S : Thing} (kp : Keeps P) (h : Pair base w P (With Q S)) : Pair base w S (With P Q) := by
  obtain ⟨F, G, hp, ⟨G1, G2, h1, h2, i1, i2, hl, hx⟩, hF, hG, hd⟩ := h
  refine ⟨G2, fun k => F k ∨ G1 k, h2, ⟨F, G1, hp, h1, fun k hk => .inl hk, fun k hk => .inr hk, fun k hk => ?_, fun k hf hg => hd k hf (i1 k hg)⟩, fun k hk => hG k (i2 k hk), fun k hk => ?_, fun k hk hg => ?_⟩
  · rcases hk with hk | hk
    · exact kp.lt hp k hk
    · exact hl k (i1 k hk)
  · rcases hk with hk | hk
    · exact hF k hk
    · exact hG k (i1 k hk)
  · rcases hg with hg | hg
    · exact hd k hg (i2 k hk)
    · exact hx k hg hk
theorem pair_drop {base : Nat} {w : World} {P Q S : Thing} (h : Pair base w S (With P Q)) : Pair base w P Q := by
  obtain ⟨F, G, hp, ⟨G1, G2, h1, h2, i1, i2, hl, hx⟩, hF, hG, hd⟩ := h
  exact ⟨G1, G2, h1, h2, fun k hk => hG k (i1 k hk), fun k hk => hG k (i2 k hk), hx⟩
/-- A new thing beside. -/
theorem pair_more {base : Nat} {w w' : World} {P Q R : Thing} (h : Pair base w P Q) (kp : Keeps P) (kq : Keeps Q) (hb : base ≤ w.heap.size) (hbl : Below w.heap.size w w') (hn : R w' (fun k => w.heap.size ≤ k ∧ k < w'.heap.size)) : Pair base w' P (With Q R) := by
  obtain ⟨F, G, hp, hq, h1, h2, h3⟩ := h
  have hp' := kp.keep hp hbl.size fun k hk => hbl.block k (kp.lt hp k hk)
  have hq' := kq.keep hq hbl.size fun k hk => hbl.block k (kq.lt hq k hk)
  refine ⟨F, fun k => G k ∨ (w.heap.size ≤ k ∧ k < w'.heap.size), hp', ⟨G, fun k => w.heap.size ≤ k ∧ k < w'.heap.size, hq', hn, fun k hk => .inl hk, fun k hk => .inr hk, fun k hk => ?_, fun k hg hk => ?_⟩, h1, fun k hk => ?_, fun k hf hk => ?_⟩
  · rcases hk with hk | hk
    · exact kq.lt hq' k hk
    · exact hk.2
  · have := kq.lt hq k hg
    omega
  · rcases hk with hk | hk
    · exact h2 k hk
    · omega
  · rcases hk with hk | hk
    · exact h3 k hf hk
    · have := kp.lt hp k hf
      omega
theorem pr_reads {base : Nat} {w : World} {g : Nat} {D : Dk} {Q : Thing} (h : Pair base w (LdT g D) Q) (kq : Keeps Q) (hb : base ≤ w.heap.size) (go : DkGo D) {s : ByteArray} (hs : s.size ≤ maxLen) :
    Calls Try.prog 26 #[.pointer (some ⟨g, 0, none⟩), .string s] w fun e w' => ∃ B m c, e = .returned (.tuple #[.slice B m c, .int .i64 (readC D s)]) ∧ Pair base w' (LdT g D) (With Q (SlT B m c (readB D s))) ∧ Below w.heap.size w w' := by
  have h' := h
  obtain ⟨F, G, hp, hq, h1, h2, h3⟩ := h
  refine (readN_any g D F s w hp go hs).mono ?_
  rintro e w' ⟨B, m, c, he, hr, hf, hbl⟩
  exact ⟨B, m, c, he, pair_more h' (ldT_keeps g D) kq hb hbl ⟨hr, hf, fun k hk => hk.2⟩, hbl⟩
theorem pair_second {base : Nat} {w : World} {P Q R : Thing} (h : Pair base w P (With Q R)) : Pair base w P R := by
  obtain ⟨F, G, hp, ⟨_, G2, _, h2, _, i2, _⟩, hF, hG, hd⟩ := h
  exact ⟨F, G2, hp, h2, hF, fun k hk => hG k (i2 k hk), fun k hf hg => hd k hf (i2 k hg)⟩
theorem pr_clone {base : Nat} {w : World} {g : Nat} {D : Dk} {Q : Thing} (h : Pair base w (LdT g D) Q) (kq : Keeps Q) (hb : base ≤ w.heap.size) (go : DkGo D) :
    Calls Try.prog 15 #[.pointer (some ⟨g, 0, none⟩)] w fun e w' => ∃ g', e = .returned (.pointer (some ⟨g', 0, none⟩)) ∧ Pair base w' (LdT g D) (With Q (LdT g' D)) ∧ Below w.heap.size w w' := by
  have h' := h
  obtain ⟨F, G, hp, hq, h1, h2, h3⟩ := h
  refine (cloneL_any g D F w hp go).mono ?_
  rintro e w' ⟨g', he, hn, hbl⟩
  exact ⟨g', he, pair_more h' (ldT_keeps g D) kq hb hbl hn, hbl⟩

/-! ### The document's disk's calls, another object beside it -/
section
variable {base : Nat} {w : World} {g : Nat} {D : Dk} {Q : Thing}
theorem rf_did {c : Int} {D' : Dk} {F G : Nat → Prop} {e : Ending} {w' : World} (hq : Q w G) (kq : Keeps Q) (h1 : ∀ k, F k → base ≤ k) (h2 : ∀ k, G k → base ≤ k) (h3 : ∀ k, F k → ¬ G k) (hb : base ≤ w.heap.size) (h : Did c D' g F w e w') :
    e = .returned (.int .i64 c) ∧ Pair base w' (RfT g D') Q ∧ Below base w w' :=
  ⟨h.1, Pair.left hq kq h1 h2 h3 hb h.2.1 h.2.2, ch_below (Below.refl _ _) h.2.2 h1 hb⟩
theorem rf_append (h : Pair base w (RfT g D) Q) (kq : Keeps Q) (hb : base ≤ w.heap.size) (ok : DkOk D) {s : ByteArray} (hs : s.size ≤ maxLen) {A : Option Addr} {m c : Nat} {b : List UInt8} (rb : Rd w A m c b) (hm : m ≤ 1000000) :
    Calls Try.prog 43 #[.pointer (some ⟨g, 0, none⟩), .string s, .slice A m c] w fun e w' => e = .returned (.int .i64 (appendD D s b).1) ∧ Pair base w' (RfT g (appendD D s b).2) Q ∧ Below base w w' := by
  obtain ⟨F, G, hp, hq, h1, h2, h3⟩ := h
  exact (refAppendC_any g D F s A m c b w hp ok hs rb hm).mono fun e w' h => rf_did hq kq h1 h2 h3 hb h
theorem rf_sync (h : Pair base w (RfT g D) Q) (kq : Keeps Q) (hb : base ≤ w.heap.size) (ok : DkOk D) (s : ByteArray) :
    Calls Try.prog 37 #[.pointer (some ⟨g, 0, none⟩), .string s] w fun e w' => e = .returned (.int .i64 (syncD D s).1) ∧ Pair base w' (RfT g (syncD D s).2) Q ∧ Below base w w' := by
  obtain ⟨F, G, hp, hq, h1, h2, h3⟩ := h
  exact (refSync_any g D F s w hp ok).mono fun e w' h => rf_did hq kq h1 h2 h3 hb h
theorem rf_remove (h : Pair base w (RfT g D) Q) (kq : Keeps Q) (hb : base ≤ w.heap.size) (ok : DkOk D) (s : ByteArray) :
    Calls Try.prog 40 #[.pointer (some ⟨g, 0, none⟩), .string s] w fun e w' => e = .returned (.int .i64 (removeD D s).1) ∧ Pair base w' (RfT g (removeD D s).2) Q ∧ Below base w w' := by
  obtain ⟨F, G, hp, hq, h1, h2, h3⟩ := h
  exact (refRemove_any g D F s w hp ok).mono fun e w' h => rf_did hq kq h1 h2 h3 hb h
theorem rf_rename (h : Pair base w (RfT g D) Q) (kq : Keeps Q) (hb : base ≤ w.heap.size) (ok : DkOk D) (s : ByteArray) {t : ByteArray} (ht : t.size ≤ maxLen) :
    Calls Try.prog 38 #[.pointer (some ⟨g, 0, none⟩), .string s, .string t] w fun e w' => e = .returned (.int .i64 (renameD D s t).1) ∧ Pair base w' (RfT g (renameD D s t).2) Q ∧ Below base w w' := by
  obtain ⟨F, G, hp, hq, h1, h2, h3⟩ := h
  exact (refRename_any g D F s t w hp ok ht).mono fun e w' h => rf_did hq kq h1 h2 h3 hb h
theorem rf_trunc (h : Pair base w (RfT g D) Q) (kq : Keeps Q) (hb : base ≤ w.heap.size) (ok : DkOk D) (s : ByteArray) (z : Int) :
    Calls Try.prog 39 #[.pointer (some ⟨g, 0, none⟩), .string s, .int .i64 z] w fun e w' => e = .returned (.int .i64 (truncD D s z).1) ∧ Pair base w' (RfT g (truncD D s z).2) Q ∧ Below base w w' := by
  obtain ⟨F, G, hp, hq, h1, h2, h3⟩ := h
  exact (refTrunc_any g D F s z w hp ok).mono fun e w' h => rf_did hq kq h1 h2 h3 hb h
theorem rf_turn (h : Pair base w (RfT g D) Q) (kq : Keeps Q) (hb : base ≤ w.heap.size) (ok : DkOk D) (s : ByteArray) (z : Int) :
    Calls Try.prog 42 #[.pointer (some ⟨g, 0, none⟩), .string s, .int .i64 z] w fun e w' => e = .returned (.int .i64 (turnC D s z).1) ∧ Pair base w' (RfT g (turnC D s z).2) Q ∧ Below base w w' := by
  obtain ⟨F, G, hp, hq, h1, h2, h3⟩ := h
  exact (refTurn_any g D F s z w hp ok).mono fun e w' h => rf_did hq kq h1 h2 h3 hb h
theorem rf_crash (h : Pair base w (RfT g D) Q) (kq : Keeps Q) (hb : base ≤ w.heap.size) (ok : DkOk D) {keep : Int} (hk : -9223372036854775808 ≤ keep ∧ keep ≤ 9223372036854775807) :
    Calls Try.prog 41 #[.pointer (some ⟨g, 0, none⟩), .int .i64 keep] w fun e w' => e = .returned (.tuple #[]) ∧ Pair base w' (RfT g (crashD D keep)) Q ∧ Below base w w' := by
  obtain ⟨F, G, hp, hq, h1, h2, h3⟩ := h
  exact (refCrash_any g D F keep w hp ok hk).mono fun e w' h => ⟨h.1, Pair.left hq kq h1 h2 h3 hb h.2.1 h.2.2, ch_below (Below.refl _ _) h.2.2 h1 hb⟩
theorem rf_fuse (h : Pair base w (RfT g D) Q) (kq : Keeps Q) (hb : base ≤ w.heap.size) {k : Int} (hk : -9223372036854775808 ≤ k ∧ k ≤ 9223372036854775807) :
    Calls Try.prog 14 #[.pointer (some ⟨g, 0, none⟩), .int .i64 k] w fun e w' => e = .returned (.tuple #[]) ∧ Pair base w' (RfT g (fuseD D k)) Q ∧ Below base w w' := by
  obtain ⟨F, G, hp, hq, h1, h2, h3⟩ := h
  exact (refFuse_any g D F k w hp hk).mono fun e w' h => ⟨h.1, Pair.left hq kq h1 h2 h3 hb h.2.1 h.2.2, ch_below (Below.refl _ _) h.2.2 h1 hb⟩
end
/-! ### The document's example -/
/-- A slice of constants, converted. -/
theorem conv_lit (w : World) (g n : Nat) (l : List UInt8) (hg : g = w.heap.size) (hn : l.length = n) (hm : n ≤ 1000) :
    (convert 33 33 (.slice (some ⟨g, 0, none⟩) n n)).run Try.prog (w.alloc (.cells (cellsOf l).toArray 5)) = .ok (.slice (some ⟨g, 0, none⟩) n n) (w.alloc (.cells (cellsOf l).toArray 5 ((cellsOf l).toArray.size, (cellsOf l).toArray.size + 1)))
    ∧ Rd (w.alloc (.cells (cellsOf l).toArray 5 ((cellsOf l).toArray.size, (cellsOf l).toArray.size + 1))) (some ⟨g, 0, none⟩) n n l ∧ Below w.heap.size w (w.alloc (.cells (cellsOf l).toArray 5 ((cellsOf l).toArray.size, (cellsOf l).toArray.size + 1))) := by
  subst hg
  refine ⟨Go.Lib.run_convert_bytes_const (P := Try.prog) w 33 5 (cellsOf l).toArray n n Try.underlying33 Try.underlying5, ?_, (Below.refl _ _).alloc (Nat.le_refl _) _⟩
  refine Rd.of_block (heap_alloc_new w _) hn (Nat.le_refl _) (by unfold maxLen; omega) fun i hi => ?_
  have hi' : i < l.length := by omega
  simp only [cellsOf, List.getElem?_toArray, List.getElem?_map, List.getElem?_eq_getElem hi', List.getD, Option.map_some, Option.getD_some]
set_option maxHeartbeats 4000000 in
set_option maxRecDepth 100000 in
theorem shown8_any (w : World) : Calls Try.prog 9 #[] w fun e w' => e = .returned (.bool true) ∧ Below w.heap.size w w' := by
  go_enter Try.func9, Try.ntmps9
  go_wp2_with fail
  refine (pr_alone w 100).mono ?_
  rintro e w1 ⟨g, rfl, p1, b1⟩
  have go0 : DkGo (newD 100) := new_go (by decide)
  rw [newD_pos (by decide)] at p1 go0
  obtain ⟨q1', r1, c1⟩ := conv_lit w1 w1.heap.size 4 [49, 50, 51, 52] rfl rfl (by decide)
  have q1 : (convert 33 33 (.slice (some ⟨w1.heap.size, 0, none⟩) 4 4)).run Try.prog (w1.alloc (.cells #[.int .u8 49, .int .u8 50, .int .u8 51, .int .u8 52] 5)) = _ := q1'
  have p2 := p1.below (ldT_keeps _ _) noT_keeps c1
  have bb2 := below_chain b1 c1
  generalize w1.alloc (.cells (cellsOf [49, 50, 51, 52]).toArray 5 ((cellsOf [49, 50, 51, 52]).toArray.size, (cellsOf [49, 50, 51, 52]).toArray.size + 1)) = w2 at *
  clear p1 b1 c1 q1'
  go_wp2_with fail
  refine (pr_append p2 noT_keeps bb2.size go0 (s := nA) (by decide) r1 (by decide)).mono ?_
  rintro e w3 ⟨rfl, p3, b3⟩
  have go3 := append_go go0 nA [49, 50, 51, 52]
  have e3 := app_new (q := 100) (b := [49, 50, 51, 52]) nA mayA (by decide) (by decide)
  rw [e3] at p3 go3 ⊢
  have bb3 := bb2.trans b3
  clear p2 bb2 b3 e3 q1 r1 go0
  go_wp2_with fail
  refine (pr_sync p3 noT_keeps bb3.size go3 (s := nA) (by decide)).mono ?_
  rintro e w4 ⟨rfl, p4, b4⟩
  have go4 := sync_go go3 nA
  rw [sync_one] at p4 go4 ⊢
  have bb4 := bb3.trans b4
  clear p3 bb3 b4 go3
  obtain ⟨q5', r5, c5⟩ := conv_lit w4 w4.heap.size 2 [53, 54] rfl rfl (by decide)
  have q5 : (convert 33 33 (.slice (some ⟨w4.heap.size, 0, none⟩) 2 2)).run Try.prog (w4.alloc (.cells #[.int .u8 53, .int .u8 54] 5)) = _ := q5'
  have p5 := p4.below (ldT_keeps _ _) noT_keeps c5
  have bb5 := below_chain bb4 c5
  generalize w4.alloc (.cells (cellsOf [53, 54]).toArray 5 ((cellsOf [53, 54]).toArray.size, (cellsOf [53, 54]).toArray.size + 1)) = w5 at *
  clear p4 bb4 c5 q5'
  go_wp2_with fail
  refine (pr_append p5 noT_keeps bb5.size go4 (s := nA) (by decide) r5 (by decide)).mono ?_
  rintro e w6 ⟨rfl, p6, b6⟩
  have go6 := append_go go4 nA [53, 54]
  have e6 := app_more (q := 100) (b := [49, 50, 51, 52]) (c := [53, 54]) (k := ([49, 50, 51, 52] : List UInt8).length) nA mayA (by decide) (by decide)
  rw [e6] at p6 go6 ⊢
  have bb6 := bb5.trans b6
  clear p5 bb5 b6 e6 q5 r5 go4
  go_wp2_with fail
  refine (pr_crash p6 noT_keeps bb6.size go6 (keep := 1) (by decide)).mono ?_
  rintro e w7 ⟨rfl, p7, b7⟩
  have go7 := crash_go go6 1
  rw [crash_one] at p7 go7
  have bb7 := bb6.trans b7
  clear p6 bb6 b7 go6
  go_wp2_with fail
  refine (pr_read p7 noT_keeps go7 (s := nA) (by decide)).mono ?_
  rintro e w8 ⟨B, m, c, rfl, r8, p8, b8⟩
  obtain ⟨ea, eb⟩ := read_hd 100 (-1) nA (crashL 1 ⟨nA, [49, 50, 51, 52] ++ [53, 54], ([49, 50, 51, 52] : List UInt8).length⟩).b (crashL 1 ⟨nA, [49, 50, 51, 52] ++ [53, 54], ([49, 50, 51, 52] : List UInt8).length⟩).safe []
  have ec : (crashL 1 ⟨nA, [49, 50, 51, 52] ++ [53, 54], ([49, 50, 51, 52] : List UInt8).length⟩).b = [49, 50, 51, 52, 53] := by decide
  have ea' : readC ⟨100, -1, [crashL 1 ⟨nA, [49, 50, 51, 52] ++ [53, 54], ([49, 50, 51, 52] : List UInt8).length⟩]⟩ nA = 0 := ea
  have eb' : readB ⟨100, -1, [crashL 1 ⟨nA, [49, 50, 51, 52] ++ [53, 54], ([49, 50, 51, 52] : List UInt8).length⟩]⟩ nA = [49, 50, 51, 52, 53] := eb.trans ec
  rw [eb'] at r8
  rw [ea']
  have sx := rd_str r8
  have bb8 := below_chain bb7 b8
  clear p7 p8 b8 bb7 go7 ea eb ec ea' eb'
  go_wp2_with fail
  go_ret
  exact ⟨rfl, bb8⟩

end Go.Proofs.Ytfdhfjmmmjhgbaa.DkWalk

/-
  Walk of a statement of layer 8: DiskNames.
-/
namespace Go.Proofs.Ytfdhfjmmmjhgbaa.DkWalk
open Go.RowKit Go.Maps Go.WideShapes Go.ChangeShapes Go.Proofs.Ytfdhfjmmmjhgbaa.MemRow Go.Proofs.Ytfdhfjmmmjhgbaa.Ev Go.Proofs.Ytfdhfjmmmjhgbaa.NameMath Go.Proofs.Ytfdhfjmmmjhgbaa.NameWalk Go.Proofs.Ytfdhfjmmmjhgbaa.EvWalk Go.Proofs.Ytfdhfjmmmjhgbaa.NumMem Go.Proofs.Ytfdhfjmmmjhgbaa.Open

set_option maxHeartbeats 8000000 in
set_option maxRecDepth 100000 in
theorem names_walk (A : Option Addr) (n cap : Nat) (l : List UInt8) (B : Option Addr) (m cb : Nat) (k : List UInt8) (w : World) (hl : Rd w A n cap l) (hk : Rd w B m cb k) :
    Calls Try.prog 5 #[.slice A n cap, .slice B m cb] w fun e w' => e = .returned (.bool true) ∧ Below w.heap.size w w' := by
  go_enter Try.func5, Try.ntmps5
  go_wp2_with fail
  refine (shown8_any _).mono ?_
  rintro e w1 ⟨rfl, b1⟩
  go_wp2_with fail
  refine (pr_first b1.size 4000).mono ?_
  rintro e w2 ⟨g, rfl, p2, b2⟩
  have go2 : DkGo (newD 4000) := new_go (by decide)
  rw [newD_pos (by decide)] at p2 go2
  have B2 := below_chain b1 b2
  have r2 := hl.below B2
  have s2 := hk.below B2
  have hl' := short_rd hl
  have hk' := short_rd hk
  clear b1 b2 hl hk
  go_wp2_with fail
  refine (short_any A n cap l w2 r2).mono ?_
  rintro e w3 ⟨rfl, r3, rfl⟩
  go_wp2_with fail
  refine (short_any B m cb k w2 s2).mono ?_
  rintro e w3 ⟨rfl, s3, rfl⟩
  have hn : min n 200 ≤ 200 := by omega
  have hm : min m 200 ≤ 200 := by omega
  generalize min n 200 = n' at *
  generalize min m 200 = m' at *
  generalize l.take 200 = l' at *
  generalize k.take 200 = k' at *
  have hll := r3.len
  have hkl := s3.len
  have HA := Go.Lib.hid hl'
  have HK := Go.Lib.hid hk'
  clear r2 s2 s3 hl' hk'
  go_wp2_with fail
  refine (pr_append p2 noT_keeps B2.size go2 (s := nA) (by decide) r3 (by omega)).mono ?_
  rintro e w3 ⟨rfl, p3, b3⟩
  have go3 := append_go go2 nA l'
  rw [app_new nA mayA (by omega) (by omega)] at p3 go3 ⊢
  have B3 := B2.trans b3
  have s3 := HK.out.below B3
  clear p2 B2 b3 go2 r3
  go_wp2_with fail
  refine (pr_append p3 noT_keeps B3.size go3 (s := nB) (by decide) s3 (by omega)).mono ?_
  rintro e w4 ⟨rfl, p4, b4⟩
  have go4 := append_go go3 nB k'
  rw [app_second lessAB mayB (by omega) (by omega)] at p4 go4 ⊢
  have B4 := B3.trans b4
  clear p3 B3 b4 go3 s3
  go_wp2_with fail
  refine (pr_rename p4 noT_keeps B4.size go4 (s := nA) (t := nB) (by decide) (by decide)).mono ?_
  rintro e w5 ⟨rfl, p5, b5⟩
  have go5 := rename_go go4 nA nB
  rw [rename_exists neAB mayB] at p5 go5 ⊢
  have B5 := B4.trans b5
  clear p4 B4 b5 go4
  go_wp2_with fail
  refine (pr_rename p5 noT_keeps B5.size go5 (s := nA) (t := nC) (by decide) (by decide)).mono ?_
  rintro e w6 ⟨rfl, p6, b6⟩
  have go6 := rename_go go5 nA nC
  rw [rename_ok2 neBC neAC lessBC mayC] at p6 go6 ⊢
  have B6 := B5.trans b6
  clear p5 B5 b6 go5
  go_wp2_with fail
  refine (pr_rename p6 noT_keeps B6.size go6 (s := nA) (t := nD) (by decide) (by decide)).mono ?_
  rintro e w7 ⟨rfl, p7, b7⟩
  have go7 := rename_go go6 nA nD
  rw [rename_none (fun e => neAB e.symm) (fun e => neAC e.symm)] at p7 go7 ⊢
  have B7 := B6.trans b7
  clear p6 B6 b7 go6
  go_wp2_with fail
  refine (pr_read p7 noT_keeps go7 (s := nC) (by decide)).mono ?_
  rintro e w8 ⟨C8, m8, c8, rfl, r8, p8, b8⟩
  rw [(read_tl neBC _ _ _ _ _).2, (read_hd _ _ _ _ _ _).2] at r8
  rw [(read_tl neBC _ _ _ _ _).1, (read_hd _ _ _ _ _ _).1]
  have B8 := below_chain B7 b8
  clear p7 B7 b8
  go_wp2_with fail
  refine (pr_read p8 noT_keeps go7 (s := nB) (by decide)).mono ?_
  rintro e w9 ⟨C9, m9, c9, rfl, r9, p9, b9⟩
  rw [(read_hd _ _ _ _ _ _).2] at r9
  rw [(read_hd _ _ _ _ _ _).1]
  have B9 := below_chain B8 b9
  have r8' := r8.below b9
  clear p8 B8 b9 r8
  go_wp2_with fail
  refine (pr_read p9 noT_keeps go7 (s := nA) (by decide)).mono ?_
  rintro e w10 ⟨C10, m10, c10, rfl, r10, p10, b10⟩
  rw [(read_tl (fun e => neAB e.symm) _ _ _ _ _).1, (read_tl (fun e => neAC e.symm) _ _ _ _ _).1, (read_nil _ _ _).1]
  have B10 := below_chain B9 b10
  have sx := rd_str (r8'.below b10)
  have sy := rd_str (r9.below b10)
  have ta := rd_str (HA.out.below B10)
  have tk := rd_str (HK.out.below B10)
  clear p9 B9 b10 r8' r9 r10
  go_wp2_with fail
  refine (pr_used p10 noT_keeps go7).mono ?_
  rintro e w11 ⟨rfl, p11, b11⟩
  rw [used_two]
  have eu : k'.length + l'.length = n' + m' := by omega
  rw [eu]
  have B11 := below_chain B10 b11
  clear p10 B10 b11 sx sy ta tk eu
  go_wp2_with fail
  refine (pr_list p11 noT_keeps go7).mono ?_
  rintro e w12 ⟨C12, m12, c12, rfl, r12, p12, b12⟩
  have e12 : m12 = 2 := by
    have := r12.len
    simpa [names] using this.symm
  subst e12
  have B12 := below_chain B11 b12
  clear p11 B11 b12 r12 p12
  go_wp2_with fail
  go_ret
  exact ⟨rfl, B12⟩
section
variable {H : Type} {enc : TypeId × Value → H}
set_option maxRecDepth 100000 in
theorem names_main (W : World) (base : Nat) (v0 v1 : Value) {d0 d1 : DataW H} {p0 p1 : List MemPlace} (o0 : Value.okWide Try.prog W .any base 33 v0) (o1 : Value.okWide Try.prog W .any base 33 v1)
    (h0 : DataW.Trod enc Try.prog W 0 (fun _ => true) true 33 v0 d0 p0) (h1 : DataW.Trod enc Try.prog W 0 (fun _ => true) true 33 v1 d1 p1) :
    Calls Try.prog 5 #[v0, v1] W fun e W' => e = .returned (.bool true) ∧ Below W.heap.size W W' := by
  obtain ⟨A, n, cap, l, rfl, hl⟩ := op_bytes Try.underlying33 Try.underlying5 (by kernel_rfl) o0 h0
  obtain ⟨B, m, cb, k, rfl, hk⟩ := op_bytes Try.underlying33 Try.underlying5 (by kernel_rfl) o1 h1
  exact names_walk A n cap l B m cb k W hl hk
end

end Go.Proofs.Ytfdhfjmmmjhgbaa.DkWalk

/-
  Walk of a statement of layer 8: DiskCuts.
-/
namespace Go.Proofs.Ytfdhfjmmmjhgbaa.DkWalk
open Go.RowKit Go.Maps Go.WideShapes Go.ChangeShapes Go.Proofs.Ytfdhfjmmmjhgbaa.MemRow Go.Proofs.Ytfdhfjmmmjhgbaa.Ev Go.Proofs.Ytfdhfjmmmjhgbaa.NameMath Go.Proofs.Ytfdhfjmmmjhgbaa.NameWalk Go.Proofs.Ytfdhfjmmmjhgbaa.EvWalk Go.Proofs.Ytfdhfjmmmjhgbaa.NumMem Go.Proofs.Ytfdhfjmmmjhgbaa.Open

theorem crash0_b {s : ByteArray} {b : List UInt8} {k : Nat} : (crashL 0 ⟨s, b, k⟩).b = b.take k := by
  unfold crashL crashN
  simp
theorem cat_text (a b : List UInt8) (ha : a.length ≤ 1000) (hb : b.length ≤ 1000) (W : World) : (Op.stringOp .add ⟨a.toArray⟩ ⟨b.toArray⟩).run Try.prog W = .ok (.string ⟨(a ++ b).toArray⟩) W :=
  run_string_add_lists W a b (by omega) (by omega)
set_option maxHeartbeats 8000000 in
set_option maxRecDepth 100000 in
theorem cuts_walk (A : Option Addr) (n cap : Nat) (l : List UInt8) (B : Option Addr) (m cb : Nat) (k : List UInt8) (z : Int) (w : World) (hl : Rd w A n cap l) (hk : Rd w B m cb k) :
    Calls Try.prog 6 #[.slice A n cap, .slice B m cb, .int .i64 z] w fun e w' => e = .returned (.bool true) ∧ Below w.heap.size w w' := by
  go_enter Try.func6, Try.ntmps6
  go_wp2_with fail
  refine (shown8_any _).mono ?_
  rintro e w1 ⟨rfl, b1⟩
  go_wp2_with fail
  refine (pr_first b1.size 4000).mono ?_
  rintro e w2 ⟨g, rfl, p2, b2⟩
  have go2 : DkGo (newD 4000) := new_go (by decide)
  rw [newD_pos (by decide)] at p2 go2
  have B2 := below_chain b1 b2
  have r2 := hl.below B2
  have s2 := hk.below B2
  have hl' := short_rd hl
  have hk' := short_rd hk
  clear b1 b2 hl hk
  go_wp2_with fail
  refine (short_any A n cap l w2 r2).mono ?_
  rintro e w3 ⟨rfl, r3, rfl⟩
  go_wp2_with fail
  refine (short_any B m cb k w2 s2).mono ?_
  rintro e w3 ⟨rfl, s3, rfl⟩
  have hn : min n 200 ≤ 200 := by omega
  have hm : min m 200 ≤ 200 := by omega
  generalize min n 200 = n' at *
  generalize min m 200 = m' at *
  generalize l.take 200 = l' at *
  generalize k.take 200 = k' at *
  have hll := r3.len
  have hkl := s3.len
  have hcap := r3.le_cap
  have HA := Go.Lib.hid hl'
  have HK := Go.Lib.hid hk'
  clear r2 s2 s3 hl' hk'
  go_wp2_with fail
  refine (pr_append p2 noT_keeps B2.size go2 (s := nA) (by decide) r3 (by omega)).mono ?_
  rintro e w3 ⟨rfl, p3, b3⟩
  have go3 := append_go go2 nA l'
  rw [app_new nA mayA (by omega) (by omega)] at p3 go3 ⊢
  have B3 := B2.trans b3
  clear p2 B2 b3 go2 r3
  go_wp2_with fail
  refine (pr_sync p3 noT_keeps B3.size go3 (s := nA) (by decide)).mono ?_
  rintro e w4 ⟨rfl, p4, b4⟩
  have go4 := sync_go go3 nA
  rw [sync_one] at p4 go4 ⊢
  have B4 := B3.trans b4
  clear p3 B3 b4 go3
  go_wp2_with fail
  refine (pr_trunc p4 noT_keeps B4.size go4 (s := nA) (by decide) z).mono ?_
  rintro e w5 ⟨rfl, p5, b5⟩
  have go5 := trunc_go go4 nA z
  have B5 := B4.trans b5
  clear p4 B4 b5 go4
  by_cases hbad : z < 0 ∨ (l'.length : Int) < z
  · rw [trunc_bad nA hbad] at p5 go5 ⊢
    have hway : z < 0 ∨ (¬ z < 0 ∧ (n' : Int) < z) := by omega
    clear hbad
    rcases hway with i1 | ⟨i1, i2⟩
    all_goals
      go_wp2_with fail
      refine (pr_read p5 noT_keeps go5 (s := nA) (by decide)).mono ?_
      rintro e w6 ⟨C6, m6, c6, rfl, r6, p6, b6⟩
      rw [(read_hd _ _ _ _ _ _).2] at r6
      rw [(read_hd _ _ _ _ _ _).1]
      have B6 := below_chain B5 b6
      have sx := rd_str r6
      have ta := rd_str (HA.out.below B6)
      clear p5 p6 b6 r6 go5
      go_wp2_with fail
      go_ret
      exact ⟨rfl, B6⟩
  · obtain ⟨y, rfl⟩ : ∃ y : Nat, z = y := ⟨z.toNat, by omega⟩
    have hy : y ≤ l'.length := by omega
    rw [trunc_one nA hy] at p5 go5 ⊢
    have i1 : ¬ (y : Int) < 0 := by omega
    have i2 : ¬ (n' : Int) < y := by omega
    have hmy : min l'.length y = y := by omega
    have htl : (l'.take y).length = y := by rw [List.length_take]; omega
    rw [hmy] at p5 go5
    have s5 := HK.out.below B5
    clear hbad
    go_wp2_with fail
    refine (pr_append p5 noT_keeps B5.size go5 (s := nA) (by decide) s5 (by omega)).mono ?_
    rintro e w6 ⟨rfl, p6, b6⟩
    have go6 := append_go go5 nA k'
    rw [app_more nA mayA (by omega) (by omega)] at p6 go6 ⊢
    have B6 := B5.trans b6
    clear p5 B5 b6 go5 s5
    go_wp2_with fail
    refine (pr_reads p6 noT_keeps B6.size go6 (s := nA) (by decide)).mono ?_
    rintro e w7 ⟨C7, m7, c7, rfl, p7, b7⟩
    rw [(read_hd _ _ _ _ _ _).2] at p7
    rw [(read_hd _ _ _ _ _ _).1]
    have B7 := below_chain B6 b7
    have kp := with_keeps noT_keeps (slT_keeps C7 m7 c7 (l'.take y ++ k'))
    clear p6 B6 b7
    go_wp2_with fail
    refine (pr_crash p7 kp B7.size go6 (keep := 0) (by decide)).mono ?_
    rintro e w8 ⟨rfl, p8, b8⟩
    have go8 := crash_go go6 0
    rw [crash_one] at p8 go8
    have B8 := B7.trans b8
    clear p7 B7 b8 go6
    go_wp2_with fail
    refine (pr_reads p8 kp B8.size go8 (s := nA) (by decide)).mono ?_
    rintro e w9 ⟨C9, m9, c9, rfl, p9, b9⟩
    have er := read_hd 4000 (-1) nA (crashL 0 ⟨nA, l'.take y ++ k', y⟩).b (crashL 0 ⟨nA, l'.take y ++ k', y⟩).safe []
    have er1 : readC ⟨4000, -1, [crashL 0 ⟨nA, l'.take y ++ k', y⟩]⟩ nA = 0 := er.1
    have er2 : readB ⟨4000, -1, [crashL 0 ⟨nA, l'.take y ++ k', y⟩]⟩ nA = l'.take y := by
      refine er.2.trans ?_
      rw [crash0_b, List.take_append_of_le_length (by omega), List.take_of_length_le (by omega)]
    rw [er2] at p9
    rw [er1]
    have B9 := below_chain B8 b9
    have ry := pair_rd p9
    have rx := pair_rd (pair_first p9)
    have sx := fun q => rd_str (rx.drewN q)
    have sy := fun q => rd_str (ry.drewN q)
    have hA := HA.out.below B9
    have ta := fun q => rd_str ((hA.first (k := y) (by omega)).drewN q)
    have tk := fun q => rd_str ((HK.out.below B9).drewN q)
    have qs := slice_upto A n' cap y (by omega)
    have qc := cat_text (l'.take y) k' (by omega) (by omega)
    clear p8 B8 b9 p9 rx ry hA er er1 er2 go8 kp
    generalize l'.take y = t' at *
    generalize t' ++ k' = tk' at *
    go_wp2_with fail
    go_quiet (fail)
    go_wp2_with fail
    go_ret
    exact ⟨rfl, bel_drewN B9 _⟩
section
variable {H : Type} {enc : TypeId × Value → H}
set_option maxRecDepth 100000 in
theorem cuts_main (W : World) (base : Nat) (v0 v1 v2 : Value) {d0 d1 d2 : DataW H} {p0 p1 p2 : List MemPlace} (o0 : Value.okWide Try.prog W .any base 33 v0) (o1 : Value.okWide Try.prog W .any base 33 v1) (o2 : Value.okWide Try.prog W .any base 3 v2)
    (h0 : DataW.Trod enc Try.prog W 0 (fun _ => true) true 33 v0 d0 p0) (h1 : DataW.Trod enc Try.prog W 0 (fun _ => true) true 33 v1 d1 p1) (h2 : DataW.Trod enc Try.prog W 0 (fun _ => true) true 3 v2 d2 p2) :
    Calls Try.prog 6 #[v0, v1, v2] W fun e W' => e = .returned (.bool true) ∧ Below W.heap.size W W' := by
  obtain ⟨A, n, cap, l, rfl, hl⟩ := op_bytes Try.underlying33 Try.underlying5 (by kernel_rfl) o0 h0
  obtain ⟨B, m, cb, k, rfl, hk⟩ := op_bytes Try.underlying33 Try.underlying5 (by kernel_rfl) o1 h1
  obtain ⟨z, rfl, _⟩ := op_i64 Try.underlying3 o2 h2
  exact cuts_walk A n cap l B m cb k z W hl hk
end

end Go.Proofs.Ytfdhfjmmmjhgbaa.DkWalk

/-
  Walk of a statement of layer 8: DiskTurns.
-/
namespace Go.Proofs.Ytfdhfjmmmjhgbaa.DkWalk
open Go.RowKit Go.Maps Go.WideShapes Go.ChangeShapes Go.Proofs.Ytfdhfjmmmjhgbaa.MemRow Go.Proofs.Ytfdhfjmmmjhgbaa.Ev Go.Proofs.Ytfdhfjmmmjhgbaa.NameMath Go.Proofs.Ytfdhfjmmmjhgbaa.NameWalk Go.Proofs.Ytfdhfjmmmjhgbaa.EvWalk Go.Proofs.Ytfdhfjmmmjhgbaa.NumMem Go.Proofs.Ytfdhfjmmmjhgbaa.Open

theorem turn_twice (l : List UInt8) (y : Nat) (h : y < l.length) : (l.set y (l.getD y 0 ^^^ 1)).set y ((l.set y (l.getD y 0 ^^^ 1)).getD y 0 ^^^ 1) = l := by
  have e : (l.set y (l.getD y 0 ^^^ 1)).getD y 0 = l.getD y 0 ^^^ 1 := by
    rw [List.getD_eq_getElem?_getD, List.getElem?_set_self h]
    rfl
  rw [e, List.set_set]
  have e2 : l.getD y 0 ^^^ 1 ^^^ 1 = l.getD y 0 := by rw [UInt8.xor_assoc, UInt8.xor_self, UInt8.xor_zero]
  rw [e2, List.getD_eq_getElem?_getD, List.getElem?_eq_getElem h]
  exact List.set_getElem_self h
theorem turn_get (l : List UInt8) (y j : Nat) (c : UInt8) (h : j < l.length) : (l.set y c).getD j 0 = if j = y then c else l.getD j 0 := by
  rw [List.getD_eq_getElem?_getD, List.getElem?_set]
  by_cases e : y = j
  · subst e
    simp [h]
  · rw [if_neg e, if_neg (fun h => e h.symm), List.getD_eq_getElem?_getD]
set_option maxHeartbeats 8000000 in
set_option maxRecDepth 100000 in
theorem turns_walk (A : Option Addr) (n cap : Nat) (l : List UInt8) (z : Int) (w : World) (hl : Rd w A n cap l) :
    Calls Try.prog 7 #[.slice A n cap, .int .i64 z] w fun e w' => e = .returned (.bool true) ∧ Below w.heap.size w w' := by
  go_enter Try.func7, Try.ntmps7
  go_wp2_with fail
  refine (shown8_any _).mono ?_
  rintro e w1 ⟨rfl, b1⟩
  go_wp2_with fail
  refine (pr_first b1.size 4000).mono ?_
  rintro e w2 ⟨g, rfl, p2, b2⟩
  have go2 : DkGo (newD 4000) := new_go (by decide)
  rw [newD_pos (by decide)] at p2 go2
  have B2 := below_chain b1 b2
  have r2 := hl.below B2
  have hl' := short_rd hl
  clear b1 b2 hl
  go_wp2_with fail
  refine (short_any A n cap l w2 r2).mono ?_
  rintro e w3 ⟨rfl, r3, rfl⟩
  have hn : min n 200 ≤ 200 := by omega
  generalize min n 200 = n' at *
  generalize l.take 200 = l' at *
  have hll := r3.len
  have HA := Go.Lib.hid hl'
  clear r2 hl'
  go_wp2_with fail
  refine (pr_append p2 noT_keeps B2.size go2 (s := nA) (by decide) r3 (by omega)).mono ?_
  rintro e w3 ⟨rfl, p3, b3⟩
  have go3 := append_go go2 nA l'
  rw [app_new nA mayA (by omega) (by omega)] at p3 go3 ⊢
  have B3 := B2.trans b3
  clear p2 B2 b3 go2 r3
  go_wp2_with fail
  refine (pr_clone p3 noT_keeps B3.size go3).mono ?_
  rintro e w4 ⟨gc, rfl, p4, b4⟩
  have p4 := pair_second p4
  have B4 := below_chain B3 b4
  have kc := ldT_keeps gc ⟨4000, -1, [⟨nA, l', 0⟩]⟩
  clear p3 B3 b4
  go_wp2_with fail
  refine (pr_turn p4 kc B4.size go3 (s := nA) (by decide) z).mono ?_
  rintro e w5 ⟨rfl, p5, b5⟩
  have go5 := turn_go go3 nA z
  have B5 := B4.trans b5
  clear p4 B4 b5
  by_cases hbad : z < 0 ∨ (l'.length : Int) ≤ z
  · rw [turn_bad nA hbad] at p5 go5 ⊢
    have hway : z < 0 ∨ (¬ z < 0 ∧ (n' : Int) ≤ z) := by omega
    clear hbad go3
    go_wp2_with fail
    refine (pr_read p5 kc go5 (s := nA) (by decide)).mono ?_
    rintro e w6 ⟨C6, m6, c6, rfl, r6, p6, b6⟩
    rw [(read_hd _ _ _ _ _ _).2] at r6
    rw [(read_hd _ _ _ _ _ _).1]
    have B6 := below_chain B5 b6
    obtain rfl : m6 = n' := by rw [← r6.len, hll]
    have sx := rd_str r6
    have ta := rd_str (HA.out.below B6)
    clear p5 p6 b6 r6 go5
    rcases hway with i1 | ⟨i1, i2⟩
    all_goals
      go_wp2_with fail
      go_ret
      exact ⟨rfl, B6⟩
  · obtain ⟨y, rfl⟩ : ∃ y : Nat, z = y := ⟨z.toNat, by omega⟩
    have hy : y < l'.length := by omega
    rw [turn_one nA hy] at p5 go5 ⊢
    have i1 : ¬ (y : Int) < 0 := by omega
    have i2 : ¬ (n' : Int) ≤ y := by omega
    have hl1 : (l'.set y (l'.getD y 0 ^^^ 1)).length = n' := by rw [List.length_set, hll]
    have HG := Go.Lib.hid (fun j h => turn_get l' y j (l'.getD y 0 ^^^ 1) (h := h))
    have HT := Go.Lib.hid (turn_twice l' y hy)
    have HX := Go.Lib.hid (xor1 (l'.getD y 0))
    clear hbad
    go_wp2_with fail
    refine (pr_reads p5 kc B5.size go5 (s := nA) (by decide)).mono ?_
    rintro e w6 ⟨C6, m6, c6, rfl, p6, b6⟩
    rw [(read_hd _ _ _ _ _ _).2] at p6
    rw [(read_hd _ _ _ _ _ _).1]
    have B6 := below_chain B5 b6
    have r6 := pair_rd p6
    obtain rfl : m6 = n' := by rw [← r6.len, hl1]
    have p6' := pair_first p6
    clear p6
    obtain ⟨bx, ox, rfl, _, hcx⟩ := r6.at_ (by omega)
    obtain ⟨ba, oa, rfl, _, hca⟩ := (HA.out.below B6).at_ (by omega)
    clear p5 b6 B5 r6
    go_wp2_with fail
    go_loopw [11, 12] (fun i _ wr => ∃ j : Nat, j ≤ m6 ∧ i = .int .i64 j ∧ w6 = wr) (fun i _ _ => m6 - (intOf i).toNat)
    case atStart => exact ⟨0, Nat.zero_le _, rfl, rfl⟩
    case round =>
      obtain ⟨j, hj, rfl, rfl⟩ := hrel
      by_cases hlt : j < m6
      · have i3 : (j : Int) < m6 := by omega
        have i4 : (0 : Int) ≤ j := by omega
        have kx := hcx j hlt
        have ka := hca j hlt
        rw [HG.out j (by omega)] at kx
        by_cases hjy : j = y
        · subst hjy
          rw [if_pos rfl] at kx
          generalize l'.getD j 0 = cv at *
          clear hcx hca HT HG
          go_upto_region 22 with (fail)
          rw [HX.out]
          go_wp2_with fail
          go_roundw
          case rel => exact ⟨j + 1, by omega, by go_num, by trivial⟩
          case measure => simp [intOf]; omega
        · rw [if_neg hjy] at kx
          have i5 : ((j : Int) == (y : Int)) = false := by rw [beq_eq_false_iff_ne]; omega
          generalize l'.getD j 0 = cj at *
          clear hcx hca HT HG HX
          go_wp2_with fail
          go_roundw
          case rel => exact ⟨j + 1, by omega, by go_num, by trivial⟩
          case measure => simp [intOf]; omega
      · obtain rfl : m6 = j := by omega
        clear hcx hca HG HX
        go_wp2_with fail
        refine (pr_turn p6' kc B6.size go5 (s := nA) (by decide) y).mono ?_
        rintro e w7 ⟨rfl, p7, b7⟩
        have go7 := turn_go go5 nA y
        rw [turn_one nA (by rw [List.length_set]; exact hy), HT.out] at p7 go7 ⊢
        have B7 := B6.trans b7
        clear p6' B6 b7 go5
        go_wp2_with fail
        refine (pr_reads p7 kc B7.size go7 (s := nA) (by decide)).mono ?_
        rintro e w8 ⟨C8, m8, c8, rfl, p8, b8⟩
        rw [(read_hd _ _ _ _ _ _).2] at p8
        rw [(read_hd _ _ _ _ _ _).1]
        have B8 := below_chain B7 b8
        have ry := pair_rd p8
        have p8' := (pair_first p8).swap
        clear p7 b8 B7 p8
        go_wp2_with fail
        refine (pr_read p8' (ldT_keeps _ _) go7 (s := nA) (by decide)).mono ?_
        rintro e w9 ⟨C9, m9, c9, rfl, rz, p9, b9⟩
        rw [(read_hd _ _ _ _ _ _).2] at rz
        rw [(read_hd _ _ _ _ _ _).1]
        have B9 := below_chain B8 b9
        have sy := rd_str (ry.below b9)
        have sz := rd_str rz
        have ta := rd_str (HA.out.below B9)
        clear p8' b9 B8 ry rz p9
        go_wp2_with fail
        go_ret
        exact ⟨rfl, B9⟩
section
variable {H : Type} {enc : TypeId × Value → H}
set_option maxRecDepth 100000 in
theorem turns_main (W : World) (base : Nat) (v0 v1 : Value) {d0 d1 : DataW H} {p0 p1 : List MemPlace} (o0 : Value.okWide Try.prog W .any base 33 v0) (o1 : Value.okWide Try.prog W .any base 3 v1)
    (h0 : DataW.Trod enc Try.prog W 0 (fun _ => true) true 33 v0 d0 p0) (h1 : DataW.Trod enc Try.prog W 0 (fun _ => true) true 3 v1 d1 p1) :
    Calls Try.prog 7 #[v0, v1] W fun e W' => e = .returned (.bool true) ∧ Below W.heap.size W W' := by
  obtain ⟨A, n, cap, l, rfl, hl⟩ := op_bytes Try.underlying33 Try.underlying5 (by kernel_rfl) o0 h0
  obtain ⟨z, rfl, _⟩ := op_i64 Try.underlying3 o1 h1
  exact turns_walk A n cap l z W hl
end

end Go.Proofs.Ytfdhfjmmmjhgbaa.DkWalk

/-
  Walk of a statement of layer 8: DiskRoom.
-/
namespace Go.Proofs.Ytfdhfjmmmjhgbaa.DkWalk
open Go.RowKit Go.Maps Go.WideShapes Go.ChangeShapes Go.Proofs.Ytfdhfjmmmjhgbaa.MemRow Go.Proofs.Ytfdhfjmmmjhgbaa.Ev Go.Proofs.Ytfdhfjmmmjhgbaa.NameMath Go.Proofs.Ytfdhfjmmmjhgbaa.NameWalk Go.Proofs.Ytfdhfjmmmjhgbaa.EvWalk Go.Proofs.Ytfdhfjmmmjhgbaa.NumMem Go.Proofs.Ytfdhfjmmmjhgbaa.Open

/-- A disk with N bytes in one file, or none yet. -/
def RoomD (q : Int) (N : Nat) (D : Dk) : Prop := (D = ⟨q, -1, []⟩ ∧ N = 0) ∨ ∃ b : List UInt8, b.length = N ∧ D = ⟨q, -1, [⟨nA, b, 0⟩]⟩
theorem room_app {q : Int} {N k : Nat} {D : Dk} {c : List UInt8} (h : RoomD q N D) (hc : c.length = k) (hk : k ≤ 127) (hN : N ≤ 60000) (hq : ((N + k : Nat) : Int) ≤ q) : (appendD D nA c).1 = 0 ∧ RoomD q (N + k) (appendD D nA c).2 := by
  rcases h with ⟨rfl, rfl⟩ | ⟨b, hb, rfl⟩
  · rw [app_new nA mayA (by omega) (by omega)]
    exact ⟨rfl, .inr ⟨c, by omega, rfl⟩⟩
  · rw [app_more nA mayA (by omega) (by omega)]
    exact ⟨rfl, .inr ⟨b ++ c, by rw [List.length_append]; omega, rfl⟩⟩
theorem room_full {q : Int} {N k : Nat} {D : Dk} {c : List UInt8} (h : RoomD q N D) (hc : c.length = k) (hk : k ≤ 127) (hN : N ≤ 60000) (hq : q < ((N + k : Nat) : Int)) : (appendD D nA c).1 = 10 ∧ (appendD D nA c).2 = D := by
  rcases h with ⟨rfl, rfl⟩ | ⟨b, hb, rfl⟩
  · rw [app_new_space nA mayA (by omega) (by omega)]
    exact ⟨rfl, rfl⟩
  · rw [app_space nA mayA (by omega) (by omega)]
    exact ⟨rfl, rfl⟩
theorem room_used {q : Int} {N : Nat} {D : Dk} (h : RoomD q N D) : usedF D.fs = N := by
  rcases h with ⟨rfl, rfl⟩ | ⟨b, hb, rfl⟩
  · rfl
  · rw [used_one, hb]
theorem zeros_rd (w : World) (k : Nat) (hk : k ≤ 60000) : Rd (w.alloc (.cells (cellsOf (List.replicate k 0)).toArray 5)) (some ⟨w.heap.size, 0, none⟩) k k (List.replicate k 0) := by
  refine Rd.of_block (heap_alloc_new w _) (by simp) (Nat.le_refl _) (by unfold maxLen; omega) fun i hi => ?_
  have hi' : i < (List.replicate k (0 : UInt8)).length := by simpa using hi
  simp only [cellsOf, List.getElem?_toArray, List.getElem?_map, List.getElem?_eq_getElem hi', List.getD, Option.map_some, Option.getD_some]
set_option maxHeartbeats 8000000 in
set_option maxRecDepth 100000 in
theorem room_walk (z : Int) (hz : -9223372036854775808 ≤ z ∧ z ≤ 9223372036854775807) (A : Option Addr) (n cap : Nat) (l : List UInt8) (w : World) (hl : Rd w A n cap l) :
    Calls Try.prog 8 #[.int .i64 z, .slice A n cap] w fun e w' => e = .returned (.bool true) ∧ Below w.heap.size w w' := by
  have hnm := hl.le
  unfold maxLen at hnm
  go_enter Try.func8, Try.ntmps8
  go_wp2_with fail
  refine (shown8_any _).mono ?_
  rintro e w1 ⟨rfl, b1⟩
  go_wp2_with fail
  refine (kind_any z 1000 w1 hz (by decide) (by decide)).mono ?_
  rintro e w' ⟨rfl, rfl⟩
  have hq := kindN_lt z (n := 1000) (by decide)
  generalize kindN z 1000 = q at *
  go_wp2_with fail
  refine (pr_first b1.size (q : Int)).mono ?_
  rintro e w2 ⟨g, rfl, p2, b2⟩
  have go2 : DkGo (newD (q : Int)) := new_go (by omega)
  rw [newD_pos (by omega)] at p2 go2
  have B2 := below_chain b1 b2
  have HL := Go.Lib.hid hl
  have GO2 := Go.Lib.hid go2
  clear b1 b2 hl go2
  go_upto_block 0 with (fail)
  go_cut [8, 9, 10, 11] (fun s _ _ _ wx => ∃ (N : Nat) (D : Dk), s = .int .i64 N ∧ N ≤ 2540 ∧ N ≤ q ∧ Hid (RoomD (q : Int) N D) ∧ Pair w.heap.size wx (LdT g D) NoT ∧ Hid (DkGo D) ∧ Below w.heap.size w wx)
  case first =>
    go_wp2_with fail
    go_loopw [8, 9, 10, 11] (fun s i _ _ wr => ∃ (j N : Nat) (D : Dk), j ≤ n ∧ i = .int .i64 j ∧ s = .int .i64 N ∧ N ≤ 127 * j ∧ N ≤ 2540 ∧ N ≤ q ∧ Hid (RoomD (q : Int) N D) ∧ Pair w.heap.size wr (LdT g D) NoT ∧ Hid (DkGo D) ∧ Below w.heap.size w wr) (fun _ i _ _ _ => n - (intOf i).toNat)
    case atStart => exact ⟨0, 0, _, Nat.zero_le _, rfl, rfl, Nat.le_refl _, Nat.zero_le _, Nat.zero_le _, Go.Lib.hid (.inl ⟨rfl, rfl⟩), p2, GO2, B2⟩
    case round =>
      obtain ⟨j, N, D, hj, rfl, rfl, hN, hN2, hNq, HR, p3, GO3, B3⟩ := hrel
      clear p2 B2
      by_cases hlt : j < n ∧ j < 20
      · obtain ⟨h1, h2⟩ := hlt
        have i1 : (j : Int) < n := by omega
        have i2 : (j : Int) < 20 := by omega
        have i3 : (0 : Int) ≤ j := by omega
        obtain ⟨ba, oa, rfl, _, hca⟩ := (HL.out.below B3).at_ (by omega)
        have ka := hca j h1
        have hu := UInt8.toNat_lt (l.getD j 0)
        generalize (l.getD j 0).toNat = u at *
        have ht : Int.tmod (u : Int) 128 = ((u % 128 : Nat) : Int) := by
          rw [Int.tmod_eq_emod_of_nonneg (by omega)]
          rfl
        have hk : u % 128 ≤ 127 := by omega
        generalize u % 128 = k at *
        have hw : IntKind.i64.wrap (k : Int) = (k : Int) := IntWalk.i64_in _ (by omega)
        have hmk := fun W => run_make_bytes (P := Try.prog) 33 5 Try.underlying33 u8_info k (by omega) (k : Int) rfl W
        have hz3 := zeros_rd wr k (by omega)
        have al : Below wr.heap.size wr (wr.alloc (.cells (cellsOf (List.replicate k 0)).toArray 5)) := (Below.refl _ _).alloc (Nat.le_refl _) _
        have p4 := p3.below (ldT_keeps g D) noT_keeps al
        have B4 := below_chain B3 al
        have hzl : (List.replicate k (0 : UInt8)).length = k := by simp
        clear hca p3 al
        generalize List.replicate k (0 : UInt8) = zs at *
        go_wp2_with fail
        generalize wr.alloc (.cells (cellsOf zs).toArray 5) = w4 at *
        refine (pr_append p4 noT_keeps B4.size GO3.out (s := nA) (by decide) hz3 (by omega)).mono ?_
        rintro e w5 ⟨rfl, p5, b5⟩
        have GO5 := Go.Lib.hid (append_go GO3.out nA zs)
        have B5 := B4.trans b5
        have hws : IntKind.i64.wrap ((N : Int) + (k : Int)) = (N : Int) + (k : Int) := IntWalk.i64_in _ (by omega)
        clear hmk p4 b5 B4 hz3
        by_cases hroom : N + k ≤ q
        · obtain ⟨e1, e2⟩ := room_app (q := (q : Int)) HR.out hzl hk (by omega) (by omega)
          have HR2 := Go.Lib.hid e2
          have i5 : (N : Int) + (k : Int) ≤ q := by omega
          rw [e1]
          generalize (appendD D nA zs).2 = D5 at *
          clear e1 e2 HR
          go_wp2_with fail
          go_roundw
          case rel => exact ⟨j + 1, N + k, D5, by omega, by go_num, by go_num, by omega, by omega, by omega, HR2, p5, GO5, B5⟩
          case measure => simp [intOf]; omega
        · obtain ⟨e1, e2⟩ := room_full (q := (q : Int)) HR.out hzl hk (by omega) (by omega)
          have i5 : ¬ (N : Int) + (k : Int) ≤ q := by omega
          rw [e2] at p5 GO5
          rw [e1]
          clear e1 e2
          go_wp2_with fail
          go_roundw
          case rel => exact ⟨j + 1, N, D, by omega, by go_num, rfl, by omega, by omega, by omega, HR, p5, GO5, B5⟩
          case measure => simp [intOf]; omega
      · have hway : ¬ (j : Int) < n ∨ ((j : Int) < n ∧ ¬ (j : Int) < 20) := by omega
        clear hlt
        rcases hway with i1 | ⟨i1, i2⟩
        all_goals
          go_wp2_with fail
          go_meet
          exact ⟨N, D, rfl, hN2, hNq, HR, p3, GO3, B3⟩
  case rest =>
    obtain ⟨N, D, rfl, hN2, hNq, HR, p3, GO3, B3⟩ := hcut
    clear p2 B2
    have hq4 : Int.tdiv (N : Int) 2 = ((N / 2 : Nat) : Int) := by
      rw [Int.tdiv_eq_ediv_of_nonneg (by omega)]
      rfl
    have hdv : N / 2 ≤ N := by omega
    have hus := room_used HR.out
    go_wp2_with fail
    refine (pr_used p3 noT_keeps GO3.out).mono ?_
    rintro e w4 ⟨rfl, p4, b4⟩
    rw [hus]
    have B4 := below_chain B3 b4
    clear p3 b4 B3
    by_cases h0 : N = 0
    · subst h0
      go_wp2_with fail
      refine (pr_used p4 noT_keeps GO3.out).mono ?_
      rintro e w5 ⟨rfl, p5, b5⟩
      rw [hus]
      have B5 := below_chain B4 b5
      clear p4 b5 B4
      go_wp2_with fail
      go_ret
      exact ⟨by simp, B5⟩
    · obtain ⟨b, hb, rfl⟩ : ∃ b : List UInt8, b.length = N ∧ D = ⟨(q : Int), -1, [⟨nA, b, 0⟩]⟩ := by
        rcases HR.out with ⟨_, h⟩ | h
        · exact absurd h h0
        · exact h
      have i6 : (0 : Int) < N := by omega
      have hm2 : N / 2 + (N - N / 2) = N := by omega
      generalize N / 2 = m at *
      have hmN : m ≤ N := by omega
      go_wp2_with fail
      refine (pr_trunc p4 noT_keeps B4.size GO3.out (s := nA) (by decide) (m : Int)).mono ?_
      rintro e w5 ⟨rfl, p5, b5⟩
      have go5 := trunc_go GO3.out nA (m : Int)
      rw [trunc_one nA (by omega)] at p5 go5 ⊢
      have B5 := B4.trans b5
      have htl : (b.take m).length = m := by rw [List.length_take]; omega
      clear p4 b5 B4 hus
      have hmk := fun W => run_make_bytes (P := Try.prog) 33 5 Try.underlying33 u8_info (N - m) (by omega) ((N : Int) - (m : Int)) (by omega) W
      have hz6 := zeros_rd w5 (N - m) (by omega)
      have al : Below w5.heap.size w5 (w5.alloc (.cells (cellsOf (List.replicate (N - m) 0)).toArray 5)) := (Below.refl _ _).alloc (Nat.le_refl _) _
      have p6 := p5.below (ldT_keeps g _) noT_keeps al
      have B6 := below_chain B5 al
      have hzl : (List.replicate (N - m) (0 : UInt8)).length = N - m := by simp
      clear p5 al
      generalize List.replicate (N - m) (0 : UInt8) = zs at *
      generalize b.take m = bt at *
      have hws : IntKind.i64.wrap ((N : Int) - (m : Int)) = (N : Int) - (m : Int) := IntWalk.i64_in _ (by omega)
      go_wp2_with fail
      generalize w5.alloc (.cells (cellsOf zs).toArray 5) = w6 at *
      refine (pr_append p6 noT_keeps B6.size go5 (s := nB) (by decide) hz6 (by omega)).mono ?_
      rintro e w7 ⟨rfl, p7, b7⟩
      have go7 := append_go go5 nB zs
      rw [app_second lessAB mayB (by omega) (by omega)] at p7 go7 ⊢
      have B7 := B6.trans b7
      clear p6 b7 B6 hz6 hmk
      go_wp2_with fail
      refine (pr_remove p7 noT_keeps B7.size go7 (s := nA) (by decide)).mono ?_
      rintro e w8 ⟨rfl, p8, b8⟩
      have go8 := remove_go go7 nA
      rw [remove_hd] at p8 go8 ⊢
      have B8 := B7.trans b8
      clear p7 b8 B7
      have hmk := fun W => run_make_bytes (P := Try.prog) 33 5 Try.underlying33 u8_info m (by omega) (m : Int) rfl W
      have hz9 := zeros_rd w8 m (by omega)
      have al : Below w8.heap.size w8 (w8.alloc (.cells (cellsOf (List.replicate m 0)).toArray 5)) := (Below.refl _ _).alloc (Nat.le_refl _) _
      have p9 := p8.below (ldT_keeps g _) noT_keeps al
      have B9 := below_chain B8 al
      have hyl : (List.replicate m (0 : UInt8)).length = m := by simp
      clear p8 al
      generalize List.replicate m (0 : UInt8) = ys at *
      go_wp2_with fail
      generalize w8.alloc (.cells (cellsOf ys).toArray 5) = w9 at *
      refine (pr_append p9 noT_keeps B9.size go8 (s := nB) (by decide) hz9 (by omega)).mono ?_
      rintro e w10 ⟨rfl, p10, b10⟩
      have go10 := append_go go8 nB ys
      rw [app_more nB mayB (by omega) (by omega)] at p10 go10 ⊢
      have B10 := B9.trans b10
      clear p9 b10 B9 hz9 hmk
      go_wp2_with fail
      refine (pr_used p10 noT_keeps go10).mono ?_
      rintro e w11 ⟨rfl, p11, b11⟩
      rw [used_one, List.length_append]
      have B11 := below_chain B10 b11
      have i7 : ((zs.length + ys.length : Nat) : Int) ≤ q := by omega
      clear p10 b11 B10
      go_wp2_with fail
      go_ret
      exact ⟨by simp, B11⟩
section
variable {H : Type} {enc : TypeId × Value → H}
set_option maxRecDepth 100000 in
theorem room_main (W : World) (base : Nat) (v0 v1 : Value) {d0 d1 : DataW H} {p0 p1 : List MemPlace} (o0 : Value.okWide Try.prog W .any base 3 v0) (o1 : Value.okWide Try.prog W .any base 33 v1)
    (h0 : DataW.Trod enc Try.prog W 0 (fun _ => true) true 3 v0 d0 p0) (h1 : DataW.Trod enc Try.prog W 0 (fun _ => true) true 33 v1 d1 p1) :
    Calls Try.prog 8 #[v0, v1] W fun e W' => e = .returned (.bool true) ∧ Below W.heap.size W W' := by
  obtain ⟨z, rfl, hz⟩ := op_i64 Try.underlying3 o0 h0
  obtain ⟨A, n, cap, l, rfl, hl⟩ := op_bytes Try.underlying33 Try.underlying5 (by kernel_rfl) o1 h1
  exact room_walk z hz A n cap l W hl
end

end Go.Proofs.Ytfdhfjmmmjhgbaa.DkWalk

/-
  Layer 8's readings: rows of calls that came in.
-/
namespace Go.Proofs.Ytfdhfjmmmjhgbaa.DkWalk
open Go.RowKit Go.ChangeShapes Go.WideShapes Go.Joins Go.Deep Go.Proofs.Ytfdhfjmmmjhgbaa.MemRow Go.Proofs.Ytfdhfjmmmjhgbaa.Ev Go.Proofs.Ytfdhfjmmmjhgbaa.Open Go.Proofs.Ytfdhfjmmmjhgbaa.NumMem

/-- A call as data. -/
structure Opd where
  kind : Int
  n : Int
  name : ByteArray
  tgt : ByteArray
  b : List UInt8
def noOpd : Opd := ⟨0, 0, ByteArray.empty, ByteArray.empty, []⟩
structure OpdOk (d : Opd) : Prop where
  kind : -9223372036854775808 ≤ d.kind ∧ d.kind ≤ 9223372036854775807
  n : -9223372036854775808 ≤ d.n ∧ d.n ≤ 9223372036854775807
  name : d.name.size ≤ maxLen
  tgt : d.tgt.size ≤ maxLen
/-- The five cells at an address read as a call. -/
def OpCells (w : World) (b o : Nat) (d : Opd) : Prop :=
  ∃ A n ca, w.cell? ⟨b, o, none⟩ = some (.int .i64 d.kind) ∧ w.cell? ⟨b, o + 1, none⟩ = some (.int .i64 d.n) ∧ w.cell? ⟨b, o + 2, none⟩ = some (.string d.name) ∧ w.cell? ⟨b, o + 3, none⟩ = some (.string d.tgt) ∧ w.cell? ⟨b, o + 4, none⟩ = some (.slice A n ca) ∧ Rd w A n ca d.b
theorem OpCells.below {w w' : World} {b o : Nat} {d : Opd} (h : OpCells w b o d) (hb : Below w.heap.size w w') : OpCells w' b o d := by
  obtain ⟨A, n, ca, h0, h1, h2, h3, h4, h5⟩ := h
  exact ⟨A, n, ca, bcell hb h0, bcell hb h1, bcell hb h2, bcell hb h3, bcell hb h4, h5.below hb⟩
/-- A slice that reads as calls. -/
def RdO (w : World) (A : Option Addr) (n cap : Nat) (ds : List Opd) : Prop :=
  ds.length = n ∧ n ≤ cap ∧ cap ≤ maxLen ∧ (0 < n → ∃ b o, A = some ⟨b, o, none⟩ ∧ b < w.heap.size ∧ ∀ i, i < n → OpCells w b (o + i * 5) (ds.getD i noOpd))
theorem RdO.nil (w : World) : RdO w none 0 0 [] := ⟨rfl, Nat.le_refl _, Nat.zero_le _, fun h => absurd h (by omega)⟩
theorem RdO.len {w : World} {A : Option Addr} {n cap : Nat} {ds : List Opd} (h : RdO w A n cap ds) : ds.length = n := h.1
theorem RdO.le {w : World} {A : Option Addr} {n cap : Nat} {ds : List Opd} (h : RdO w A n cap ds) : n ≤ maxLen := Nat.le_trans h.2.1 h.2.2.1
theorem RdO.at_ {w : World} {A : Option Addr} {n cap : Nat} {ds : List Opd} (h : RdO w A n cap ds) (hn : 0 < n) : ∃ b o, A = some ⟨b, o, none⟩ ∧ b < w.heap.size ∧ ∀ i, i < n → OpCells w b (o + i * 5) (ds.getD i noOpd) := h.2.2.2 hn
theorem RdO.below {w w' : World} {A : Option Addr} {n cap : Nat} {ds : List Opd} (h : RdO w A n cap ds) (hb : Below w.heap.size w w') : RdO w' A n cap ds :=
  ⟨h.1, h.2.1, h.2.2.1, fun hn => by
    obtain ⟨b, o, hA, hlt, hc⟩ := h.2.2.2 hn
    exact ⟨b, o, hA, Nat.lt_of_lt_of_le hlt hb.size, fun i hi => (hc i hi).below hb⟩⟩
theorem opd_get {ds : List Opd} {j : Nat} (h : j < ds.length) : ds.getD j noOpd ∈ ds := by
  rw [List.getD_eq_getElem?_getD, List.getElem?_eq_getElem h]
  exact List.getElem_mem h

section
variable {H : Type} {enc : TypeId × Value → H} {P : Program} {W : World} {base : Nat} {t e : TypeId} {v : Value} {d : DataW H} {p : List MemPlace}
theorem trod_struct5 {spare : Nat → Bool} {held : Bool} {f0 f1 f2 f3 f4 : Field} {fuel : Nat} {cs : List Value} {x : DataW H × List MemPlace} (ht : P.underlying t = some (.struct #[f0, f1, f2, f3, f4])) (h : DataW.trod enc P W base spare held fuel t cs = some x) :
    ∃ y0 y1 y2 y3 y4 n, cs.length = P.cellsOf t ∧ DataW.trod enc P W base spare held n f0.type ((cs.drop f0.offset).take (P.cellsOf f0.type)) = some y0 ∧ DataW.trod enc P W base spare held n f1.type ((cs.drop f1.offset).take (P.cellsOf f1.type)) = some y1 ∧ DataW.trod enc P W base spare held n f2.type ((cs.drop f2.offset).take (P.cellsOf f2.type)) = some y2 ∧ DataW.trod enc P W base spare held n f3.type ((cs.drop f3.offset).take (P.cellsOf f3.type)) = some y3 ∧ DataW.trod enc P W base spare held n f4.type ((cs.drop f4.offset).take (P.cellsOf f4.type)) = some y4 := by
  obtain ⟨xs, n, _, rfl, hl, hlen, hf⟩ := DataW.trod_struct ht h
  match xs, hlen with
  | [y0, y1, y2, y3, y4], _ => exact ⟨y0, y1, y2, y3, y4, n, hl, by simpa using hf 0 f0 rfl, by simpa using hf 1 f1 rfl, by simpa using hf 2 f2 rfl, by simpa using hf 3 f3 rfl, by simpa using hf 4 f4 rfl⟩
/-- A slice of bytes, in cells. -/
theorem tr_bytes {fuel : Nat} {y : DataW H × List MemPlace} (ht : P.underlying t = some (.slice e)) (he : P.underlying e = some (.int .u8)) (hce : P.cellsOf e = 1) (h : DataW.trod enc P W 0 (fun _ => true) true fuel t [v] = some y) :
    ∃ (A : Option Addr) (n cap : Nat) (l : List UInt8), v = .slice A n cap ∧ Rd W A n cap l := by
  rcases open_ints ht he hce h with ⟨hcs, _⟩ | ⟨x, l, c, zs, hcs, _, hl, hm, hz, _, hcell, hwz⟩
  · simp only [List.cons.injEq, and_true] at hcs
    subst hcs
    exact ⟨none, 0, 0, [], rfl, Rd.nil W⟩
  · simp only [List.cons.injEq, and_true] at hcs
    subst hcs
    have hz' : zs.length = c := by simpa using hz
    have hs := sl_of (W := W) (f := fun i => .int .u8 (zs.getD i 0)) hl hm (by rw [← hz']; exact hcell)
    refine ⟨_, _, _, (zs.take l).map fun z => UInt8.ofNat z.toNat, rfl, by simp; omega, hs.1, hs.2.1, fun hn => ?_⟩
    obtain ⟨b, o, hA, hc⟩ := hs.2.2 hn
    refine ⟨b, o, hA, fun i hi => ?_⟩
    have hi' : i < zs.length := by omega
    have hi2 : i < (zs.take l).length := by rw [List.length_take]; omega
    have hb := bounds_u8 (hwz zs[i] (List.getElem_mem hi'))
    rw [hc i hi]
    simp only [List.getD, List.getElem?_map, List.getElem?_eq_getElem hi', List.getElem?_eq_getElem hi2, Option.map_some, Option.getD_some, List.getElem_take]
    congr 2
    have : zs[i].toNat < 256 := by omega
    simp [Nat.mod_eq_of_lt this]
    omega
/-- A slice of calls that came in. -/
theorem tr_ops {f0 f1 f2 f3 f4 : Field} {uB : TypeId} {fuel : Nat} {y : DataW H × List MemPlace} (ht : P.underlying t = some (.slice e)) (he : P.underlying e = some (.struct #[f0, f1, f2, f3, f4])) (ce : P.cellsOf e = 5) (hone : oneCellFields P #[f0, f1, f2, f3, f4] = true)
    (t0 : P.underlying f0.type = some (.int .i64)) (t1 : P.underlying f1.type = some (.int .i64)) (t2 : P.underlying f2.type = some .string) (t3 : P.underlying f3.type = some .string) (t4 : P.underlying f4.type = some (.slice uB)) (hB : P.underlying uB = some (.int .u8)) (cB : P.cellsOf uB = 1)
    (h : DataW.trod enc P W 0 (fun _ => true) true fuel t [v] = some y) :
    ∃ A n ca ds, v = .slice A n ca ∧ RdO W A n ca ds ∧ ∀ d ∈ ds, OpdOk d := by
  rcases open_slice ht h with ⟨hcs, _⟩ | ⟨a, l, c, m, nn, D, Pl, hcs, _, hl, hm, hmm, _, hx⟩
  · simp only [List.cons.injEq, and_true] at hcs
    subst hcs
    exact ⟨none, 0, 0, [], rfl, RdO.nil W, fun d hd => by simp at hd⟩
  · simp only [List.cons.injEq, and_true] at hcs
    subst hcs
    have hm' : m = c := by simpa using hmm
    subst hm'
    have each : ∀ i, i < m → ∃ d : Opd, OpdOk d ∧ ∃ A n ca, W.cell? (a.add (i * 5)) = some (.int .i64 d.kind) ∧ W.cell? (a.add (i * 5 + 1)) = some (.int .i64 d.n) ∧ W.cell? (a.add (i * 5 + 2)) = some (.string d.name) ∧ W.cell? (a.add (i * 5 + 3)) = some (.string d.tgt) ∧ W.cell? (a.add (i * 5 + 4)) = some (.slice A n ca) ∧ Rd W A n ca d.b := by
      intro i hi
      obtain ⟨cs', h1, h2⟩ := hx i hi
      rw [ce] at h1
      obtain ⟨_, hlen, hcell⟩ := World.cells?_some h1
      obtain ⟨y0, y1, y2, y3, y4, n, _, q0, q1, q2, q3, q4⟩ := trod_struct5 he h2
      obtain ⟨z0, k0⟩ := hone_of hone 0 f0 rfl
      obtain ⟨z1, k1⟩ := hone_of hone 1 f1 rfl
      obtain ⟨z2, k2⟩ := hone_of hone 2 f2 rfl
      obtain ⟨z3, k3⟩ := hone_of hone 3 f3 rfl
      obtain ⟨z4, k4⟩ := hone_of hone 4 f4 rfl
      match cs', hlen with
      | [v0, v1, v2, v3, v4], _ =>
        have z0q : DataW.trod enc P W 0 (fun _ => true) true n f0.type [v0] = some y0 := by simpa [z0, k0] using q0
        have z1q : DataW.trod enc P W 0 (fun _ => true) true n f1.type [v1] = some y1 := by simpa [z1, k1] using q1
        have z2q : DataW.trod enc P W 0 (fun _ => true) true n f2.type [v2] = some y2 := by simpa [z2, k2] using q2
        have z3q : DataW.trod enc P W 0 (fun _ => true) true n f3.type [v3] = some y3 := by simpa [z3, k3] using q3
        have z4q : DataW.trod enc P W 0 (fun _ => true) true n f4.type [v4] = some y4 := by simpa [z4, k4] using q4
        have e0 := hcell 0 (by omega)
        have e1 := hcell 1 (by omega)
        have e2 := hcell 2 (by omega)
        have e3 := hcell 3 (by omega)
        have e4 := hcell 4 (by omega)
        rw [add_add] at e0 e1 e2 e3 e4
        obtain ⟨za, x0, _, wa⟩ := DataW.trod_int t0 z0q
        obtain ⟨zb, x1, _, wb⟩ := DataW.trod_int t1 z1q
        obtain ⟨sa, x2, _, ws⟩ := DataW.trod_string t2 z2q
        obtain ⟨sb, x3, _, wt⟩ := DataW.trod_string t3 z3q
        obtain ⟨A, nq, ca, q, x4, hq⟩ := tr_bytes t4 hB cB z4q
        injection x0 with x0
        injection x1 with x1
        injection x2 with x2
        injection x3 with x3
        subst x0 x1 x2 x3 x4
        exact ⟨⟨za, zb, sa, sb, q⟩, ⟨bounds_i64 wa, bounds_i64 wb, ws, wt⟩, A, nq, ca, by simpa using e0, by simpa using e1, by simpa using e2, by simpa using e3, by simpa using e4, hq⟩
    have hex : ∃ F : Nat → Opd, ∀ i, i < m → OpdOk (F i) ∧ ∃ A n ca, W.cell? (a.add (i * 5)) = some (.int .i64 (F i).kind) ∧ W.cell? (a.add (i * 5 + 1)) = some (.int .i64 (F i).n) ∧ W.cell? (a.add (i * 5 + 2)) = some (.string (F i).name) ∧ W.cell? (a.add (i * 5 + 3)) = some (.string (F i).tgt) ∧ W.cell? (a.add (i * 5 + 4)) = some (.slice A n ca) ∧ Rd W A n ca (F i).b :=
      ⟨fun i => if hi : i < m then (each i hi).choose else noOpd, fun i hi => by simp only [hi, dif_pos]; exact (each i hi).choose_spec⟩
    obtain ⟨F, hF'⟩ := hex
    refine ⟨_, l, m, (List.range l).map F, rfl, ⟨by simp, hl, hm, fun hn => ?_⟩, ?_⟩
    · obtain ⟨_, _, _, _, hc0, _⟩ := hF' 0 (by omega)
      rw [Nat.zero_mul] at hc0
      have e0 := spot_none hc0
      have hb := World.block_lt_of_cell? W _ hc0
      rw [e0, add_at] at hb
      refine ⟨a.block, a.off, by rw [← e0], hb, fun i hi => ?_⟩
      have hFj : ((List.range l).map F).getD i noOpd = F i := by simp [List.getD, hi]
      rw [hFj]
      obtain ⟨_, A, n, ca, h0, h1, h2, h3, h4, r⟩ := hF' i (by omega)
      rw [e0, add_at] at h0 h1 h2 h3 h4
      exact ⟨A, n, ca, h0, h1, h2, h3, h4, r⟩
    · intro x hxm
      obtain ⟨j, hj, rfl⟩ := List.mem_map.1 hxm
      exact (hF' j (by have := List.mem_range.1 hj; omega)).1
end
section
variable {H : Type} {enc : TypeId × Value → H}
set_option maxRecDepth 100000 in
theorem tr_ops_ {W : World} {v : Value} {fuel : Nat} {y : DataW H × List MemPlace} (h : DataW.trod enc Try.prog W 0 (fun _ => true) true fuel 22 [v] = some y) : ∃ A n ca ds, v = .slice A n ca ∧ RdO W A n ca ds ∧ ∀ d ∈ ds, OpdOk d :=
  tr_ops Try.underlying22 Try.underlying36 (by kernel_rfl) (by kernel_rfl) Try.underlying3 Try.underlying3 Try.underlying9 Try.underlying9 Try.underlying33 Try.underlying5 (by kernel_rfl) h
set_option maxRecDepth 100000 in
/-- Calls that came in. -/
theorem op_ops {W : World} {base : Nat} {v : Value} {d : DataW H} {p : List MemPlace} (ho : Value.okWide Try.prog W .any base 22 v) (h : DataW.Trod enc Try.prog W 0 (fun _ => true) true 22 v d p) :
    ∃ A n ca ds, v = .slice A n ca ∧ RdO W A n ca ds ∧ ∀ d ∈ ds, OpdOk d := by
  obtain ⟨a, len, cap, rfl⟩ := okWide_slice Try.underlying22 ho
  obtain ⟨fuel, hf⟩ := h
  exact tr_ops_ hf
set_option maxRecDepth 100000 in
/-- How many are kept, and calls, that came in. -/
theorem op_rest {W : World} {base : Nat} {v : Value} {d : DataW H} {p : List MemPlace} (ho : Value.okWide Try.prog W .any base 46 v) (h : DataW.Trod enc Try.prog W 0 (fun _ => true) true 46 v d p) :
    ∃ z A n ca ds, v = .agg #[.int .i64 z, .slice A n ca] ∧ (-9223372036854775808 ≤ z ∧ z ≤ 9223372036854775807) ∧ RdO W A n ca ds ∧ ∀ d ∈ ds, OpdOk d := by
  obtain ⟨v0, v1, y0, y1, n, rfl, _, _, h0, h1⟩ := open_agg2 Try.underlying46 (by kernel_rfl) (by kernel_rfl) ho h
  obtain ⟨z, x0, _, wz⟩ := DataW.trod_int Try.underlying3 h0
  injection x0 with x0
  subst x0
  obtain ⟨A, n, ca, ds, rfl, r1, w1⟩ := tr_ops_ h1
  exact ⟨z, A, n, ca, ds, rfl, bounds_i64 wz, r1, w1⟩
end

end Go.Proofs.Ytfdhfjmmmjhgbaa.DkWalk

