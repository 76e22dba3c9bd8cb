/-
  Contracts of the landed frame: bytes.Clone, Take.
-/
import Derived.Lib.SlBytesConst
import Derived.Deep.CutBlock
import Derived.Lib.SmallJoins
import Derived.Test.YtniemomngggifaaMg1
namespace Go.Proofs.Ytniemomngggifaa.FrWalk
open Go.RowKit Go.Proofs.Ytniemomngggifaa.MemRow Go.Proofs.Ytniemomngggifaa.NumMem Go.Proofs.Ytniemomngggifaa.CrcMath Go.Proofs.Ytniemomngggifaa.CrcWalk Go.Proofs.Ytniemomngggifaa.FrMath

set_option maxHeartbeats 1000000 in
set_option maxRecDepth 100000 in
theorem cloneO_any (A : Option Addr) (n cap : Nat) (l : List UInt8) (w : World) (h : Rd w A n cap l) (hn : n ≤ 140737488355328) :
    Calls Try.prog 26 #[.slice A n cap] w fun e w' => ∃ A' c', e = .returned (.slice A' n c') ∧ Own w' w.heap.size 5 A' n c' l ∧ Below w.heap.size w w' := by
  cases A with
  | none =>
    have hn0 : n = 0 := by
      rcases Nat.eq_zero_or_pos n with h0 | h0
      · exact h0
      · obtain ⟨b, o, hh, _⟩ := h.2.2.2 h0
        cases hh
    subst hn0
    have hl := List.eq_nil_of_length_eq_zero h.len
    have HL := Go.Lib.hid hl
    clear hl h
    have hq := fun W => Go.Lib.run_eql_slice_nil (P := Try.prog) W 22 5 none 0 cap 0 0 Try.underlying22
    go_enter Try.func26, Try.ntmps26
    go_wp2_with fail
    go_ret
    exact ⟨none, 0, rfl, by rw [HL.out]; exact OwnC.nil (k := 1) _ _, Below.refl _ _⟩
  | some a =>
    have hb : Below w.heap.size w (w.alloc (.cells #[] 5)) := (Below.refl _ _).alloc (Nat.le_refl _) _
    have hq := fun W => Go.Lib.run_eql_slice_nil (P := Try.prog) W 22 5 (some a) n cap 0 0 Try.underlying22
    go_enter Try.func26, Try.ntmps26
    go_wp2_with (at_builtin; refine wpList_append_fresh rfl (.tmp 5) (.tmp 6) 22 rfl 5 Try.underlying22 u8_info rfl rfl (Own.empty w 5 (Nat.le_refl _)) (h.below hb) hn hb.size w hb ?_; intro A5 c5 w5 o5 b5)
    go_ret
    exact ⟨A5, c5, rfl, o5, b5⟩

theorem take_parts (l : List UInt8) (N : Nat) : l.take (8 + N) = l.take 4 ++ ((l.drop 4).take 4 ++ (l.drop 8).take N) := by
  rw [show 8 + N = 4 + (4 + N) by omega, List.take_add, List.take_add, List.drop_drop]
theorem frame_iff {l : List UInt8} {N : Nat} (hN : word (l.take 4) = N) (h : 8 + N ≤ l.length) : frameF ((l.drop 8).take N) = l.take (8 + N) ↔ word ((l.drop 4).take 4) = sum (l.take 4 ++ (l.drop 8).take N) := by
  have h4 : (l.take 4).length = 4 := by rw [List.length_take]; omega
  have h5 : ((l.drop 4).take 4).length = 4 := by rw [List.length_take, List.length_drop]; omega
  have h8 : ((l.drop 8).take N).length = N := by rw [List.length_take, List.length_drop]; omega
  have e4 : le4 ((l.drop 8).take N).length = l.take 4 := by rw [h8, ← hN, le4_word _ h4]
  rw [take_parts l N]
  unfold frameF
  rw [e4]
  constructor
  · intro e
    have e1 := List.append_cancel_left e
    have e2 := (List.append_inj e1 (by rw [h5, le4_length])).1
    rw [← e2, word_le4 (sum_lt _)]
  · intro e
    rw [← e, le4_word _ h5]

set_option maxHeartbeats 4000000 in
set_option maxRecDepth 100000 in
theorem take9_any (g : Nat) (A : Option Addr) (n cap : Nat) (l : List UInt8) (w : World) (ht : Tab w g) (h : Rd w A n cap l) :
    Calls Try.prog 13 #[.pointer (some ⟨g, 0, none⟩), .slice A n cap] w (TakeOut l w) := by
  have hl := h.len
  have hnm := h.le
  have hcp := h.le_cap
  unfold maxLen at hnm
  by_cases h8 : n < 8
  · have i1 : (n : Int) < 8 := by omega
    have ht := take_none_short (l := l) (by omega)
    clear hl
    go_enter Try.func13, Try.ntmps13
    go_wp2_with fail
    go_ret2
    exact none_out ht (Below.refl _ _)
  · have i1 : ¬ (n : Int) < 8 := by omega
    have q4 : ∀ W, (Instr.slice 22 (.slice A n cap) none (some (.int .i64 4)) none).run Try.prog W = .ok (.slice A 4 cap) W := fun W => slice_upto A n cap 4 (by omega) W
    obtain ⟨A2, c2, q8, r8⟩ := slice_mid h (i := 4) (j := 8) (x := 4) (y := 8) rfl rfl (by omega) (by omega)
    rw [show 8 - 4 = 4 from rfl] at q8 r8
    obtain ⟨A3, qd, rd⟩ := slice_low h (i := 8) (by omega)
    have qd' : ∀ W, (Instr.slice 22 (.slice A n cap) (some (.int .i64 8)) none none).run Try.prog W = .ok (.slice A3 (n - 8) (cap - 8)) W := qd
    have r4 := h.first (k := 4) (by omega)
    have HL := Go.Lib.hid hl
    clear qd hl h
    go_enter Try.func13, Try.ntmps13
    go_wp2_with fail
    go_quiet (fail)
    have bq : Below w.heap.size w (w.drewN nq) := bel_drewN (Below.refl _ _) nq
    have r4q := r4.below bq
    have r8q := r8.below bq
    have rdq := rd.below bq
    have tq := ht.below bq
    have hbase := bq.size
    clear q4 q8 qd' r4 r8 rd ht
    generalize w.drewN nq = wq at *
    go_wp2_with fail
    refine (takeWord_any A cap _ wq r4q).mono ?_
    rintro e w' ⟨rfl, rfl⟩
    generalize hN : word (l.take 4) = N at *
    have hNl : N < 4294967296 := by
      have := word_lt (l.take 4)
      rw [List.length_take, HL.out, Nat.min_eq_left (by omega), hN] at this
      exact this
    have HN := Go.Lib.hid hN
    have hw : IntKind.i64.wrap (N : Int) = (N : Int) := IntWalk.i64_in _ (by omega)
    clear hN
    by_cases hb : 16384 < N
    · have i2 : (N : Int) > 16384 := by omega
      have ht : takeF l = none := by
        have := HL.out
        unfold takeF maxF
        rw [HN.out, if_neg (by omega), if_pos hb]
      go_wp2_with fail
      go_ret2
      exact none_out ht bq
    · have i2 : ¬ (N : Int) > 16384 := by omega
      by_cases hb2 : n - 8 < N
      · have i3 : (N : Int) > ((n - 8 : Nat) : Int) := by omega
        have ht : takeF l = none := by
          have := HL.out
          unfold takeF maxF
          rw [HN.out, if_neg (by omega), if_neg hb, if_pos (by omega)]
        go_wp2_with fail
        go_ret2
        exact none_out ht bq
      · have i3 : ¬ (N : Int) > ((n - 8 : Nat) : Int) := by omega
        have hcd := rdq.le_cap
        have qn : ∀ W, (Instr.slice 22 (.slice A3 (n - 8) (cap - 8)) none (some (.int .i64 (N : Int))) none).run Try.prog W = .ok (.slice A3 N (cap - 8)) W := fun W => slice_upto A3 (n - 8) (cap - 8) N (by omega) W
        have rn := rdq.first (k := N) (by omega)
        have hit := frame_iff HN.out (by rw [HL.out]; omega)
        have HX : Hid (takeF l = if word ((l.drop 4).take 4) = sum (l.take 4 ++ (l.drop 8).take N) then some ((l.drop 8).take N) else none) := by
          have := HL.out
          refine Go.Lib.hid ?_
          unfold takeF maxF
          rw [HN.out, if_neg (by omega), if_neg hb, if_neg (by omega)]
          by_cases hf : frameF ((l.drop 8).take N) = l.take (8 + N)
          · rw [if_pos hf, if_pos (hit.1 hf)]
          · rw [if_neg hf, if_neg (fun hc => hf (hit.2 hc))]
        have hxl := rn.len
        have so := sumOf_any g A A3 4 cap N (cap - 8) _ _ wq tq r4q rn (by omega) (by omega)
        have tw := takeWord_any A2 c2 _ wq r8q
        generalize word ((l.drop 4).take 4) = s1 at *
        generalize sum (l.take 4 ++ (l.drop 8).take N) = s2 at *
        clear hit rdq r8q r4q tq HN
        generalize (l.drop 8).take N = x at *
        go_wp2_with fail
        refine tw.mono ?_
        rintro e w' ⟨rfl, rfl⟩
        go_wp2_with fail
        refine so.mono ?_
        rintro e w2 ⟨rfl, b2⟩
        have rn2 := rn.below b2
        have B2 := below_chain bq b2
        clear so tw rn b2
        by_cases he : s1 = s2
        · subst he
          have ht : takeF l = some x := by
            have := HX.out
            rwa [if_pos rfl] at this
          have HT := Go.Lib.hid ht
          have hw8 : IntKind.i64.wrap (8 + (N : Int)) = 8 + (N : Int) := IntWalk.i64_in _ (by omega)
          clear ht HX
          go_wp2_with fail
          refine (cloneO_any A3 N (cap - 8) x w2 rn2 (by omega)).mono ?_
          rintro e w3 ⟨A4, c4, rfl, o4, b4⟩
          have B4 := below_chain B2 b4
          have hb2 := B2.size
          clear b4
          go_wp2_with fail
          go_ret2
          refine ⟨A4, N, c4, ?_, ?_, B4⟩
          · rw [takeN_some HT.out, hxl]
            rfl
          · rw [takeB_some HT.out]
            exact own_low (k := 1) o4 hb2
        · have i4 : ¬ (s1 : Int) = (s2 : Int) := by omega
          have ht : takeF l = none := by
            have := HX.out
            rwa [if_neg he] at this
          have HT := Go.Lib.hid ht
          clear ht HX he
          go_wp2_with fail
          go_ret2
          exact none_out HT.out B2

end Go.Proofs.Ytniemomngggifaa.FrWalk

/-
  The head of all statements of layer 2: the document's example (registrarlaw02.shown returns true, and changes nothing that was there); few.
-/
namespace Go.Proofs.Ytniemomngggifaa.CrcLaw
open Go.RowKit Go.Proofs.Ytniemomngggifaa.CrcMath Go.Proofs.Ytniemomngggifaa.NumMem Go.Proofs.Ytniemomngggifaa.CrcWalk

theorem tab_len : (Try.prog.info? 26).map (·.size) = some tab.size := by
  rw [tab_size]
  exact (zero_of_info tab_info).2
theorem tab_zero : ∀ W, (zeroValue 26).run Try.prog W = .ok (.agg (CrcWalk.part 0)) W := (zero_of_info tab_info).1

/-- t := crc.New(): the store of the table into a block of its own. -/
theorem wpList_table {ops : Array Oper} {rest : List Oper} {o : Oper} {a : Act} {w : World} {Q : Exit → Act → World → Prop} (hgd : o.guard = none) (x y : Operand) (ho : o.op = .store 26 x y)
    (hx : a.eval x = .pointer (some ⟨w.heap.size, 0, none⟩)) (hy : a.eval y = .agg tab)
    (h : wpList Try.prog ops Q rest (a.put o.dst undef) (w.alloc (.cells tab 26))) : wpList Try.prog ops Q (o :: rest) a (w.alloc (.cells (CrcWalk.part 0) 26)) :=
  wpList_store_row hgd 26 x y ho w.heap.size tab hx hy 26 (CrcWalk.part 0) (heap_alloc_new w _) tab_len (by rw [tab_size, part_size]) tab_one (by
    rw [World.setRow_alloc_new]
    exact h)

theorem digits_sum : sum [49, 50, 51, 52, 53, 54, 55, 56, 57] = 3421780262 := by decide +kernel

def nine : Array Value := #[.int .u8 49, .int .u8 50, .int .u8 51, .int .u8 52, .int .u8 53, .int .u8 54, .int .u8 55, .int .u8 56, .int .u8 57]
theorem nine_rd (w : World) (fr : Nat × Nat) (g : Nat) (hg : g = w.heap.size) : Rd (w.alloc (.cells nine 5 fr)) (some ⟨g, 0, none⟩) 9 9 [49, 50, 51, 52, 53, 54, 55, 56, 57] := by
  subst hg
  refine Rd.of_block (heap_alloc_new w _) rfl (Nat.le_refl _) (by unfold maxLen; omega) fun i hi => ?_
  have : nine = (cellsOf [49, 50, 51, 52, 53, 54, 55, 56, 57]).toArray := rfl
  rw [this]
  have hi' : i < ([49, 50, 51, 52, 53, 54, 55, 56, 57] : List UInt8).length := hi
  simp only [cellsOf, List.getElem?_toArray, List.getElem?_map, List.getElem?_eq_getElem hi', List.getD, Option.map_some, Option.getD_some]
/-- []byte("123456789"). -/
theorem nine_conv (w : World) (g : Nat) (hg : g = w.heap.size) : (convert 22 22 (.slice (some ⟨g, 0, none⟩) 9 9)).run Try.prog (w.alloc (.cells nine 5)) = .ok (.slice (some ⟨g, 0, none⟩) 9 9) (w.alloc (.cells nine 5 (9, 10))) :=
  by subst hg; exact Go.Lib.run_convert_bytes_const (P := Try.prog) w 22 5 nine 9 9 Try.underlying22 Try.underlying5

end Go.Proofs.Ytniemomngggifaa.CrcLaw

/-
  What the walks of layer 9's statements have in common: what is asked of the landed frame; the document's example; few, framed.
-/
namespace Go.Proofs.Ytniemomngggifaa.FrWalk
open Go.RowKit Go.WideShapes Go.ChangeShapes Go.Proofs.Ytniemomngggifaa.MemRow Go.Proofs.Ytniemomngggifaa.NumMem Go.Proofs.Ytniemomngggifaa.CrcMath Go.Proofs.Ytniemomngggifaa.CrcWalk Go.Proofs.Ytniemomngggifaa.CrcLaw Go.Proofs.Ytniemomngggifaa.FrMath Go.Proofs.Ytniemomngggifaa.Open

/-- What is asked of the landed frame. -/
structure FApi : Prop where
  put : ∀ (g : Nat) (A : Option Addr) (n cap : Nat) (l : List UInt8) (w : World), Tab w g → Rd w A n cap l → Calls Try.prog 10 #[.pointer (some ⟨g, 0, none⟩), .slice A n cap] w (PutOut l w)
  take : ∀ (g : Nat) (A : Option Addr) (n cap : Nat) (l : List UInt8) (w : World), Tab w g → Rd w A n cap l → Calls Try.prog 13 #[.pointer (some ⟨g, 0, none⟩), .slice A n cap] w fun e w' => ∃ B m c, e = .returned (.tuple #[.slice B m c, .int .i64 (takeN l : Nat)]) ∧ Rd w' B m c (takeB l) ∧ Below w.heap.size w w'
  scan : ∀ (g : Nat) (A : Option Addr) (n cap : Nat) (l : List UInt8) (w : World), Tab w g → Rd w A n cap l → n ≤ 1000000 → Calls Try.prog 15 #[.pointer (some ⟨g, 0, none⟩), .slice A n cap] w fun e w' => ∃ B m c, e = .returned (.tuple #[.slice B m c, .int .i64 ((joinF (scanF l)).length : Nat)]) ∧ RdB w' B m c (scanF l) ∧ Below w.heap.size w w'
theorem putC_few {l : List UInt8} (h : l.length ≤ 16384) : putC l = 0 := by unfold putC maxF; rw [if_neg (by omega)]
theorem putB_few {l : List UInt8} (h : l.length ≤ 16384) : putB l = frameF l := by unfold putB maxF; rw [if_neg (by omega)]
theorem putC_many {l : List UInt8} (h : 16384 < l.length) : putC l = 3 := by unfold putC maxF; rw [if_pos (by omega)]
theorem putB_many {l : List UInt8} (h : 16384 < l.length) : putB l = [] := by unfold putB maxF; rw [if_pos (by omega)]
theorem tab_new (w : World) : Tab (w.alloc (.cells tab 26)) w.heap.size := Tab.new w
theorem tab_bel (w : World) : Below w.heap.size w (w.alloc (.cells tab 26)) := (Below.refl _ _).alloc (Nat.le_refl _) _
set_option maxHeartbeats 2000000 in
set_option maxRecDepth 100000 in
theorem few9_any (A : Option Addr) (n cap : Nat) (l : List UInt8) (w : World) (h : Rd w A n cap l) :
    Calls Try.prog 11 #[.slice A n cap] w fun e w' => e = .returned (.slice A (min n 16400) cap) ∧ Rd w A (min n 16400) cap (l.take 16400) ∧ w = w' := by
  have hl := h.len
  have hc := h.le_cap
  by_cases hn : n > 16400
  · have i1 : (n : Int) > 16400 := by omega
    have e1 : min n 16400 = 16400 := by omega
    have hs : ∀ W, (Instr.slice 22 (.slice A n cap) none (some (.int .i64 16400)) none).run Try.prog W = .ok (.slice A 16400 cap) W := fun W => slice_upto A n cap 16400 (by omega) W
    rw [e1]
    have H1 := Go.Lib.hid (h.first (k := 16400) (by omega))
    clear e1 hl h
    go_enter Try.func11, Try.ntmps11
    go_wp2_with fail
    go_ret
    exact ⟨rfl, H1.out, rfl⟩
  · have i1 : ¬ (n : Int) > 16400 := by omega
    have e1 : min n 16400 = n := by omega
    rw [e1, List.take_of_length_le (by omega)]
    have H1 := Go.Lib.hid h
    clear e1 hl h
    go_enter Try.func11, Try.ntmps11
    go_wp2_with fail
    go_ret
    exact ⟨rfl, H1.out, rfl⟩
set_option maxHeartbeats 2000000 in
set_option maxRecDepth 100000 in
theorem shown9_any (F : FApi) (w : World) : Calls Try.prog 8 #[] w fun e w' => e = .returned (.bool true) ∧ Below w.heap.size w w' := by
  have hz := tab_zero
  go_enter Try.func8, Try.ntmps8
  go_wp2_with fail
  refine (new_any _).mono ?_
  rintro e w1 ⟨rfl, b1⟩
  have t1 := tab_new w1
  have B1 := below_chain b1 (tab_bel w1)
  clear b1
  go_wp2_with (with_reducible refine wpList_table rfl (.tmp 1) (.tmp 6) rfl rfl rfl ?_)
  refine (F.put w1.heap.size none 0 0 [] _ t1 (Rd.nil _)).mono ?_
  rintro e w2 ⟨A2, m2, c2, rfl, r2, b2⟩
  rw [putB_few (by decide)] at r2
  rw [putC_few (by decide)]
  have t2 := t1.below b2
  have B2 := below_chain B1 b2
  obtain rfl : m2 = 8 := by rw [← r2.len, frameF_length]; rfl
  generalize w1.alloc (.cells tab 26) = w1' at *
  clear t1 B1 b2
  go_wp2_with fail
  refine (F.take w1.heap.size A2 8 c2 _ w2 t2 r2).mono ?_
  rintro e w3 ⟨A3, m3, c3, rfl, r3, b3⟩
  have e3 : takeN (frameF []) = 8 := by
    have := takeF_frame (x := []) (by decide) []
    rw [List.append_nil] at this
    rw [takeN_some this]
    rfl
  rw [e3]
  have B3 := below_chain B2 b3
  have hcc := r2.le_cap
  have r4 := (r2.below b3).first (k := 4) (by omega)
  have e4 : (frameF []).take 4 = [0, 0, 0, 0] := by decide
  rw [e4] at r4
  have s4 := bytes_str r4
  have q4 : ∀ W, (Instr.slice 22 (.slice A2 8 c2) none (some (.int .i64 4)) none).run Try.prog W = .ok (.slice A2 4 c2) W := fun W => slice_upto A2 8 c2 4 (by omega) W
  clear r2 r3 r4 t2 B2 b3 e3 e4
  go_wp2_with fail
  go_ret
  exact ⟨rfl, B3⟩

end Go.Proofs.Ytniemomngggifaa.FrWalk

/-
  Contracts of the landed frame: Scan; all that is asked of the landed frame.
-/
namespace Go.Proofs.Ytniemomngggifaa.FrWalk
open Go.RowKit Go.Proofs.Ytniemomngggifaa.MemRow Go.Proofs.Ytniemomngggifaa.NumMem Go.Proofs.Ytniemomngggifaa.CrcMath Go.Proofs.Ytniemomngggifaa.CrcWalk Go.Proofs.Ytniemomngggifaa.FrMath

set_option maxHeartbeats 4000000 in
set_option maxRecDepth 100000 in
theorem scan9_any (g : Nat) (A : Option Addr) (n cap : Nat) (l : List UInt8) (w : World) (ht : Tab w g) (h : Rd w A n cap l) (hn : n ≤ 1000000) :
    Calls Try.prog 15 #[.pointer (some ⟨g, 0, none⟩), .slice A n cap] w (ScanOut l w) := by
  have o1 := OwnB.nil w w.heap.size
  have R0 := Go.Lib.hid h
  have T0 := Go.Lib.hid ht
  have HL := Go.Lib.hid h.len
  clear h ht
  go_enter Try.func15, Try.ntmps15
  go_wp2_with fail
  go_loopw [6, 7, 8, 9] (fun s i _ _ wr => ∃ (A' : Option Addr) (m c j : Nat) (xs : List (List UInt8)), s = .slice A' m c ∧ i = .int .i64 j ∧ j ≤ n ∧ Hid (scanF l = xs ++ scanF (l.drop j)) ∧ Hid ((joinF xs).length = j) ∧ OwnB wr w.heap.size A' m c xs ∧ Below w.heap.size w wr) (fun _ i _ _ _ => n - (intOf i).toNat)
  case atStart => exact ⟨_, 0, 0, 0, [], rfl, rfl, Nat.zero_le _, Go.Lib.hid rfl, Go.Lib.hid rfl, o1, Below.refl _ _⟩
  case round =>
    obtain ⟨A', m, c, j, xs, rfl, rfl, hj, HS, HJ, oj, Bj⟩ := hrel
    clear o1
    obtain ⟨A1, q1, r1⟩ := slice_low (R0.out.below Bj) hj
    have tj := T0.out.below Bj
    go_wp2_with fail
    refine (take9_any g A1 (n - j) (cap - j) (l.drop j) wr tj r1).mono ?_
    rintro e w2 ⟨A2, m2, c2, rfl, o2, b2⟩
    have oj2 := oj.below b2
    have B2 := below_chain Bj b2
    have hbase := Bj.size
    clear r1 q1 oj Bj tj
    cases ht : takeF (l.drop j) with
    | none =>
      have e1 : scanF l = xs := by rw [HS.out, scanF_none ht, List.append_nil]
      have E1 := Go.Lib.hid e1
      rw [takeN_none ht]
      clear ht e1
      go_wp2_with fail
      go_ret2
      exact ⟨A', m, c, by (rw [E1.out, HJ.out]; rfl), by rw [E1.out]; exact oj2, B2⟩
    | some x =>
      obtain ⟨hx, hd⟩ := takeF_some ht
      have hle := congrArg List.length hd
      rw [List.length_append, frameF_length, List.length_drop, HL.out] at hle
      rw [takeN_some ht]
      rw [takeB_some ht] at o2
      have HS2 : Hid (scanF l = (xs ++ [x]) ++ scanF (l.drop (j + (8 + x.length)))) := by
        refine Go.Lib.hid ?_
        rw [HS.out, scanF_some ht, List.drop_drop, List.append_assoc]
        rfl
      have HJ2 : Hid ((joinF (xs ++ [x])).length = j + (8 + x.length)) := Go.Lib.hid (by rw [join_snoc, HJ.out])
      have hm8 := join_len xs
      rw [HJ.out, oj2.len] at hm8
      have hk8 : 8 ≤ 8 + x.length := by omega
      have hjk : j + (8 + x.length) ≤ n := by omega
      clear ht hd hle hx
      generalize 8 + x.length = k at *
      have i1 : ¬ (k : Int) = 0 := by omega
      have hw : IntKind.i64.wrap ((j : Int) + (k : Int)) = (j : Int) + (k : Int) := IntWalk.i64_in _ (by omega)
      obtain ⟨cs, oc, hlc, hbc⟩ := oj2
      have al2 : Below w2.heap.size w2 (w2.alloc (.cells #[.slice A2 m2 c2] 22)) := (Below.refl _ _).alloc (Nat.le_refl _) _
      have d2 : RdC 1 (w2.alloc (.cells #[.slice A2 m2 c2] 22)) (some ⟨w2.heap.size, 0, none⟩) 1 1 [.slice A2 m2 c2] := RdC.new w2 _ [.slice A2 m2 c2] rfl (by decide)
      have oc2 := OwnC.below oc al2
      have hbc2 := BsC.map (fun _ _ _ _ h => OwnC.below (k := 1) h al2) xs cs hbc
      have ox2 : Own (w2.alloc (.cells #[.slice A2 m2 c2] 22)) w.heap.size 5 A2 m2 c2 x := own_low (k := 1) (o2.below al2) hbase
      have B3 := below_chain B2 al2
      clear oc hbc o2 b2 B2 al2
      go_wp2_with (at_builtin; refine wpList_append_cells rfl (.tmp 22) (.tmp 24) 37 rfl 22 (.slice none 0 0) 24 Try.underlying37 bytes_info rfl (by decide) rfl rfl oc2 d2 (fun v hv => by rw [List.mem_singleton.1 hv]; rfl) (by unfold maxLen; omega) (by omega) B3.size ?_; intro A4 c4 w4 o4 g4 _)
      have o5 := OwnB.more oc2 hlc hbc2 ox2 o4 g4
      have B5 := below_grown_own oc2 B3 g4 B3.size
      clear oc2 hbc2 ox2 o4 d2
      go_roundw
      case rel => exact ⟨A4, m + 1, c4, j + k, xs ++ [x], rfl, by go_num, hjk, HS2, HJ2, o5, B5⟩
      case measure => simp [intOf]; omega

theorem fApi : FApi where
  put := put9_any
  take g A n cap l w ht h := (take9_any g A n cap l w ht h).mono fun _ _ ⟨B, m, c, e, o, b⟩ => ⟨B, m, c, e, o.rd, b⟩
  scan g A n cap l w ht h hn := (scan9_any g A n cap l w ht h hn).mono fun _ _ ⟨B, m, c, e, o, b⟩ => ⟨B, m, c, e, o.rd, b⟩

end Go.Proofs.Ytniemomngggifaa.FrWalk

/-
  Walk of a statement of layer 9: FramePuts.
-/
namespace Go.Proofs.Ytniemomngggifaa.FrWalk
open Go.RowKit Go.WideShapes Go.ChangeShapes Go.Proofs.Ytniemomngggifaa.MemRow Go.Proofs.Ytniemomngggifaa.NumMem Go.Proofs.Ytniemomngggifaa.CrcMath Go.Proofs.Ytniemomngggifaa.CrcWalk Go.Proofs.Ytniemomngggifaa.CrcLaw Go.Proofs.Ytniemomngggifaa.FrMath Go.Proofs.Ytniemomngggifaa.Open

set_option maxHeartbeats 8000000 in
set_option maxRecDepth 100000 in
theorem puts_walk (F : FApi) (A : Option Addr) (n cap : Nat) (l : List UInt8) (B : Option Addr) (m cb : Nat) (k : List UInt8) (w : World) (hl : Rd w A n cap l) (hk : Rd w B m cb k) :
    Calls Try.prog 3 #[.slice A n cap, .slice B m cb] w fun e w' => e = .returned (.bool true) ∧ Below w.heap.size w w' := by
  have hz := tab_zero
  have HA := Go.Lib.hid hl
  have HB := Go.Lib.hid hk
  clear hl hk
  go_enter Try.func3, Try.ntmps3
  go_wp2_with fail
  refine (shown9_any F _).mono ?_
  rintro e w1 ⟨rfl, b1⟩
  go_wp2_with fail
  refine (new_any _).mono ?_
  rintro e w2 ⟨rfl, b2⟩
  have t3 := tab_new w2
  have B3 := below_chain (below_chain b1 b2) (tab_bel w2)
  have r3 := HA.out.below B3
  clear b1 b2
  go_wp2_with (with_reducible refine wpList_table rfl (.tmp 6) (.tmp 21) rfl rfl rfl ?_)
  generalize w2.alloc (.cells tab 26) = w3 at *
  refine (few9_any A n cap l w3 r3).mono ?_
  rintro e w' ⟨rfl, r3', rfl⟩
  go_wp2_with fail
  refine (F.put w2.heap.size A _ cap _ w3 t3 r3').mono ?_
  rintro e w4 ⟨A4, m4, c4, rfl, r4, b4⟩
  have t4 := t3.below b4
  have B4 := below_chain B3 b4
  have s4 := HA.out.below B4
  clear t3 B3 r3 r3' b4
  go_wp2_with fail
  refine (few9_any A n cap l w4 s4).mono ?_
  rintro e w' ⟨rfl, s4', rfl⟩
  go_wp2_with fail
  refine (refPutF_any A _ cap _ w4 s4').mono ?_
  rintro e w5 ⟨A5, m5, c5, rfl, r5, b5⟩
  have t5 := t4.below b5
  have B5 := below_chain B4 b5
  have r4' := r4.below b5
  have s5 := HB.out.below B5
  clear t4 B4 r4 s4 s4' b5
  generalize putB (l.take 16400) = x1 at *
  generalize putC (l.take 16400) = x2 at *
  go_wp2_with fail
  refine (few9_any B m cb k w5 s5).mono ?_
  rintro e w' ⟨rfl, s5', rfl⟩
  go_wp2_with fail
  refine (F.take w2.heap.size B _ cb _ w5 t5 s5').mono ?_
  rintro e w6 ⟨A6, m6, c6, rfl, r6, b6⟩
  have t6 := t5.below b6
  have B6 := below_chain B5 b6
  have r4 := r4'.below b6
  have r5' := r5.below b6
  have s6 := HB.out.below B6
  clear t5 B5 r4' r5 s5 s5' b6
  go_wp2_with fail
  refine (few9_any B m cb k w6 s6).mono ?_
  rintro e w' ⟨rfl, s6', rfl⟩
  go_wp2_with fail
  refine (refTakeF_any B _ cb _ w6 s6').mono ?_
  rintro e w7 ⟨A7, m7, c7, rfl, o7, b7⟩
  have t7 := t6.below b7
  have B7 := below_chain B6 b7
  have q4 := r4.below b7
  have q5 := r5'.below b7
  have q6 := r6.below b7
  have q7 := o7.rd
  have s7 := HB.out.below B7
  clear t6 B6 r4 r5' r6 o7 s6 s6' b7
  generalize takeB (k.take 16400) = x3 at *
  generalize takeN (k.take 16400) = x4 at *
  go_wp2_with fail
  refine (few9_any B m cb k w7 s7).mono ?_
  rintro e w' ⟨rfl, s7', rfl⟩
  go_wp2_with fail
  refine (F.scan w2.heap.size B _ cb _ w7 t7 s7' (by omega)).mono ?_
  rintro e w8 ⟨A8, m8, c8, rfl, r8, b8⟩
  have B8 := below_chain B7 b8
  have p4 := q4.below b8
  have p5 := q5.below b8
  have p6 := q6.below b8
  have p7 := q7.below b8
  have s8 := HB.out.below B8
  clear t7 B7 q4 q5 q6 q7 s7 s7' b8
  go_wp2_with fail
  refine (few9_any B m cb k w8 s8).mono ?_
  rintro e w' ⟨rfl, s8', rfl⟩
  go_wp2_with fail
  refine (refScanF_any B _ cb _ w8 s8' (by omega)).mono ?_
  rintro e w9 ⟨A9, m9, c9, rfl, o9, b9⟩
  have B9 := below_chain B8 b9
  have q4 := p4.below b9
  have q5 := p5.below b9
  have q6 := p6.below b9
  have q7 := p7.below b9
  have r8' := r8.below b9
  have r9 := o9.rd
  clear B8 p4 p5 p6 p7 r8 o9 s8 s8' b9
  generalize scanF (k.take 16400) = x5 at *
  go_wp2_with fail
  refine (refSameB_any A8 A9 m8 m9 c8 c9 _ _ w9 r8' r9).mono ?_
  rintro e w10 ⟨rfl, kk, rfl⟩
  rw [decide_eq_true (rfl : x5 = x5)]
  have B10 := bel_drewN B9 kk
  have s4 := bytes_str (q4.drewN kk)
  have s5 := bytes_str (q5.drewN kk)
  have s6 := bytes_str (q6.drewN kk)
  have s7 := bytes_str (q7.drewN kk)
  generalize (joinF x5).length = x6 at *
  clear B9 q4 q5 q6 q7 r8' r9
  go_wp2_with fail
  go_ret
  exact ⟨rfl, B10⟩
section
variable {H : Type} {enc : TypeId × Value → H}
set_option maxRecDepth 100000 in
theorem puts_main (F : FApi) (W : World) (base : Nat) (v0 v1 : Value) {d0 d1 : DataW H} {p0 p1 : List MemPlace} (o0 : Value.okWide Try.prog W .any base 22 v0) (o1 : Value.okWide Try.prog W .any base 22 v1)
    (h0 : DataW.Trod enc Try.prog W 0 (fun _ => true) true 22 v0 d0 p0) (h1 : DataW.Trod enc Try.prog W 0 (fun _ => true) true 22 v1 d1 p1) :
    Calls Try.prog 3 #[v0, v1] W fun e W' => e = .returned (.bool true) ∧ Below W.heap.size W W' := by
  obtain ⟨A, n, cap, l, rfl, hl⟩ := op_bytes Try.underlying22 Try.underlying5 (by kernel_rfl) o0 h0
  obtain ⟨B, m, cb, k, rfl, hk⟩ := op_bytes Try.underlying22 Try.underlying5 (by kernel_rfl) o1 h1
  exact puts_walk F A n cap l B m cb k W hl hk
end

end Go.Proofs.Ytniemomngggifaa.FrWalk

/-
  Walk of a statement of layer 9: FrameOne.
-/
namespace Go.Proofs.Ytniemomngggifaa.FrWalk
open Go.RowKit Go.WideShapes Go.ChangeShapes Go.Proofs.Ytniemomngggifaa.MemRow Go.Proofs.Ytniemomngggifaa.NumMem Go.Proofs.Ytniemomngggifaa.CrcMath Go.Proofs.Ytniemomngggifaa.CrcWalk Go.Proofs.Ytniemomngggifaa.CrcLaw Go.Proofs.Ytniemomngggifaa.FrMath Go.Proofs.Ytniemomngggifaa.Open

theorem scan_len (l : List UInt8) : (joinF (scanF l)).length ≤ l.length := by
  obtain ⟨r, h, _⟩ := scanF_is l
  have := congrArg List.length h
  rw [List.length_append] at this
  omega
set_option maxHeartbeats 8000000 in
set_option maxRecDepth 100000 in
theorem one_walk (F : FApi) (A : Option Addr) (n cap : Nat) (l : List UInt8) (B : Option Addr) (m cb : Nat) (k : List UInt8) (w : World) (hl : Rd w A n cap l) (hk : Rd w B m cb k) :
    Calls Try.prog 6 #[.slice A n cap, .slice B m cb] w fun e w' => e = .returned (.bool true) ∧ Below w.heap.size w w' := by
  have hz := tab_zero
  have hc := hl.le_cap
  have hcb := hk.le_cap
  have HA0 := Go.Lib.hid hl
  have HB0 := Go.Lib.hid hk
  clear hl hk
  go_enter Try.func6, Try.ntmps6
  go_wp2_with fail
  refine (shown9_any F _).mono ?_
  rintro e w1 ⟨rfl, b1⟩
  go_wp2_with fail
  refine (new_any _).mono ?_
  rintro e w2 ⟨rfl, b2⟩
  have t3 := tab_new w2
  have B3 := below_chain (below_chain b1 b2) (tab_bel w2)
  clear b1 b2
  go_upto_if 20 with (with_reducible refine wpList_table rfl (.tmp 6) (.tmp 17) rfl rfl rfl ?_)
  generalize w2.alloc (.cells tab 26) = w3 at *
  go_cut [0] (fun v wx => v = .slice A (min n 2000) cap ∧ Tab wx w2.heap.size ∧ Below w.heap.size w wx)
  case first =>
    by_cases hn : n > 2000
    · have i1 : (n : Int) > 2000 := by omega
      have hs : ∀ W, (Instr.slice 22 (.slice A n cap) none (some (.int .i64 2000)) none).run Try.prog W = .ok (.slice A 2000 cap) W := fun W => slice_upto A n cap 2000 (by omega) W
      go_wp2_with fail
      go_meet
      exact ⟨by rw [show min n 2000 = 2000 by omega], t3, B3⟩
    · have i1 : ¬ (n : Int) > 2000 := by omega
      go_wp2_with fail
      go_meet
      exact ⟨by rw [show min n 2000 = n by omega], t3, B3⟩
  case rest =>
    obtain ⟨rfl, t4, B4⟩ := hcut
    clear t3 B3
    go_upto_if 25 with (fail)
    generalize wc = w4 at *
    go_cut [1] (fun v wx => v = .slice B (min m 2000) cb ∧ Tab wx w2.heap.size ∧ Below w.heap.size w wx)
    case first =>
      by_cases hn : m > 2000
      · have i1 : (m : Int) > 2000 := by omega
        have hs : ∀ W, (Instr.slice 22 (.slice B m cb) none (some (.int .i64 2000)) none).run Try.prog W = .ok (.slice B 2000 cb) W := fun W => slice_upto B m cb 2000 (by omega) W
        go_wp2_with fail
        go_meet
        exact ⟨by rw [show min m 2000 = 2000 by omega], t4, B4⟩
      · have i1 : ¬ (m : Int) > 2000 := by omega
        go_wp2_with fail
        go_meet
        exact ⟨by rw [show min m 2000 = m by omega], t4, B4⟩
    case rest =>
      obtain ⟨rfl, t3, B3⟩ := hcut
      clear t4 B4
      generalize wc = w3 at *
      have HA : Hid (Rd w A (min n 2000) cap (l.take (min n 2000))) := Go.Lib.hid (HA0.out.first (by omega))
      have HB : Hid (Rd w B (min m 2000) cb (k.take (min m 2000))) := Go.Lib.hid (HB0.out.first (by omega))
      have hn2 : min n 2000 ≤ 2000 := by omega
      have hm2 : min m 2000 ≤ 2000 := by omega
      generalize l.take (min n 2000) = l' at *
      generalize k.take (min m 2000) = k' at *
      generalize min n 2000 = n' at *
      generalize min m 2000 = m' at *
      clear HA0 HB0
      have r3 := HA.out.below B3
      have hll := r3.len
      have hkl := HB.out.len
      go_wp2_with fail
      refine (F.put w2.heap.size A _ cap _ w3 t3 r3).mono ?_
      rintro e w4 ⟨A4, m4, c4, rfl, r4, b4⟩
      rw [putB_few (by omega)] at r4
      rw [putC_few (by omega)]
      have t4 := t3.below b4
      have B4 := below_chain B3 b4
      obtain rfl : m4 = n' + 8 := by rw [← r4.len, frameF_length, hll]
      have al : Below w4.heap.size w4 (w4.alloc (.cells #[] 5)) := (Below.refl _ _).alloc (Nat.le_refl _) _
      have r4' := r4.below al
      have R4 := Go.Lib.hid r4
      clear t3 B3 r3 b4 r4
      go_wp2_with (first
        | (at_builtin; refine wpList_append_fresh rfl (.tmp 33) (.tmp 34) 22 rfl 5 Try.underlying22 u8_info rfl rfl (Own.empty w4 5 (Nat.le_refl _)) r4' (by omega) al.size w4 al ?_; intro A5 c5 w5 o5 b5; have r5 := HB.out.below (below_chain B4 b5))
        | (at_builtin; refine wpList_append_more rfl (.tmp 35) (.tmp 36) 22 rfl 5 Try.underlying22 u8_info rfl rfl o5 r5 (by omega) b5.size w4 b5 ?_; intro A6 c6 w6 o6 b6; clear o5 r5 b5 r4' al))
      have r6 := o6.rd
      have t6 := t4.below b6
      have B6 := below_chain B4 b6
      clear o6
      refine (F.take w2.heap.size A6 _ c6 _ w6 t6 r6).mono ?_
      rintro e w7 ⟨A7, m7, c7, rfl, r7, b7⟩
      have ht := takeF_frame (x := l') (by unfold maxF; omega) k'
      rw [takeB_some ht] at r7
      rw [takeN_some ht, show 8 + l'.length = n' + 8 by omega]
      have t7 := t6.below b7
      have B7 := below_chain B6 b7
      have r6' := r6.below b7
      clear t4 t6 B4 B6 b6 b7 r6 ht
      go_wp2_with fail
      refine (F.scan w2.heap.size A6 _ c6 _ w7 t7 r6' (by omega)).mono ?_
      rintro e w8 ⟨A8, m8, c8, rfl, r8, b8⟩
      rw [scanF_frame (by unfold maxF; omega)] at r8
      have eu : (joinF (l' :: scanF k')).length = (n' + 8) + (joinF (scanF k')).length := by
        rw [joinF_cons, List.length_append, frameF_length, hll]
      rw [scanF_frame (by unfold maxF; omega), eu]
      have t8 := t7.below b8
      have B8 := below_chain B7 b8
      have r7' := r7.below b8
      have hm8 := r8.len
      rw [List.length_cons] at hm8
      have s8 := HB.out.below B8
      clear t7 B7 b8 r7 r6' r8
      go_wp2_with fail
      refine (F.scan w2.heap.size B _ cb _ w8 t8 s8 (by omega)).mono ?_
      rintro e w9 ⟨A9, m9, c9, rfl, r9, b9⟩
      have hm9 := r9.len
      have B9 := below_chain B8 b9
      have s7 := bytes_str (r7'.below b9)
      have sa := bytes_str (HA.out.below B9)
      have hu := scan_len k'
      rw [hkl] at hu
      rw [hm9] at hm8
      have hm9k : m9 ≤ 2000 := by
        have := join_len (scanF k')
        rw [hm9] at this
        omega
      generalize (joinF (scanF k')).length = u at *
      subst hm8
      have hw1 : IntKind.i64.wrap (((n' + 8 : Nat) : Int) + (u : Int)) = ((n' + 8 + u : Nat) : Int) := by
        rw [IntWalk.i64_in _ (by omega)]
        omega
      have hw2 : IntKind.i64.wrap ((m9 : Int) + 1) = ((m9 + 1 : Nat) : Int) := by
        rw [IntWalk.i64_in _ (by omega)]
        omega
      clear r7' t8 B8 b9 r9 s8 hm9 eu
      go_wp2_with fail
      go_ret
      exact ⟨rfl, B9⟩
section
variable {H : Type} {enc : TypeId × Value → H}
set_option maxRecDepth 100000 in
theorem one_main (F : FApi) (W : World) (base : Nat) (v0 v1 : Value) {d0 d1 : DataW H} {p0 p1 : List MemPlace} (o0 : Value.okWide Try.prog W .any base 22 v0) (o1 : Value.okWide Try.prog W .any base 22 v1)
    (h0 : DataW.Trod enc Try.prog W 0 (fun _ => true) true 22 v0 d0 p0) (h1 : DataW.Trod enc Try.prog W 0 (fun _ => true) true 22 v1 d1 p1) :
    Calls Try.prog 6 #[v0, v1] W fun e W' => e = .returned (.bool true) ∧ Below W.heap.size W W' := by
  obtain ⟨A, n, cap, l, rfl, hl⟩ := op_bytes Try.underlying22 Try.underlying5 (by kernel_rfl) o0 h0
  obtain ⟨B, m, cb, k, rfl, hk⟩ := op_bytes Try.underlying22 Try.underlying5 (by kernel_rfl) o1 h1
  exact one_walk F A n cap l B m cb k W hl hk
end

end Go.Proofs.Ytniemomngggifaa.FrWalk

/-
  Walk of a statement of layer 9: FrameSizes.
-/
namespace Go.Proofs.Ytniemomngggifaa.FrWalk
open Go.RowKit Go.WideShapes Go.ChangeShapes Go.Proofs.Ytniemomngggifaa.MemRow Go.Proofs.Ytniemomngggifaa.NumMem Go.Proofs.Ytniemomngggifaa.CrcMath Go.Proofs.Ytniemomngggifaa.CrcWalk Go.Proofs.Ytniemomngggifaa.CrcLaw Go.Proofs.Ytniemomngggifaa.FrMath Go.Proofs.Ytniemomngggifaa.Open

theorem frame_prefix {a b : List UInt8} (ha : a.length ≤ 16384) (hb : b.length ≤ 16384) : (frameF b).take (a.length + 8) = frameF a ↔ a = b := by
  constructor
  · intro h
    have h1 : frameF a ++ (frameF b).drop (a.length + 8) = frameF b ++ [] := by rw [← h, List.take_append_drop, List.append_nil]
    exact (frame_begins (by unfold maxF; omega) (by unfold maxF; omega) h1).1
  · rintro rfl
    rw [List.take_of_length_le (by rw [frameF_length]; exact Nat.le_refl _)]
set_option maxHeartbeats 8000000 in
set_option maxRecDepth 100000 in
theorem sizes_walk (F : FApi) (A : Option Addr) (n cap : Nat) (l : List UInt8) (B : Option Addr) (m cb : Nat) (k : List UInt8) (w : World) (hl : Rd w A n cap l) (hk : Rd w B m cb k) :
    Calls Try.prog 5 #[.slice A n cap, .slice B m cb] w fun e w' => e = .returned (.bool true) ∧ Below w.heap.size w w' := by
  have hz := tab_zero
  have HA := Go.Lib.hid hl
  have HB := Go.Lib.hid hk
  clear hl hk
  go_enter Try.func5, Try.ntmps5
  go_wp2_with fail
  refine (shown9_any F _).mono ?_
  rintro e w1 ⟨rfl, b1⟩
  go_wp2_with fail
  refine (new_any _).mono ?_
  rintro e w2 ⟨rfl, b2⟩
  have t3 := tab_new w2
  have B3 := below_chain (below_chain b1 b2) (tab_bel w2)
  have r3 := HA.out.below B3
  clear b1 b2
  go_wp2_with (with_reducible refine wpList_table rfl (.tmp 6) (.tmp 13) rfl rfl rfl ?_)
  generalize w2.alloc (.cells tab 26) = w3 at *
  refine (few9_any A n cap l w3 r3).mono ?_
  rintro e w' ⟨rfl, r3', rfl⟩
  have s3 := HB.out.below B3
  go_wp2_with fail
  refine (few9_any B m cb k w3 s3).mono ?_
  rintro e w' ⟨rfl, s3', rfl⟩
  have hll := r3'.len
  have hkl := s3'.len
  have hn := Nat.min_le_right n 16400
  have hm := Nat.min_le_right m 16400
  generalize min n 16400 = n' at *
  generalize min m 16400 = m' at *
  generalize l.take 16400 = l' at *
  generalize k.take 16400 = k' at *
  clear r3 s3 HA HB
  go_wp2_with fail
  refine (F.put w2.heap.size A n' cap l' w3 t3 r3').mono ?_
  rintro e w4 ⟨A4, m4, c4, rfl, r4, b4⟩
  have t4 := t3.below b4
  have B4 := below_chain B3 b4
  have p4 := r3'.below b4
  have s4 := s3'.below b4
  have hm4 := r4.len
  clear t3 B3 r3' s3' b4
  by_cases hbig : 16384 < n' ∨ 16384 < m'
  · rcases Nat.lt_or_ge 16384 n' with h1 | h1
    · have i1 : (n' : Int) > 16384 := by omega
      rw [putC_many (by omega)]
      rcases Nat.lt_or_ge 16384 m' with h2 | h2
      · have i2 : (m' : Int) > 16384 := by omega
        clear hm4
        go_wp2_with fail
        refine (F.put w2.heap.size B m' cb k' w4 t4 s4).mono ?_
        rintro e w5 ⟨A5, m5, c5, rfl, r5, b5⟩
        rw [putC_many (by omega)]
        have B5 := below_chain B4 b5
        clear r4 r5 t4 s4 p4 B4 b5
        go_wp2_with fail
        go_ret
        exact ⟨rfl, B5⟩
      · have i2 : ¬ (m' : Int) > 16384 := by omega
        clear hm4
        go_wp2_with fail
        refine (F.put w2.heap.size B m' cb k' w4 t4 s4).mono ?_
        rintro e w5 ⟨A5, m5, c5, rfl, r5, b5⟩
        rw [putC_few (by omega)]
        have B5 := below_chain B4 b5
        clear r4 r5 t4 s4 p4 B4 b5
        go_wp2_with fail
        go_ret
        exact ⟨rfl, B5⟩
    · have i1 : ¬ (n' : Int) > 16384 := by omega
      have i2 : (m' : Int) > 16384 := by omega
      rw [putC_few (by omega)]
      clear hm4
      go_wp2_with fail
      refine (F.put w2.heap.size B m' cb k' w4 t4 s4).mono ?_
      rintro e w5 ⟨A5, m5, c5, rfl, r5, b5⟩
      rw [putC_many (by omega)]
      have B5 := below_chain B4 b5
      clear r4 r5 t4 s4 p4 B4 b5
      go_wp2_with fail
      go_ret
      exact ⟨rfl, B5⟩
  · have hn6 : n' ≤ 16384 := by omega
    have hm6 : m' ≤ 16384 := by omega
    rw [putB_few (by omega)] at r4 hm4
    rw [putC_few (by omega)]
    rw [frameF_length, hll] at hm4
    clear hbig
    go_wp2_with fail
    refine (F.put w2.heap.size B m' cb k' w4 t4 s4).mono ?_
    rintro e w5 ⟨A5, m5, c5, rfl, r5, b5⟩
    have hm5 := r5.len
    rw [putB_few (by omega)] at r5 hm5
    rw [putC_few (by omega)]
    rw [frameF_length, hkl] at hm5
    have B5 := below_chain B4 b5
    have hpre := frame_prefix (a := l') (b := k') (by omega) (by omega)
    rw [hll, hm4] at hpre
    have hc5 := r5.le_cap
    have sx := fun q => bytes_str ((r4.below b5).drewN q)
    have sa := fun q => bytes_str ((p4.below b5).drewN q)
    have sb := fun q => bytes_str ((s4.below b5).drewN q)
    have hw : IntKind.i64.wrap ((n' : Int) + 8) = (m4 : Int) := by
      rw [IntWalk.i64_in _ (by omega)]
      omega
    by_cases hle : m4 ≤ m5
    · have i1 : (m5 : Int) ≥ m4 := by omega
      have sp := fun q => bytes_str ((r5.first (k := m4) hle).drewN q)
      have qs : ∀ W, (Instr.slice 22 (.slice A5 m5 c5) none (some (.int .i64 (m4 : Int))) none).run Try.prog W = .ok (.slice A5 m4 c5) W := fun W => slice_upto A5 m5 c5 m4 (by omega) W
      by_cases hab : l' = k'
      · rw [hpre.2 hab] at sp
        subst hab
        clear r4 r5 p4 s4 t4 b5 B4 hpre hm4 hm5 hll hkl
        go_wp2_with fail
        go_quiet (fail)
        go_wp2_with fail
        go_ret
        exact ⟨rfl, bel_drewN B5 _⟩
      · have h1 := bytes_apart (fun h => hab (hpre.1 h))
        have h2 := bytes_apart hab
        clear r4 r5 p4 s4 t4 b5 B4 hpre hm4 hm5 hll hkl hab
        go_wp2_with fail
        go_quiet (fail)
        go_wp2_with fail
        go_ret
        exact ⟨rfl, bel_drewN B5 _⟩
    · have i1 : ¬ (m5 : Int) ≥ m4 := by omega
      have i2 : decide ((m5 : Int) ≥ m4) = false := decide_eq_false i1
      have h2 := bytes_apart (a := l') (b := k') (fun h => by
        subst h
        omega)
      clear r4 r5 p4 s4 t4 b5 B4 hpre hm4 hm5 hll hkl
      go_wp2_with fail
      go_quiet (fail)
      go_wp2_with fail
      go_ret
      exact ⟨rfl, bel_drewN B5 _⟩
section
variable {H : Type} {enc : TypeId × Value → H}
set_option maxRecDepth 100000 in
theorem sizes_main (F : FApi) (W : World) (base : Nat) (v0 v1 : Value) {d0 d1 : DataW H} {p0 p1 : List MemPlace} (o0 : Value.okWide Try.prog W .any base 22 v0) (o1 : Value.okWide Try.prog W .any base 22 v1)
    (h0 : DataW.Trod enc Try.prog W 0 (fun _ => true) true 22 v0 d0 p0) (h1 : DataW.Trod enc Try.prog W 0 (fun _ => true) true 22 v1 d1 p1) :
    Calls Try.prog 5 #[v0, v1] W fun e W' => e = .returned (.bool true) ∧ Below W.heap.size W W' := by
  obtain ⟨A, n, cap, l, rfl, hl⟩ := op_bytes Try.underlying22 Try.underlying5 (by kernel_rfl) o0 h0
  obtain ⟨B, m, cb, k, rfl, hk⟩ := op_bytes Try.underlying22 Try.underlying5 (by kernel_rfl) o1 h1
  exact sizes_walk F A n cap l B m cb k W hl hk
end

end Go.Proofs.Ytniemomngggifaa.FrWalk

/-
  Walk of a statement of layer 9: FrameJoins.
-/
namespace Go.Proofs.Ytniemomngggifaa.FrWalk
open Go.RowKit Go.WideShapes Go.ChangeShapes Go.Proofs.Ytniemomngggifaa.MemRow Go.Proofs.Ytniemomngggifaa.NumMem Go.Proofs.Ytniemomngggifaa.CrcMath Go.Proofs.Ytniemomngggifaa.CrcWalk Go.Proofs.Ytniemomngggifaa.CrcLaw Go.Proofs.Ytniemomngggifaa.FrMath Go.Proofs.Ytniemomngggifaa.Open

/-- The first p rows, of each the first 100. -/
def fewR (xs : List (List UInt8)) (p : Nat) : List (List UInt8) := (xs.take p).map fun x => x.take 100
theorem fewR_succ (xs : List (List UInt8)) (j : Nat) (h : j < xs.length) : fewR xs (j + 1) = fewR xs j ++ [(xs.getD j []).take 100] := by
  unfold fewR
  rw [rows_take xs j h, List.map_append]
  rfl
theorem fewR_few {xs : List (List UInt8)} {p : Nat} : ∀ x ∈ fewR xs p, x.length ≤ maxF := by
  intro x hx
  obtain ⟨y, _, rfl⟩ := List.mem_map.1 hx
  unfold maxF
  rw [List.length_take]
  omega
theorem fewR_len (xs : List (List UInt8)) (p : Nat) : (fewR xs p).length = min p xs.length := by
  unfold fewR
  rw [List.length_map, List.length_take]
theorem fewR_over (xs : List (List UInt8)) {p : Nat} (h : xs.length ≤ p) : fewR xs p = fewR xs xs.length := by
  unfold fewR
  rw [List.take_of_length_le h, List.take_of_length_le (Nat.le_refl _)]
theorem join_few (xs : List (List UInt8)) : ∀ p, (joinF (fewR xs p)).length ≤ 108 * p
  | 0 => Nat.le_refl _
  | p + 1 => by
    have h1 := join_few xs p
    by_cases h : p < xs.length
    · rw [fewR_succ xs p h, join_snoc, List.length_take]
      omega
    · rw [fewR_over xs (by omega), ← fewR_over xs (p := p) (by omega)]
      omega
set_option maxHeartbeats 8000000 in
set_option maxRecDepth 100000 in
theorem framed_any (F : FApi) (g : Nat) (A : Option Addr) (n cap : Nat) (xs : List (List UInt8)) (w : World) (ht : Tab w g) (h : RdB w A n cap xs) :
    Calls Try.prog 18 #[.pointer (some ⟨g, 0, none⟩), .slice A n cap] w fun e w' => ∃ B m c, e = .returned (.slice B m c) ∧ Own w' w.heap.size 5 B m c (joinF (fewR xs 8)) ∧ Below w.heap.size w w' := by
  have hn := h.le
  unfold maxLen at hn
  have al : Below w.heap.size w (w.alloc (.cells #[] 5)) := (Below.refl _ _).alloc (Nat.le_refl _) _
  have o1 : Own (w.alloc (.cells #[] 5)) w.heap.size 5 (some ⟨w.heap.size, 0, none⟩) 0 0 (joinF (fewR xs 0)) := Own.empty w 5 (Nat.le_refl _)
  have HT := Go.Lib.hid ht
  have HX := Go.Lib.hid h
  have HL := Go.Lib.hid h.len
  clear ht h
  go_enter Try.func18, Try.ntmps18
  go_wp2_with fail
  go_loopw [5, 6, 7, 8, 9] (fun s i _ _ _ wr => ∃ (j : Nat) (B : Option Addr) (m c : Nat), j ≤ n ∧ j ≤ 8 ∧ i = .int .i64 j ∧ s = .slice B m c ∧ Own wr w.heap.size 5 B m c (joinF (fewR xs j)) ∧ Below w.heap.size w wr) (fun _ i _ _ _ _ => n - (intOf i).toNat)
  case atStart => exact ⟨0, _, 0, 0, Nat.zero_le _, Nat.zero_le _, rfl, rfl, o1, al⟩
  case round =>
    obtain ⟨j, B, m, c, hj, hj8, rfl, rfl, oj, Bj⟩ := hrel
    clear o1 al
    have hm := oj.len
    have hmj := join_few xs j
    rw [hm] at hmj
    clear hm
    by_cases hlt : j < n ∧ j < 8
    · obtain ⟨h1, h2⟩ := hlt
      have i1 : (j : Int) < n := by omega
      have i2 : (j : Int) < 8 := by omega
      have i3 : (0 : Int) ≤ j := by omega
      obtain ⟨ba, oa, rfl, _, hca⟩ := (HX.out.below Bj).at_ (by omega)
      obtain ⟨A1, n1, c1, ka, ra⟩ := hca j h1
      have hsn := fewR_succ xs j (by rw [HL.out]; exact h1)
      have hcc := ra.le_cap
      have HS := Go.Lib.hid hsn
      have HR := Go.Lib.hid ra
      have HO := Go.Lib.hid oj
      have HB := Go.Lib.hid Bj
      clear hca hsn ra oj Bj
      generalize xs.getD j [] = x at *
      go_upto_if 27 with (fail)
      go_cut [7] (fun v wx => v = .slice A1 (min n1 100) c1 ∧ wx = wr)
      case first =>
        by_cases hn1 : n1 > 100
        · have i1 : (n1 : Int) > 100 := by omega
          have hs : ∀ W, (Instr.slice 22 (.slice A1 n1 c1) none (some (.int .i64 100)) none).run Try.prog W = .ok (.slice A1 100 c1) W := fun W => slice_upto A1 n1 c1 100 (by omega) W
          go_wp2_with fail
          go_meet
          exact ⟨by rw [show min n1 100 = 100 by omega], rfl⟩
        · have i1 : ¬ (n1 : Int) > 100 := by omega
          go_wp2_with fail
          go_meet
          exact ⟨by rw [show min n1 100 = n1 by omega], rfl⟩
      case rest =>
        obtain ⟨rfl, hwc⟩ := hcut
        subst hwc
        have ra := HR.out
        have ra' : Rd wc A1 (min n1 100) c1 (x.take 100) := by
          have h3 := ra.first (k := min n1 100) (Nat.min_le_left _ _)
          have h4 : x.take (min n1 100) = x.take 100 := by
            have := ra.len
            by_cases h100 : n1 ≤ 100
            · rw [Nat.min_eq_left h100, List.take_of_length_le (by omega), List.take_of_length_le (by omega)]
            · rw [Nat.min_eq_right (by omega)]
          rwa [h4] at h3
        have hxl := ra'.len
        have hx100 : min n1 100 ≤ 100 := Nat.min_le_right _ _
        generalize min n1 100 = p at *
        generalize x.take 100 = y at *
        go_wp2_with fail
        refine (F.put g A1 p c1 y wc (HT.out.below HB.out) ra').mono ?_
        rintro e w2 ⟨A2, m2, c2, rfl, r2, b2⟩
        have hm2 := r2.len
        rw [putB_few (by omega)] at r2 hm2
        rw [putC_few (by omega)]
        rw [frameF_length] at hm2
        have o2 := HO.out.below b2
        have B2 := below_chain HB.out b2
        clear ra ra' b2 HR HO
        go_wp2_with (at_builtin; refine wpList_append_more rfl (.tmp 36) (.tmp 37) 22 rfl 5 Try.underlying22 u8_info rfl rfl o2 r2 (by omega) B2.size w B2 ?_; intro A4 c4 w4 o4 b4)
        have o5 : Own w4 w.heap.size 5 A4 (m + m2) c4 (joinF (fewR xs (j + 1))) := by
          rw [HS.out, joinF_append, joinF_one]
          exact o4
        clear o4 o2 r2 B2
        go_roundw
        case rel => exact ⟨j + 1, A4, m + m2, c4, by omega, by omega, by go_num, rfl, o5, b4⟩
        case measure => simp [intOf]; omega
    · have hway : ¬ (j : Int) < n ∨ ((j : Int) < n ∧ ¬ (j : Int) < 8) := by omega
      have e8 : fewR xs j = fewR xs 8 := by
        by_cases h8 : j = 8
        · rw [h8]
        · have hjn : n = j := by omega
          rw [fewR_over xs (p := 8) (by rw [HL.out]; omega), HL.out, hjn]
      rw [e8] at oj
      clear hlt e8
      rcases hway with i1 | ⟨i1, i2⟩
      all_goals
        go_wp2_with fail
        go_ret
        exact ⟨_, _, _, rfl, oj, Bj⟩
set_option maxHeartbeats 8000000 in
set_option maxRecDepth 100000 in
theorem joins_walk (F : FApi) (A : Option Addr) (n cap : Nat) (xs : List (List UInt8)) (B : Option Addr) (m cb : Nat) (ys : List (List UInt8)) (w : World) (hl : RdB w A n cap xs) (hk : RdB w B m cb ys) :
    Calls Try.prog 7 #[.slice A n cap, .slice B m cb] w fun e w' => e = .returned (.bool true) ∧ Below w.heap.size w w' := by
  have hz := tab_zero
  have HA := Go.Lib.hid hl
  have HB := Go.Lib.hid hk
  clear hl hk
  go_enter Try.func7, Try.ntmps7
  go_wp2_with fail
  refine (shown9_any F _).mono ?_
  rintro e w1 ⟨rfl, b1⟩
  go_wp2_with fail
  refine (new_any _).mono ?_
  rintro e w2 ⟨rfl, b2⟩
  have t3 := tab_new w2
  have B3 := below_chain (below_chain b1 b2) (tab_bel w2)
  have r3 := HA.out.below B3
  clear b1 b2
  go_wp2_with (with_reducible refine wpList_table rfl (.tmp 6) (.tmp 12) rfl rfl rfl ?_)
  generalize w2.alloc (.cells tab 26) = w3 at *
  refine (framed_any F w2.heap.size A n cap xs w3 t3 r3).mono ?_
  rintro e w4 ⟨A4, m4, c4, rfl, o4, b4⟩
  have t4 := t3.below b4
  have B4 := below_chain B3 b4
  have s4 := HB.out.below B4
  clear t3 B3 r3 b4
  go_wp2_with fail
  refine (framed_any F w2.heap.size B m cb ys w4 t4 s4).mono ?_
  rintro e w5 ⟨A5, m5, c5, rfl, o5, b5⟩
  have t5 := t4.below b5
  have B5 := below_chain B4 b5
  have r4 := o4.rd.below b5
  have r5 := o5.rd
  have hm4 := r4.len
  have hm5 := r5.len
  have hj4 := join_few xs 8
  have hj5 := join_few ys 8
  rw [hm4] at hj4
  rw [hm5] at hj5
  have al : Below w5.heap.size w5 (w5.alloc (.cells #[] 5)) := (Below.refl _ _).alloc (Nat.le_refl _) _
  have r4' := r4.below al
  have R5 := Go.Lib.hid r5
  have HM4 := Go.Lib.hid hm4
  have HM5 := Go.Lib.hid hm5
  clear t4 B4 o4 o5 s4 b5 r4 r5 hm4 hm5
  go_wp2_with (first
    | (at_builtin; refine wpList_append_fresh rfl (.tmp 18) (.tmp 19) 22 rfl 5 Try.underlying22 u8_info rfl rfl (Own.empty w5 5 (Nat.le_refl _)) r4' (by omega) al.size w5 al ?_; intro A6 c6 w6 o6 b6; have r6 := R5.out.below b6)
    | (at_builtin; refine wpList_append_more rfl (.tmp 20) (.tmp 21) 22 rfl 5 Try.underlying22 u8_info rfl rfl o6 r6 (by omega) b6.size w5 b6 ?_; intro A7 c7 w7 o7 b7; clear o6 r6 b6 r4' al))
  have r7 := o7.rd
  have t7 := t5.below b7
  have B7 := below_chain B5 b7
  clear o7 t5 B5 b7
  have hsc : scanF (joinF (fewR xs 8) ++ joinF (fewR ys 8)) = fewR xs 8 ++ fewR ys 8 := by
    rw [← joinF_append]
    refine scanF_all fun x hx => ?_
    rcases List.mem_append.1 hx with h | h
    · exact fewR_few x h
    · exact fewR_few x h
  refine (F.scan w2.heap.size A7 _ c7 _ w7 t7 r7 (by omega)).mono ?_
  rintro e w8 ⟨A8, m8, c8, rfl, r8, b8⟩
  have hm8 := r8.len
  rw [hsc, List.length_append, fewR_len, fewR_len, HA.out.len, HB.out.len] at hm8
  rw [hsc, joinF_append, List.length_append, HM4.out, HM5.out]
  have B8 := below_chain B7 b8
  clear r7 t7 B7 b8 r8 hsc HM4 HM5 R5
  have e1 : min (n : Int) 8 = ((min 8 n : Nat) : Int) := by omega
  have e2 : min (m : Int) 8 = ((min 8 m : Nat) : Int) := by omega
  have hp1 : min 8 n ≤ 8 := by omega
  have hp2 : min 8 m ≤ 8 := by omega
  generalize min 8 n = p1 at *
  generalize min 8 m = p2 at *
  subst hm8
  have hw1 : IntKind.i64.wrap ((m4 : Int) + (m5 : Int)) = ((m4 + m5 : Nat) : Int) := by
    rw [IntWalk.i64_in _ (by omega)]
    omega
  have hw2 : IntKind.i64.wrap ((p1 : Int) + (p2 : Int)) = ((p1 + p2 : Nat) : Int) := by
    rw [IntWalk.i64_in _ (by omega)]
    omega
  go_wp2_with fail
  all_goals
    go_ret
    refine ⟨ret_bool ?_, B8⟩
    rw [beq_iff_eq]
    omega
section
variable {H : Type} {enc : TypeId × Value → H}
set_option maxRecDepth 100000 in
theorem joins_main (F : FApi) (W : World) (base : Nat) (v0 v1 : Value) {d0 d1 : DataW H} {p0 p1 : List MemPlace} (o0 : Value.okWide Try.prog W .any base 37 v0) (o1 : Value.okWide Try.prog W .any base 37 v1)
    (h0 : DataW.Trod enc Try.prog W 0 (fun _ => true) true 37 v0 d0 p0) (h1 : DataW.Trod enc Try.prog W 0 (fun _ => true) true 37 v1 d1 p1) :
    Calls Try.prog 7 #[v0, v1] W fun e W' => e = .returned (.bool true) ∧ Below W.heap.size W W' := by
  obtain ⟨A, n, cap, xs, rfl, hl⟩ := op_rows o0 h0
  obtain ⟨B, m, cb, ys, rfl, hk⟩ := op_rows o1 h1
  exact joins_walk F A n cap xs B m cb ys W hl hk
end

end Go.Proofs.Ytniemomngggifaa.FrWalk

/-
  Layer 9: where frames end; frames that are cut, or of which a byte is turned, at any place. The rows that the law grows.
-/
namespace Go.Proofs.Ytniemomngggifaa.FrWalk
open Go.RowKit Go.WideShapes Go.ChangeShapes Go.Proofs.Ytniemomngggifaa.MemRow Go.Proofs.Ytniemomngggifaa.NumMem Go.Proofs.Ytniemomngggifaa.CrcMath Go.Proofs.Ytniemomngggifaa.CrcWalk Go.Proofs.Ytniemomngggifaa.CrcLaw Go.Proofs.Ytniemomngggifaa.FrMath Go.Proofs.Ytniemomngggifaa.Open

/-- Where the frame i ends. -/
def endF (xs : List (List UInt8)) (i : Nat) : Nat := (joinF (xs.take i)).length
def endsF (xs : List (List UInt8)) : List Nat := (List.range xs.length).map fun i => endF xs (i + 1)
theorem endsF_len (xs : List (List UInt8)) : (endsF xs).length = xs.length := by simp [endsF]
theorem endsF_snoc (xs : List (List UInt8)) (x : List UInt8) : endsF (xs ++ [x]) = endsF xs ++ [(joinF (xs ++ [x])).length] := by
  unfold endsF endF
  rw [List.length_append, List.length_singleton, List.range_succ, List.map_append]
  congr 1
  · refine List.map_congr_left fun i hi => ?_
    have := List.mem_range.1 hi
    rw [List.take_append_of_le_length (by omega)]
  · simp only [List.map_cons, List.map_nil]
    rw [List.take_of_length_le (by simp)]
theorem endsF_get (xs : List (List UInt8)) {i : Nat} (h : i < xs.length) : (endsF xs)[i]? = some (endF xs (i + 1)) := by
  simp [endsF, h]
def nums (ns : List Nat) : List Value := ns.map fun n : Nat => .int .i64 (n : Int)
theorem nums_len (ns : List Nat) : (nums ns).length = ns.length := by simp [nums]
theorem nums_snoc (ns : List Nat) (n : Nat) : nums (ns ++ [n]) = nums ns ++ [.int .i64 (n : Int)] := by simp [nums]
theorem nums_get {ns : List Nat} {i n : Nat} (h : ns[i]? = some n) : (nums ns)[i]? = some (.int .i64 (n : Int)) := by simp [nums, h]

section
variable {xs : List (List UInt8)} {k p : Nat}
theorem rows_split (hk : k < xs.length) : xs = xs.take k ++ xs.getD k [] :: xs.drop (k + 1) := by
  have h := List.take_append_drop k xs
  rw [List.drop_eq_getElem_cons hk] at h
  simp only [List.getD, List.getElem?_eq_getElem hk, Option.getD_some]
  exact h.symm
theorem join_split (hk : k < xs.length) : joinF xs = joinF (xs.take k) ++ (frameF (xs.getD k []) ++ joinF (xs.drop (k + 1))) := by
  rw [← joinF_cons, ← joinF_append, ← rows_split hk]
theorem endF_succ (hk : k < xs.length) : endF xs (k + 1) = endF xs k + ((xs.getD k []).length + 8) := by
  unfold endF
  rw [rows_take xs k hk, joinF_append, joinF_one, List.length_append, frameF_length]
theorem endF_all : endF xs xs.length = (joinF xs).length := by
  unfold endF
  rw [List.take_of_length_le (Nat.le_refl _)]
variable (hk : k < xs.length) (h1 : endF xs k ≤ p) (h2 : p < endF xs (k + 1))
include hk h1 h2
theorem cut_rows (hx : ∀ x ∈ xs, x.length ≤ maxF) : scanF ((joinF xs).take p) = xs.take k := by
  rw [endF_succ hk] at h2
  have h3 : (joinF xs).take p = joinF (xs.take k) ++ (frameF (xs.getD k [])).take (p - endF xs k) := by
    rw [join_split hk, List.take_append, List.take_of_length_le (by exact h1), List.take_append_of_le_length (by rw [frameF_length]; unfold endF at h1 h2; omega)]
    rfl
  rw [h3]
  refine scan_cut (fun x h => hx x (List.mem_of_mem_take h)) (hx _ ?_) (by omega)
  simp only [List.getD, List.getElem?_eq_getElem hk, Option.getD_some]
  exact List.getElem_mem hk
theorem set_rows (v : UInt8) : (joinF xs).set p v = joinF (xs.take k) ++ ((frameF (xs.getD k [])).set (p - endF xs k) v ++ joinF (xs.drop (k + 1))) := by
  rw [endF_succ hk] at h2
  rw [join_split hk, List.set_append_right _ _ (by exact h1), List.set_append_left _ _ (by rw [frameF_length]; unfold endF at h1 h2; omega)]
  rfl
theorem get_rows : (joinF xs).getD p 0 = (frameF (xs.getD k [])).getD (p - endF xs k) 0 := by
  rw [endF_succ hk] at h2
  rw [join_split hk]
  simp only [List.getD]
  rw [List.getElem?_append_right (by exact h1), List.getElem?_append_left (by rw [frameF_length]; unfold endF at h1 h2; simp only [List.getD] at h2; omega)]
  rfl
theorem turn_rows (hx : ∀ x ∈ xs, x.length ≤ maxF) {c : UInt8} (hc : c ≠ 0) (h4 : 4 ≤ p - endF xs k) : scanF ((joinF xs).set p ((joinF xs).getD p 0 ^^^ c)) = xs.take k := by
  rw [set_rows hk h1 h2, get_rows hk h1 h2]
  rw [endF_succ hk] at h2
  refine scan_turned (fun x h => hx x (List.mem_of_mem_take h)) (hx _ ?_) h4 (by omega) hc _
  simp only [List.getD, List.getElem?_eq_getElem hk, Option.getD_some]
  exact List.getElem_mem hk
theorem turn_some (hx : ∀ x ∈ xs, x.length ≤ maxF) (v : UInt8) : ∃ r, scanF ((joinF xs).set p v) = xs.take k ++ r := by
  rw [set_rows hk h1 h2]
  exact ⟨_, scanF_join _ (fun x h => hx x (List.mem_of_mem_take h)) _⟩
end

theorem int_info : (Try.prog.info? 3).map (fun i => (i.zero, i.size, i.bytes)) = some (some (.int .i64 0), 1, 8) := by kernel_rfl
/-- The three rows that the law grows. -/
structure CutAt (w wr : World) (Bb : Option Addr) (mb cb : Nat) (Bi : Option Addr) (mi ci : Nat) (Be : Option Addr) (me ce : Nat) (xs : List (List UInt8)) : Prop where
  b : Own wr w.heap.size 5 Bb mb cb (joinF xs)
  i : OldB w wr w.heap.size Bi mi ci xs
  e : OwnC 1 wr w.heap.size 3 Be me ce (nums (endsF xs))
  bel : Below w.heap.size w wr
theorem CutAt.below {w wr w' : World} {Bb Bi Be : Option Addr} {mb cb mi ci me ce : Nat} {xs : List (List UInt8)} (h : CutAt w wr Bb mb cb Bi mi ci Be me ce xs) (hb : Below wr.heap.size wr w') : CutAt w w' Bb mb cb Bi mi ci Be me ce xs :=
  ⟨h.b.below hb, h.i.below hb, OwnC.below h.e hb, below_chain h.bel hb⟩
theorem OldB.grown {w0 w w' : World} {base k : Nat} {t : TypeId} {A A' : Option Addr} {n cap n' cap' : Nat} {xs : List (List UInt8)} {cs : List Value} (h : OldB w0 w base A n cap xs) (hg : w.grownBy w' (A'.map (·.block))) (o : OwnC k w base t A' n' cap' cs) (ht : 22 ≠ t) : OldB w0 w' base A n cap xs := by
  obtain ⟨cs, oc, hl, hc⟩ := h
  exact ⟨cs, OwnC.grown oc hg (own_far oc o ht), hl, hc⟩

theorem fr_grown (w : World) (g i : Nat) (x : Value) : w.grownBy (w.setCell ⟨g, i, none⟩ x) (some g) := by
  refine ⟨rfl, rfl, rfl, by simp [World.setCell], fun k _ hne => ?_⟩
  have : g ≠ k := fun e => hne (by rw [e])
  simp [World.setCell, Array.getElem?_modify, this]
/-- A cell of a call's own row is written. -/
theorem fr_set {k : Nat} {w : World} {base : Nat} {t : TypeId} {A : Option Addr} {n cap blk : Nat} {cs : List Value} (h : OwnC k w base t A n cap cs) (hA : A = some ⟨blk, 0, none⟩) (i : Nat) (x : Value) : OwnC k (w.setCell ⟨blk, i, none⟩ x) base t A n cap (cs.set i x) := by
  subst hA
  refine ⟨by rw [List.length_set]; exact h.1, ?_⟩
  rcases h.2 with ⟨hv, _⟩ | ⟨g, c, cur, hv, hb, hg, h1, h2, h3, h4⟩
  · cases hv
  · injection hv with e1 e2 e3
    injection e1 with e1
    injection e1 with e1 _ _
    subst e1 e3
    refine .inr ⟨blk, cap, cur.setIfInBounds i x, rfl, hb, ?_, h1, h2, by rw [Array.size_setIfInBounds]; exact h3, ?_⟩
    · simp only [World.setCell, Array.getElem?_modify, hg]
      rfl
    · rw [Array.toList_setIfInBounds, List.take_set, h4]
theorem fr_zero {k : Nat} {w : World} {base : Nat} {t : TypeId} {A : Option Addr} {n cap b o : Nat} {cs : List Value} (h : OwnC k w base t A n cap cs) (hA : A = some ⟨b, o, none⟩) : o = 0 ∧ (∀ i, w.frozen? ⟨b, i, none⟩ = false) ∧ ∃ x fr, w.heap[b]? = some (.cells x t fr) := by
  subst hA
  rcases h.2 with ⟨hv, _⟩ | ⟨g, c, cur, hv, _, hg, _⟩
  · cases hv
  · injection hv with e1 e2 e3
    injection e1 with e1
    injection e1 with e1 e4 _
    subst e1
    exact ⟨e4, fun i => by simp [World.frozen?, hg], _, _, hg⟩
theorem fr8_set {w : World} {base : Nat} {t : TypeId} {A : Option Addr} {n cap blk : Nat} {l : List UInt8} (h : Own w base t A n cap l) (hA : A = some ⟨blk, 0, none⟩) (i : Nat) (c : UInt8) : Own (w.setCell ⟨blk, i, none⟩ (.int .u8 (c.toNat : Int))) base t A n cap (l.set i c) := by
  have h1 := fr_set (k := 1) (cs := cellsOf l) h hA i (.int .u8 (c.toNat : Int))
  have e : (cellsOf l).set i (.int .u8 (c.toNat : Int)) = cellsOf (l.set i c) := by simp [cellsOf, List.map_set]
  rw [e] at h1
  exact h1
theorem xor_u8 (a b : UInt8) : bits .xor .u8 (a.toNat : Int) (b.toNat : Int) = ((a ^^^ b).toNat : Int) := by
  rw [u8_xor_nat _ _ (UInt8.toNat_lt a) (UInt8.toNat_lt b), UInt8.toNat_xor]
/-- A byte of the frames is written. -/
theorem CutAt.set {w wr : World} {Bb Bi Be : Option Addr} {mb cb mi ci me ce blk : Nat} {xs : List (List UInt8)} (h : CutAt w wr Bb mb cb Bi mi ci Be me ce xs) (hA : Bb = some ⟨blk, 0, none⟩) (i : Nat) (c : UInt8) :
    Own (wr.setCell ⟨blk, i, none⟩ (.int .u8 (c.toNat : Int))) w.heap.size 5 Bb mb cb ((joinF xs).set i c) ∧ OldB w (wr.setCell ⟨blk, i, none⟩ (.int .u8 (c.toNat : Int))) w.heap.size Bi mi ci xs ∧ OwnC 1 (wr.setCell ⟨blk, i, none⟩ (.int .u8 (c.toNat : Int))) w.heap.size 3 Be me ce (nums (endsF xs)) ∧ Below w.heap.size w (wr.setCell ⟨blk, i, none⟩ (.int .u8 (c.toNat : Int))) := by
  have hg := fr_grown wr blk i (.int .u8 (c.toNat : Int))
  have hg' : wr.grownBy (wr.setCell ⟨blk, i, none⟩ (.int .u8 (c.toNat : Int))) (Bb.map (·.block)) := by rw [hA]; exact hg
  exact ⟨fr8_set h.b hA i c, h.i.grown hg' (k := 1) h.b (by decide), OwnC.grown h.e hg' (own_far h.e (k' := 1) h.b (by decide)), below_grown_own (k := 1) h.b h.bel hg' h.bel.size⟩

theorem tab_grown {w w' : World} {g k base : Nat} {t : TypeId} {A : Option Addr} {n cap : Nat} {cs : List Value} (h : Tab w g) (o : OwnC k w base t A n cap cs) (hg : w.grownBy w' (A.map (·.block))) (ht : t ≠ 26) : Tab w' g := by
  refine (hg.block g h.lt fun e => ?_).trans h
  cases A with
  | none => cases e
  | some a =>
    simp only [Option.map_some, Option.some.injEq] at e
    rcases o.2 with ⟨hv, _⟩ | ⟨g', c', cur', hv, _, hg', _⟩
    · cases hv
    · injection hv with e1
      injection e1 with e1
      subst e1
      simp only at e
      subst e
      unfold Tab at h
      rw [h] at hg'
      injection hg' with hg'
      injection hg' with _ e3
      exact ht e3.symm
section
variable {w wr w4 w5 w7 : World} {g : Nat} {Bb Bi Be A1 A4 A5 A7 : Option Addr} {mb cb mi ci me ce p c1 m2 c4 c5 c7 : Nat} {xs : List (List UInt8)} {y : List UInt8}
/-- The law's rows, one frame more in the first: and a block with what the second one takes. -/
structure CutB (w W : World) (g : Nat) (b : Nat) (A4 : Option Addr) (m4 c4 : Nat) (Bi : Option Addr) (mi ci : Nat) (Be : Option Addr) (me ce : Nat) (A1 : Option Addr) (p c1 : Nat) (xs : List (List UInt8)) (y : List UInt8) (cs : List Value) : Prop where
  b4 : Own W w.heap.size 5 A4 m4 c4 (joinF xs ++ frameF y)
  i : OwnC 1 W w.heap.size 22 Bi mi ci cs
  il : xs.length = mi
  ic : BsC (fun B m c x => Rd w B m c x) xs cs
  e : OwnC 1 W w.heap.size 3 Be me ce (nums (endsF xs))
  bel : Below w.heap.size w W
  t : Tab W g
  n : RdC 1 W (some ⟨b, 0, none⟩) 1 1 [.slice A1 p c1]
theorem own_blk (A : Option Addr) (n cap : Nat) : (Value.slice A n cap).ownBlock = A.map (·.block) := by cases A <;> rfl
theorem CutAt.one (h : CutAt w wr Bb mb cb Bi mi ci Be me ce xs) (t : Tab wr g) (o4 : Own w4 w.heap.size 5 A4 (mb + m2) c4 (joinF xs ++ frameF y)) (g4 : wr.grownBy w4 (Value.slice Bb mb cb).ownBlock) :
    ∃ cs, CutB w (w4.alloc (.cells #[.slice A1 p c1] 22)) g w4.heap.size A4 (mb + m2) c4 Bi mi ci Be me ce A1 p c1 xs y cs := by
  rw [own_blk] at g4
  obtain ⟨cs, oi, hl, hc⟩ := h.i.grown g4 (k := 1) h.b (by decide)
  have al : Below w4.heap.size w4 (w4.alloc (.cells #[.slice A1 p c1] 22)) := (Below.refl _ _).alloc (Nat.le_refl _) _
  have e4 := OwnC.grown h.e g4 (own_far h.e (k' := 1) h.b (by decide))
  have B4 := below_grown_own (k := 1) h.b h.bel g4 h.bel.size
  exact ⟨cs, o4.below al, OwnC.below oi al, hl, hc, OwnC.below e4 al, below_chain B4 al, (tab_grown (k := 1) t h.b g4 (by decide)).below al, RdC.new w4 _ [.slice A1 p c1] rfl (by decide)⟩
/-- One more in the second too, and a block with what the third one takes. -/
structure CutC (w W : World) (g : Nat) (b : Nat) (A4 : Option Addr) (m4 c4 : Nat) (A5 : Option Addr) (m5 c5 : Nat) (Be : Option Addr) (me ce : Nat) (xs : List (List UInt8)) (y : List UInt8) : Prop where
  b4 : Own W w.heap.size 5 A4 m4 c4 (joinF xs ++ frameF y)
  i : OldB w W w.heap.size A5 m5 c5 (xs ++ [y])
  e : OwnC 1 W w.heap.size 3 Be me ce (nums (endsF xs))
  bel : Below w.heap.size w W
  t : Tab W g
  n : RdC 1 W (some ⟨b, 0, none⟩) 1 1 [.int .i64 (m4 : Int)]
theorem CutB.two {m4 b : Nat} {cs : List Value} {W : World} (h : CutB w W g b A4 m4 c4 Bi mi ci Be me ce A1 p c1 xs y cs) (rx : Rd w A1 p c1 y) (o5 : OwnC 1 w5 w.heap.size 22 A5 (mi + 1) c5 (cs ++ [.slice A1 p c1])) (g5 : W.grownBy w5 (Bi.map (·.block))) :
    CutC w (w5.alloc (.cells #[.int .i64 (m4 : Int)] 3)) g w5.heap.size A4 m4 c4 A5 (mi + 1) c5 Be me ce xs y := by
  have al : Below w5.heap.size w5 (w5.alloc (.cells #[.int .i64 (m4 : Int)] 3)) := (Below.refl _ _).alloc (Nat.le_refl _) _
  have b5 : Own w5 w.heap.size 5 A4 m4 c4 (joinF xs ++ frameF y) := OwnC.grown (k := 1) h.b4 g5 (own_far (k := 1) h.b4 h.i (by decide))
  have e5 := OwnC.grown h.e g5 (own_far h.e h.i (by decide))
  have B5 := below_grown_own h.i h.bel g5 h.bel.size
  exact ⟨b5.below al, (OldB.more h.il h.ic rx o5).below al, OwnC.below e5 al, below_chain B5 al, (tab_grown h.t h.i g5 (by decide)).below al, RdC.new w5 _ [.int .i64 (m4 : Int)] rfl (by decide)⟩
theorem CutC.three {m4 b m5 : Nat} {W : World} (h : CutC w W g b A4 m4 c4 A5 m5 c5 Be me ce xs y) (o7 : OwnC 1 w7 w.heap.size 3 A7 (me + 1) c7 (nums (endsF xs) ++ [.int .i64 (m4 : Int)])) (g7 : W.grownBy w7 (Be.map (·.block))) :
    CutAt w w7 A4 m4 c4 A5 m5 c5 A7 (me + 1) c7 (xs ++ [y]) ∧ Tab w7 g := by
  have b7 : Own w7 w.heap.size 5 A4 m4 c4 (joinF (xs ++ [y])) := by
    rw [joinF_append, joinF_one]
    exact OwnC.grown (k := 1) h.b4 g7 (own_far (k := 1) h.b4 h.e (by decide))
  have B7 := below_grown_own h.e h.bel g7 h.bel.size
  have hm : (joinF (xs ++ [y])).length = m4 := b7.len
  refine ⟨⟨b7, h.i.grown g7 h.e (by decide), ?_, B7⟩, tab_grown h.t h.e g7 (by decide)⟩
  rw [endsF_snoc, nums_snoc, hm]
  exact o7
end

theorem ends_cells {W : World} {base be oe n ce : Nat} {ys : List (List UInt8)} (o : OwnC 1 W base 3 (some ⟨be, oe, none⟩) n ce (nums (endsF ys))) : ∀ i, i < ys.length → W.cell? ⟨be, oe + i, none⟩ = some (.int .i64 (endF ys (i + 1) : Nat)) := by
  intro i hi
  have hl := OwnC.len o
  rw [nums_len, endsF_len] at hl
  obtain ⟨b, o', h1, _, h3⟩ := RdC.at_ (OwnC.rd o) (by omega) (by omega)
  injection h1 with h1
  injection h1 with h1 h2 _
  subst h1 h2
  exact h3 i _ (nums_get (endsF_get ys hi))
theorem elem_rows : Try.prog.elem 37 = 22 := by kernel_rfl
theorem rows_size : (Try.prog.info? 22).map (·.size) = some 1 := by kernel_rfl
/-- v[:m] of rows. -/
theorem rows_upto (A : Option Addr) (n cap m : Nat) (hc : m ≤ cap) (W : World) :
    (Instr.slice 37 (.slice A n cap) none (some (.int .i64 (m : Int))) none).run Try.prog W = .ok (.slice A m cap) W := by
  have hu : Try.prog.underlying 37 = some (.slice (Try.prog.elem 37)) := by rw [elem_rows]; exact Try.underlying37
  have e : A.map (·.add 0) = A := by cases A <;> simp [Addr.add]
  rw [run_slice_h (P := Try.prog) W 37 _ n cap hu .i64 (m : Int) (by omega) (by omega), elem_rows, MemRow.run_size rows_size]
  simp only [Result.andThen, sliced, Int.toNat_natCast, Nat.zero_mul, e, Nat.sub_zero]
  congr 2
  split <;> rfl

theorem same_true {A B : Option Addr} {n m ca cb : Nat} {ss : List (List UInt8)} {w : World} (q : Nat) (ha : RdB w A n ca ss) (hb : RdB w B m cb ss) :
    Calls Try.prog 17 #[.slice A n ca, .slice B m cb] (w.drewN q) fun e w' => e = .returned (.bool true) ∧ ∃ k, w' = w.drewN k := by
  refine (refSameB_any A B n m ca cb ss ss (w.drewN q) (ha.drewN q) (hb.drewN q)).mono ?_
  rintro e w' ⟨rfl, k, rfl⟩
  exact ⟨by rw [decide_eq_true (rfl : ss = ss)], q + k, by rw [World.drewN_drewN]⟩

end Go.Proofs.Ytniemomngggifaa.FrWalk

/-
  Walk of a statement of layer 9: FrameCut.
-/
namespace Go.Proofs.Ytniemomngggifaa.FrWalk
open Go.RowKit Go.WideShapes Go.ChangeShapes Go.Proofs.Ytniemomngggifaa.MemRow Go.Proofs.Ytniemomngggifaa.NumMem Go.Proofs.Ytniemomngggifaa.CrcMath Go.Proofs.Ytniemomngggifaa.CrcWalk Go.Proofs.Ytniemomngggifaa.CrcLaw Go.Proofs.Ytniemomngggifaa.FrMath Go.Proofs.Ytniemomngggifaa.Open

set_option maxHeartbeats 16000000 in
set_option maxRecDepth 100000 in
theorem cut_walk (F : FApi) (A : Option Addr) (n cap : Nat) (xs : List (List UInt8)) (z : Int) (hz : -9223372036854775808 ≤ z ∧ z ≤ 9223372036854775807) (by_ : UInt8) (w : World) (hl : RdB w A n cap xs) :
    Calls Try.prog 4 #[.slice A n cap, .int .i64 z, .int .u8 (by_.toNat : Int)] w fun e w' => e = .returned (.bool true) ∧ Below w.heap.size w w' := by
  have hz0 := tab_zero
  have hn := hl.le
  unfold maxLen at hn
  have HX := Go.Lib.hid hl
  have HL := Go.Lib.hid hl.len
  clear hl
  go_enter Try.func4, Try.ntmps4
  go_wp2_with fail
  refine (shown9_any F _).mono ?_
  rintro e w1 ⟨rfl, b1⟩
  go_wp2_with fail
  refine (new_any _).mono ?_
  rintro e w2 ⟨rfl, b2⟩
  have t3 := tab_new w2
  have B3 := below_chain (below_chain b1 b2) (tab_bel w2)
  clear b1 b2
  go_upto_region 3 with (with_reducible refine wpList_table rfl (.tmp 8) (.tmp 24) rfl rfl rfl ?_)
  generalize w2.alloc (.cells tab 26) = w3 at *
  go_upto_region 4 with (fail)
  have al4 : Below w3.heap.size w3 (w3.alloc (.cells #[] 5)) := (Below.refl _ _).alloc (Nat.le_refl _) _
  have o4 : Own (w3.alloc (.cells #[] 5)) w.heap.size 5 (some ⟨w3.heap.size, 0, none⟩) 0 0 (joinF (fewR xs 0)) := Own.empty w3 5 B3.size
  have t4 := t3.below al4
  have B4 := below_chain B3 al4
  generalize w3.alloc (.cells #[] 5) = w4 at *
  clear t3 B3 al4
  go_upto_region 5 with (fail)
  have al5 : Below w4.heap.size w4 (w4.alloc (.cells #[] 22)) := (Below.refl _ _).alloc (Nat.le_refl _) _
  have o5 : OldB w (w4.alloc (.cells #[] 22)) w.heap.size (some ⟨w4.heap.size, 0, none⟩) 0 0 (fewR xs 0) := OldB.empty w w4 B4.size
  have o4' := o4.below al5
  have t5 := t4.below al5
  have B5 := below_chain B4 al5
  generalize w4.alloc (.cells #[] 22) = w5 at *
  clear t4 B4 al5 o4
  go_upto_region 6 with (fail)
  have al6 : Below w5.heap.size w5 (w5.alloc (.cells #[] 3)) := (Below.refl _ _).alloc (Nat.le_refl _) _
  have o6 : OwnC 1 (w5.alloc (.cells #[] 3)) w.heap.size 3 (some ⟨w5.heap.size, 0, none⟩) 0 0 (nums (endsF (fewR xs 0))) := OwnC.empty w5 _ B5.size
  have C6 : CutAt w (w5.alloc (.cells #[] 3)) (some ⟨w3.heap.size, 0, none⟩) 0 0 (some ⟨w4.heap.size, 0, none⟩) 0 0 (some ⟨w5.heap.size, 0, none⟩) 0 0 (fewR xs 0) := ⟨o4'.below al6, o5.below al6, o6, below_chain B5 al6⟩
  have t6 := t5.below al6
  generalize w5.alloc (.cells #[] 3) = w6 at *
  clear t5 B5 al6 o4' o5 o6
  go_upto_block 0 with (fail)
  go_cut [9, 10, 11, 12, 13, 14, 15] (fun v9 v10 v11 _ _ _ _ wx => ∃ (j : Nat) (Bb : Option Addr) (mb cb : Nat) (Bi : Option Addr) (mi ci : Nat) (Be : Option Addr) (me ce : Nat), j ≤ 12 ∧ v9 = .slice Bb mb cb ∧ v10 = .slice Bi mi ci ∧ v11 = .slice Be me ce ∧ CutAt w wx Bb mb cb Bi mi ci Be me ce (fewR xs j) ∧ Tab wx w2.heap.size)
  case first =>
    go_wp2_with fail
    go_loopw [9, 10, 11, 12, 13, 14, 15] (fun v9 v10 v11 i _ _ _ wr => ∃ (j : Nat) (Bb : Option Addr) (mb cb : Nat) (Bi : Option Addr) (mi ci : Nat) (Be : Option Addr) (me ce : Nat), j ≤ n ∧ j ≤ 12 ∧ i = .int .i64 j ∧ v9 = .slice Bb mb cb ∧ v10 = .slice Bi mi ci ∧ v11 = .slice Be me ce ∧ CutAt w wr Bb mb cb Bi mi ci Be me ce (fewR xs j) ∧ Tab wr w2.heap.size) (fun _ _ _ i _ _ _ _ => n - (intOf i).toNat)
    case atStart => exact ⟨0, _, 0, 0, _, 0, 0, _, 0, 0, Nat.zero_le _, Nat.zero_le _, rfl, rfl, rfl, rfl, C6, t6⟩
    case round =>
      obtain ⟨j, Bb, mb, cb, Bi, mi, ci, Be, me, ce, hj, hj12, rfl, rfl, rfl, rfl, Cj, tj⟩ := hrel
      clear C6 t6
      have hmb := Cj.b.len
      have hmbj := join_few xs j
      rw [hmb] at hmbj
      clear hmb
      by_cases hlt : j < n ∧ j < 12
      · obtain ⟨h1, h2⟩ := hlt
        have i1 : (j : Int) < n := by omega
        have i2 : (j : Int) < 12 := by omega
        have i3 : (0 : Int) ≤ j := by omega
        obtain ⟨ba, oa, rfl, _, hca⟩ := HX.out.at_ (by omega)
        obtain ⟨A1, n1, c1, ka0, ra⟩ := hca j h1
        have ka := bcell Cj.bel ka0
        have HS := Go.Lib.hid (fewR_succ xs j (by rw [HL.out]; exact h1))
        have hcc := ra.le_cap
        have hfl := fewR_len xs j
        have hmi := Cj.i.len
        have hme := OwnC.len Cj.e
        rw [nums_len, endsF_len] at hme
        have hmi12 : mi ≤ 12 := by omega
        have hme12 : me ≤ 12 := by omega
        have HR := Go.Lib.hid ra
        have HC := Go.Lib.hid Cj
        have HT := Go.Lib.hid tj
        clear hca ra Cj tj ka0 hfl hmi hme
        generalize xs.getD j [] = x at *
        go_upto_if 44 with (fail)
        go_cut [13] (fun v wx => v = .slice A1 (min n1 100) c1 ∧ wx = wr)
        case first =>
          by_cases hn1 : n1 > 100
          · have i1 : (n1 : Int) > 100 := by omega
            have hs : ∀ W, (Instr.slice 22 (.slice A1 n1 c1) none (some (.int .i64 100)) none).run Try.prog W = .ok (.slice A1 100 c1) W := fun W => slice_upto A1 n1 c1 100 (by omega) W
            go_wp2_with fail
            go_meet
            exact ⟨by rw [show min n1 100 = 100 by omega], rfl⟩
          · have i1 : ¬ (n1 : Int) > 100 := by omega
            go_wp2_with fail
            go_meet
            exact ⟨by rw [show min n1 100 = n1 by omega], rfl⟩
        case rest =>
          obtain ⟨rfl, hwc⟩ := hcut
          subst hwc
          have ra := HR.out
          have ra' : Rd w A1 (min n1 100) c1 (x.take 100) := by
            have h3 := ra.first (k := min n1 100) (Nat.min_le_left _ _)
            have h4 : x.take (min n1 100) = x.take 100 := by
              have := ra.len
              by_cases h100 : n1 ≤ 100
              · rw [Nat.min_eq_left h100, List.take_of_length_le (by omega), List.take_of_length_le (by omega)]
              · rw [Nat.min_eq_right (by omega)]
            rwa [h4] at h3
          have hxl := ra'.len
          have hx100 : min n1 100 ≤ 100 := Nat.min_le_right _ _
          have ra2 := ra'.below HC.out.bel
          have RA := Go.Lib.hid ra'
          clear ra ra' HR ka hcc
          generalize min n1 100 = p at *
          generalize x.take 100 = y at *
          go_wp2_with fail
          refine (F.put w2.heap.size A1 p c1 y wc HT.out ra2).mono ?_
          rintro e w7 ⟨A2, m2, c2, rfl, r2, b2⟩
          have hm2 := r2.len
          rw [putB_few (by omega)] at r2 hm2
          rw [putC_few (by omega)]
          rw [frameF_length] at hm2
          have C7 := HC.out.below b2
          have t7 := HT.out.below b2
          have o7 := C7.b
          have HC7 := Go.Lib.hid C7
          have HT7 := Go.Lib.hid t7
          have big7 := C7.bel.size
          clear ra2 b2 C7 t7 HC HT
          go_wp2_with (first
            | (at_builtin; refine wpList_append_bytes rfl (.tmp 54) (.tmp 55) 22 rfl 5 Try.underlying22 u8_info rfl rfl o7 r2 (by omega) big7 ?_; intro A8 c8 w8 o8 g8; obtain ⟨cs8, D8⟩ := HC7.out.one (A1 := A1) (p := p) (c1 := c1) HT7.out o8 g8; have i8 := D8.i; have n8 := D8.n; have big8 := D8.bel.size; have HD8 := Go.Lib.hid D8; clear D8 o7 r2 big7 o8 g8)
            | (at_builtin; refine wpList_append_cells rfl (.tmp 57) (.tmp 59) 37 rfl 22 (.slice none 0 0) 24 Try.underlying37 bytes_info rfl (by decide) rfl rfl i8 n8 (fun v hv => by rw [List.mem_singleton.1 hv]; rfl) (by unfold maxLen; omega) (by omega) big8 ?_; intro A9 c9 w9 o9 g9 _; have D9 := HD8.out.two RA.out o9 g9; have e9 := D9.e; have n9 := D9.n; have big9 := D9.bel.size; have HD9 := Go.Lib.hid D9; clear D9 i8 n8 big8 o9 g9)
            | (at_builtin; refine wpList_append_cells rfl (.tmp 61) (.tmp 64) 43 rfl 3 (.int .i64 0) 8 Try.underlying43 int_info rfl (by decide) rfl rfl e9 n9 (fun v hv => by rw [List.mem_singleton.1 hv]; rfl) (by unfold maxLen; omega) (by omega) big9 ?_; intro A10 c10 w10 o10 g10 _; obtain ⟨C10, t10⟩ := HD9.out.three o10 g10; clear e9 n9 big9 o10 g10))
          go_roundw
          case rel =>
            rw [← HS.out] at C10
            exact ⟨j + 1, A8, _, c8, A9, _, c9, A10, _, c10, by omega, by omega, by go_num, rfl, rfl, rfl, C10, t10⟩
          case measure => simp [intOf]; omega
      · have hway : ¬ (j : Int) < n ∨ ((j : Int) < n ∧ ¬ (j : Int) < 12) := by omega
        clear hlt
        rcases hway with i1 | ⟨i1, i2⟩
        all_goals
          go_wp2_with fail
          go_meet
          exact ⟨j, Bb, mb, cb, Bi, mi, ci, Be, me, ce, hj12, rfl, rfl, rfl, Cj, tj⟩
  case rest =>
    obtain ⟨j, Bb, mb, cb, Bi, mi, ci, Be, me, ce, hj12, rfl, rfl, rfl, C7, t7⟩ := hcut
    clear C6 t6
    have hx : ∀ x ∈ fewR xs j, x.length ≤ maxF := fewR_few
    have hys := fewR_len xs j
    have hmb := C7.b.len
    have hmbj := join_few xs j
    rw [hmb] at hmbj
    have hyl : (fewR xs j).length ≤ 12 := by omega
    have hmb2 : mb ≤ 1296 := by omega
    clear hmbj hys
    generalize fewR xs j = ys at *
    have HMB := Go.Lib.hid hmb
    have HXS := Go.Lib.hid hx
    have hmi := C7.i.len
    have hme := OwnC.len C7.e
    rw [nums_len, endsF_len, Nat.mul_one] at hme
    subst hme
    clear hx hmb
    go_wp2_with fail
    refine (F.scan w2.heap.size Bb mb cb _ wc t7 C7.b.rd (by omega)).mono ?_
    rintro e w8 ⟨A8, m8, c8, rfl, r8, b8⟩
    rw [scanF_all HXS.out] at r8
    rw [scanF_all HXS.out, HMB.out]
    have C8 := C7.below b8
    have t8 := t7.below b8
    clear C7 t7 b8
    go_wp2_with fail
    refine (refSameB_any A8 Bi m8 mi c8 ci ys ys w8 r8 (C8.i.rd C8.bel)).mono ?_
    rintro e w9 ⟨rfl, kk, rfl⟩
    rw [decide_eq_true (rfl : ys = ys)]
    have b9 : Below w8.heap.size w8 (w8.drewN kk) := bel_drewN (Below.refl _ _) kk
    have C9 := C8.below b9
    have t9 := t8.below b9
    generalize w8.drewN kk = w9 at *
    clear C8 t8 b9 r8
    by_cases hz1 : z < 0
    · go_wp2_with fail
      go_ret
      exact ⟨rfl, C9.bel⟩
    by_cases hz2 : z ≥ (mb : Int)
    · go_wp2_with fail
      go_ret
      exact ⟨rfl, C9.bel⟩
    obtain ⟨p, rfl⟩ : ∃ p : Nat, z = (p : Int) := ⟨z.toNat, by omega⟩
    have hp : p < mb := by omega
    have HC := Go.Lib.hid C9
    have HT := Go.Lib.hid t9
    obtain ⟨be, oe, hBe, _, hce⟩ : ∃ b o, Be = some ⟨b, o, none⟩ ∧ b < w9.heap.size ∧ ∀ i, i < ys.length → w9.cell? ⟨b, o + i, none⟩ = some (.int .i64 (endF ys (i + 1) : Nat)) := by
      have hpos : 0 < ys.length := by
        rcases Nat.eq_zero_or_pos ys.length with h | h
        · exfalso
          have h1 := HMB.out
          rw [List.length_eq_zero_iff.1 h] at h1
          have : (joinF []).length = 0 := rfl
          omega
        · exact h
      obtain ⟨b, o, h1, h2, h3⟩ := RdC.at_ (OwnC.rd C9.e) (by omega) hpos
      exact ⟨b, o, h1, h2, fun i hi => h3 i _ (nums_get (endsF_get ys hi))⟩
    subst hBe
    have HCE := Go.Lib.hid hce
    have hpe : p < endF ys ys.length := by rw [endF_all, HMB.out]; exact hp
    have HP := Go.Lib.hid hp
    have HPE := Go.Lib.hid hpe
    have d1 : decide ((p : Int) < 0) = false := decide_eq_false (by omega)
    have d2 : decide ((p : Int) ≥ (mb : Int)) = false := decide_eq_false (by omega)
    have d3 : decide (mb ≤ p) = false := decide_eq_false (by omega)
    clear C9 t9 hce hp hpe hz hz1 hz2
    go_upto_block 2 with (fail)
    clear d1 d2 d3
    go_cut [19] (fun v wx => ∃ k : Nat, v = .int .i64 k ∧ k < ys.length ∧ endF ys k ≤ p ∧ p < endF ys (k + 1) ∧ wx = w9)
    case first =>
      go_wp2_with fail
      go_loopw [19] (fun i wr => ∃ k : Nat, i = .int .i64 k ∧ k ≤ ys.length ∧ endF ys k ≤ p ∧ wr = w9) (fun i _ => ys.length - (intOf i).toNat)
      case atStart => exact ⟨0, rfl, Nat.zero_le _, Nat.zero_le _, rfl⟩
      case round =>
        obtain ⟨k, rfl, hk, hkp, hw9⟩ := hrel
        have HW := Go.Lib.hid hw9
        by_cases hkl : k < ys.length
        · have i1 : (k : Int) < ys.length := by omega
          have i3 : (0 : Int) ≤ k := by omega
          have kc : wr.cell? ⟨be, oe + k, none⟩ = some (.int .i64 (endF ys (k + 1) : Nat)) := by
            rw [hw9]
            exact HCE.out k hkl
          clear hw9
          by_cases hle : endF ys (k + 1) ≤ p
          · generalize hq : endF ys (k + 1) = q at *
            have i2 : (q : Int) ≤ p := by omega
            go_wp2_with fail
            go_roundw
            case rel => exact ⟨k + 1, by go_num, by omega, by omega, HW.out⟩
            case measure => simp [intOf]; omega
          · generalize hq : endF ys (k + 1) = q at *
            have i2 : ¬ (q : Int) ≤ p := by omega
            go_wp2_with fail
            go_meet
            exact ⟨k, rfl, hkl, hkp, by omega, HW.out⟩
        · exfalso
          have := HPE.out
          have h2 : k = ys.length := by omega
          rw [h2] at hkp
          omega
    case rest =>
      obtain ⟨k, rfl, hkl, hk1, hk2, hw9⟩ := hcut
      subst hw9
      have C9 := HC.out
      have hbr := C9.b.rd
      have hcb := hbr.le_cap
      have hpb := HP.out
      go_upto_if 109 with (fail)
      go_cut [9] (fun v wx => ∃ (m' : Nat) (l' : List UInt8), v = .slice Bb m' cb ∧ m' ≤ 1296 ∧ Hid (l' = if by_ = 0 then (joinF ys).take p else (joinF ys).set p ((joinF ys).getD p 0 ^^^ by_)) ∧ Rd wx Bb m' cb l' ∧ OldB w wx w.heap.size Bi mi ci ys ∧ OwnC 1 wx w.heap.size 3 (some ⟨be, oe, none⟩) ys.length ce (nums (endsF ys)) ∧ Tab wx w2.heap.size ∧ Below w.heap.size w wx)
      case first =>
        by_cases h0 : by_ = 0
        · subst h0
          have z8 : (((0 : UInt8).toNat : Nat) : Int) = 0 := rfl
          have qs := fun W => slice_upto Bb mb cb p (by omega) W
          have HR := Go.Lib.hid hbr
          clear C9 hbr
          go_wp2_with fail
          go_meet
          exact ⟨p, _, rfl, by omega, Go.Lib.hid (by simp), HR.out.first (by omega), HC.out.i, HC.out.e, HT.out, HC.out.bel⟩
        · have h0' : ¬ ((by_.toNat : Nat) : Int) = 0 := fun h => h0 (UInt8.toNat_inj.1 (by show by_.toNat = 0; omega))
          obtain ⟨blk, oo, hA, _, hcc⟩ := hbr.at_ (by omega)
          obtain ⟨rfl, hfz, _⟩ := fr_zero (k := 1) C9.b hA
          have hc := hcc p hpb
          rw [Nat.zero_add] at hc
          have hzf := hfz p
          have i1 : (p : Int) < mb := by omega
          have i0 : (0 : Int) ≤ p := by omega
          have HA := Go.Lib.hid hA
          have HV : Hid ((joinF ys).getD p 0 = (joinF ys).getD p 0) := Go.Lib.hid rfl
          generalize hv : (joinF ys).getD p 0 = v at hc HV
          have HV2 := Go.Lib.hid hv
          have hx8 := xor_u8 v by_
          subst hA
          clear C9 hbr hcc hfz hv HV h0
          go_wp2_with fail
          go_meet
          obtain ⟨q1, q2, q3, q4⟩ := HC.out.set rfl p (v ^^^ by_)
          exact ⟨mb, _, rfl, by omega, Go.Lib.hid (by rw [HV2.out, if_neg (fun h => h0' (by rw [h]; rfl))]), q1.rd, q2, q3, tab_grown (k := 1) HT.out HC.out.b (fr_grown _ blk p _) (by decide), q4⟩
      case rest =>
        obtain ⟨m', l', rfl, hm', HL', r1, i1', e1', t1, B1⟩ := hcut
        clear C9 hbr
        go_wp2_with fail
        refine (F.scan w2.heap.size Bb m' cb l' _ t1 r1 (by omega)).mono ?_
        rintro e wA ⟨A2, mA, cA, rfl, rA, bA⟩
        have B2 := below_chain B1 bA
        have i2 := i1'.below bA
        have e2 := ends_cells (OwnC.below e1' bA)
        have hiB := i2.rd B2
        have hmA := rA.len
        clear r1 i1' e1' t1 B1 bA i2
        generalize hR : scanF l' = rs at *
        have HRS := Go.Lib.hid hR
        clear hR
        go_upto_if 128 with (fail)
        go_cut [22] (fun v wx => v = .int .i64 ((joinF (ys.take k)).length : Nat) ∧ wx = wA)
        case first =>
          cases k with
          | zero =>
            go_wp2_with fail
            go_meet
            exact ⟨rfl, rfl⟩
          | succ q =>
            have j1 : (((q + 1 : Nat) : Int)) > 0 := by omega
            have hw : IntKind.i64.wrap (((q + 1 : Nat) : Int) - 1) = (q : Int) := by rw [IntWalk.i64_in _ (by omega)]; omega
            have kc := e2 q (by omega)
            have j2 : (q : Int) < ys.length := by omega
            have j3 : (0 : Int) ≤ q := by omega
            go_wp2_with fail
            go_meet
            exact ⟨rfl, rfl⟩
        case rest =>
          obtain ⟨rfl, hwA⟩ := hcut
          subst hwA
          have hk12 : k ≤ mi := by omega
          have hBk := hiB.first (m := k) hk12
          have hcB := hiB.le_cap
          have qB := fun W => rows_upto Bi mi ci k (by omega) W
          clear hiB
          by_cases h0 : by_ = 0
          · have hre : rs = ys.take k := by
              rw [← HRS.out, HL'.out, if_pos h0]
              exact cut_rows hkl hk1 hk2 HXS.out
            subst hre h0
            have z8 : (((0 : UInt8).toNat : Nat) : Int) = 0 := rfl
            go_wp2_with fail
            refine (refSameB_any A2 Bi mA k cA ci _ _ _ rA hBk).mono ?_
            rintro e wD ⟨rfl, kq, rfl⟩
            rw [decide_eq_true (rfl : ys.take k = ys.take k)]
            have B3 := bel_drewN B2 kq
            go_wp2_with fail
            go_ret
            exact ⟨rfl, B3⟩
          · have h0' : ¬ ((by_.toNat : Nat) : Int) = 0 := fun h => h0 (UInt8.toNat_inj.1 (by show by_.toNat = 0; omega))
            have hle : (joinF (ys.take k)).length ≤ p := hk1
            have hw : IntKind.i64.wrap ((p : Int) - ((joinF (ys.take k)).length : Int)) = (p : Int) - ((joinF (ys.take k)).length : Int) := IntWalk.i64_in _ (by omega)
            by_cases h4 : p - (joinF (ys.take k)).length < 4
            · obtain ⟨r, hr⟩ := turn_some hkl hk1 hk2 HXS.out ((joinF ys).getD p 0 ^^^ by_)
              have hre : rs = ys.take k ++ r := by rw [← HRS.out, HL'.out, if_neg h0, hr]
              have h5 : (p : Int) - ((joinF (ys.take k)).length : Int) < 4 := by omega
              have hAk := rA.first (m := k) (by rw [← hmA, hre, List.length_append, List.length_take]; omega)
              have e1 : rs.take k = ys.take k := by
                rw [hre, List.take_append_of_le_length (by rw [List.length_take]; omega), List.take_take, Nat.min_self]
              rw [e1] at hAk
              have hcA := rA.le_cap
              have hmk : k ≤ mA := by rw [← hmA, hre, List.length_append, List.length_take]; omega
              have qA := fun W => rows_upto A2 mA cA k (by omega) W
              have j1 : (mA : Int) ≥ k := by omega
              have j2 : ((joinF rs).length : Int) ≥ ((joinF (ys.take k)).length : Int) := by
                rw [hre, joinF_append, List.length_append]
                omega
              clear hre e1 rA hr
              go_wp2_with fail
              go_quiet (first | (go_at_call 17; exact same_true _ hAk hBk))
              go_wp2_with fail
              go_ret
              exact ⟨rfl, bel_drewN B2 _⟩
            · have hre : rs = ys.take k := by
                rw [← HRS.out, HL'.out, if_neg h0]
                exact turn_rows hkl hk1 hk2 HXS.out h0 (by unfold endF; omega)
              subst hre
              have h5 : ¬ (p : Int) - ((joinF (ys.take k)).length : Int) < 4 := by omega
              go_wp2_with fail
              refine (refSameB_any A2 Bi mA k cA ci _ _ _ rA hBk).mono ?_
              rintro e wD ⟨rfl, kq, rfl⟩
              rw [decide_eq_true (rfl : ys.take k = ys.take k)]
              have B3 := bel_drewN B2 kq
              go_wp2_with fail
              go_ret
              exact ⟨rfl, B3⟩
section
variable {H : Type} {enc : TypeId × Value → H}
set_option maxRecDepth 100000 in
theorem cut_main (F : FApi) (W : World) (base : Nat) (v0 v1 v2 : Value) {d0 d1 d2 : DataW H} {p0 p1 p2 : List MemPlace} (o0 : Value.okWide Try.prog W .any base 37 v0) (o1 : Value.okWide Try.prog W .any base 3 v1) (o2 : Value.okWide Try.prog W .any base 5 v2)
    (h0 : DataW.Trod enc Try.prog W 0 (fun _ => true) true 37 v0 d0 p0) (h1 : DataW.Trod enc Try.prog W 0 (fun _ => true) true 3 v1 d1 p1) (h2 : DataW.Trod enc Try.prog W 0 (fun _ => true) true 5 v2 d2 p2) :
    Calls Try.prog 4 #[v0, v1, v2] W fun e W' => e = .returned (.bool true) ∧ Below W.heap.size W W' := by
  obtain ⟨A, n, cap, xs, rfl, hl⟩ := op_rows o0 h0
  obtain ⟨z, rfl, hz⟩ := op_i64 Try.underlying3 o1 h1
  obtain ⟨x, rfl, wx⟩ := op_int Try.underlying5 o2 h2
  obtain ⟨c, rfl⟩ : ∃ c : UInt8, x = (c.toNat : Int) := by
    have hb := bounds_u8 wx
    refine ⟨UInt8.ofNat x.toNat, ?_⟩
    have : x.toNat < 256 := by omega
    simp [Nat.mod_eq_of_lt this]
    omega
  exact cut_walk F A n cap xs z hz c W hl
end

end Go.Proofs.Ytniemomngggifaa.FrWalk

