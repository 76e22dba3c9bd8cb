/-
  Contract of the document's answer of layer 5: Take: the walk.
-/
import Derived.Test.YtjglpmakjampjaaEcTake
import Derived.Deep.DeepCutAuto
namespace Go.Proofs.Ytjglpmakjampjaa.EcWalk
open Go.RowKit Go.Proofs.Ytjglpmakjampjaa.MemRow Go.Proofs.Ytjglpmakjampjaa.Ev Go.Proofs.Ytjglpmakjampjaa.NameMath Go.Proofs.Ytjglpmakjampjaa.NameWalk Go.Proofs.Ytjglpmakjampjaa.EvWalk Go.Proofs.Ytjglpmakjampjaa.NumMath Go.Proofs.Ytjglpmakjampjaa.NumMem Go.Proofs.Ytjglpmakjampjaa.NumWalk

/-- An event, taken from bytes; none, if it is not there or may not be. -/
def takeE (l : List UInt8) (b : Bool) : Option (Ev × List UInt8) :=
  let l1 := textL l
  let b1 := textB l b
  let l2 := textL l1
  let b2 := textB l1 b1
  let tg := takeTags (min (numV l2) 7).toNat (numL l2) (numB l2 b2)
  let l4 := tg.2.1
  let fl := takeFlds (min (numV l4) 5).toNat (numL l4) (numB l4 tg.2.2)
  if numV l2 < 0 ∨ 6 < numV l2 then none
  else if numV l4 < 0 ∨ fl.2.2 = true ∨ mayE ⟨tx l, tx l1, tg.1, fl.1⟩ ≠ 0 then none
  else some (⟨tx l, tx l1, tg.1, fl.1⟩, fl.2.1)

theorem takeTags_stop {k : Nat} {l : List UInt8} {b : Bool} (h : k = 0 ∨ b = true) : takeTags k l b = ([], l, b) := by
  cases k with
  | zero => rfl
  | succ k =>
    rcases h with h | h
    · cases h
    · rw [takeTags, if_pos h]
theorem takeTags_go {k : Nat} {l : List UInt8} : takeTags (k + 1) l false = (tx l :: (takeTags k (textL l) (textB l false)).1, (takeTags k (textL l) (textB l false)).2) := by
  rw [takeTags, if_neg (by decide)]

theorem takeFlds_stop {k : Nat} {l : List UInt8} {b : Bool} (h : k = 0 ∨ b = true) : takeFlds k l b = ([], l, b) := by
  cases k with
  | zero => rfl
  | succ k =>
    rcases h with h | h
    · cases h
    · rw [takeFlds, if_pos h]
theorem takeFlds_go {k : Nat} {l : List UInt8} : takeFlds (k + 1) l false = ((tx l, numV (textL l)) :: (takeFlds k (numL (textL l)) (numB (textL l) (textB l false))).1, (takeFlds k (numL (textL l)) (numB (textL l) (textB l false))).2) := by
  rw [takeFlds, if_neg (by decide)]

theorem tx_size (l : List UInt8) : (tx l).size ≤ l.length := by
  have e : (tx l).size = (textV l).length := by simp [tx, ByteArray.size]
  rw [e]
  unfold textV
  split
  · rw [List.length_take]
    have : (numL l).length ≤ l.length := by
      unfold numL
      split
      · simp
      · rw [List.length_drop]; omega
    omega
  · simp
theorem tx_small {w : World} {T : TypeId} {g : Nat} {l : List UInt8} {b : Bool} (h : Rdr w T g l b) : (tx l).size ≤ maxLen := by
  obtain ⟨A, n, cap, _, hr, _⟩ := h
  have h1 := hr.le
  have h2 := hr.len
  have h3 := tx_size l
  omega
theorem numV_range (l : List UInt8) : -9223372036854775808 ≤ numV l ∧ numV l ≤ 9223372036854775807 := by
  have hu := decU_lt l
  have hv : numV l = unzig (decU l) ∨ numV l = 0 := by
    unfold numV decU
    by_cases h : lenV l = 0
    · right
      rw [if_pos h]
    · left
      rw [if_neg h, if_neg h]
  rcases hv with hv | hv
  · rw [hv]
    unfold unzig
    split <;> omega
  · rw [hv]
    omega

def NoneE (e : Ending) : Prop := e = .returned (.tuple #[.agg #[.string ⟨#[]⟩, .string ⟨#[]⟩, .slice none 0 0, .slice none 0 0], .int .i64 2])
/-- The value v is the event ev, its slices rows of a call's own. -/
def OwnIs (w : World) (base : Nat) (v : Value) (ev : Ev) : Prop :=
  ∃ T nT cT F nF cF, v = .agg #[.string ev.s, .string ev.t, .slice T nT cT, .slice F nF cF] ∧ OwnC 1 w base 9 T nT cT (MemRow.strs ev.tags) ∧ OwnC 2 w base 52 F nF cF (flds ev.fs)
theorem OwnIs.ev {w : World} {base : Nat} {v : Value} {ev : Ev} (h : OwnIs w base v ev) : IsEv w v ev := by
  obtain ⟨T, nT, cT, F, nF, cF, rfl, h1, h2⟩ := h
  exact ⟨_, _, _, _, _, _, rfl, OwnC.rd h1, OwnC.rd h2⟩
theorem own_lower {k : Nat} {w : World} {base base' : Nat} {t : TypeId} {A : Option Addr} {n cap : Nat} {cs : List Value} (h : OwnC k w base t A n cap cs) (hb : base' ≤ base) : OwnC k w base' t A n cap cs := by
  refine ⟨h.1, ?_⟩
  rcases h.2 with h2 | ⟨g, c, cur, hv, hg, rest⟩
  · exact .inl h2
  · exact .inr ⟨g, c, cur, hv, Nat.le_trans hb hg, rest⟩
/-- What taking an event comes to. -/
def TakeOut (l : List UInt8) (b : Bool) (g : Nat) (w : World) (e : Ending) (w' : World) : Prop :=
  w.grownBy w' (some g) ∧ ((∃ ev l', takeE l b = some (ev, l') ∧ ∃ v, e = .returned (.tuple #[v, .int .i64 0]) ∧ OwnIs w' w.heap.size v ev ∧ Rdr w' 39 g l' false) ∨
    (takeE l b = none ∧ NoneE e ∧ ∃ l' b', Rdr w' 39 g l' b'))

set_option maxHeartbeats 4000000 in
set_option maxRecDepth 100000 in
theorem refTake_any (g : Nat) (l : List UInt8) (b : Bool) (w : World) (h : Rdr w 39 g l b) :
    Calls Try.prog 15 #[.pointer (some ⟨g, 0, none⟩)] w (TakeOut l b g w) := by
  have gw := h.lt
  have HS0 := Go.Lib.hid (tx_small h)
  have e1 := EvAt.new w (.string ⟨#[]⟩) (.string ⟨#[]⟩) (.slice none 0 0) (.slice none 0 0)
  have b1 : Below w.heap.size w (w.alloc (.cells #[.string ⟨#[]⟩, .string ⟨#[]⟩, .slice none 0 0, .slice none 0 0] 26)) := (Below.refl _ _).alloc (Nat.le_refl _) _
  have h1 := h.below b1
  have g1 : w.grownBy (w.alloc (.cells #[.string ⟨#[]⟩, .string ⟨#[]⟩, .slice none 0 0, .slice none 0 0] 26)) (some g) := ⟨b1.os, b1.tape, b1.output, b1.size, fun k hk _ => b1.block k hk⟩
  clear h b1
  go_enter Try.func15, Try.ntmps15
  go_upto_region 1 with (fail)
  generalize w.alloc (.cells #[.string ⟨#[]⟩, .string ⟨#[]⟩, .slice none 0 0, .slice none 0 0] 26) = w1 at *
  go_wp2_with fail
  refine (refText_any g l b w1 h1).mono ?_
  rintro e w2 ⟨rfl, h2, gg⟩
  have e2 := e1.grown gg (by simp; omega)
  have g2 := gr_step' g1 gg
  clear h1 e1 g1 gg
  go_upto_region 2 with (fail)
  have e3 := EvAt.new w2 (.string (tx l)) (.string ⟨#[]⟩) (.slice none 0 0) (.slice none 0 0)
  have al : Below w2.heap.size w2 (w2.alloc (.cells #[.string (tx l), .string ⟨#[]⟩, .slice none 0 0, .slice none 0 0] 26)) := (Below.refl _ _).alloc (Nat.le_refl _) _
  have t3 : TakeAt (w2.alloc (.cells #[.string (tx l), .string ⟨#[]⟩, .slice none 0 0, .slice none 0 0] 26)) w g (textL l) (textB l b) w2.heap.size (tx l) ⟨#[]⟩ none 0 0 [] none 0 0 [] :=
    ⟨h2.below al, e2.below al e2.lt, e3, OwnC.nil _ _, OwnC.nil _ _, (fun a c hA _ => by cases hA), gr_step g2 (row := none) ⟨al.os, al.tape, al.output, al.size, fun k hk _ => al.block k hk⟩ (fun r e => by cases e), gw, e2.lt⟩
  have hal : w2.alloc (.cells #[.string ⟨(textV l).toArray⟩, .string ⟨#[]⟩, .slice none 0 0, .slice none 0 0] 26) = w2.alloc (.cells #[.string (tx l), .string ⟨#[]⟩, .slice none 0 0, .slice none 0 0] 26) := rfl
  rw [hal]
  clear hal
  generalize w2.alloc (.cells #[.string (tx l), .string ⟨#[]⟩, .slice none 0 0, .slice none 0 0] 26) = w3 at *
  generalize w2.heap.size = ge at *
  clear h2 e2 g2 e3 al
  go_wp2_with fail
  refine (refText_any g _ _ w3 t3.rd).mono ?_
  rintro e w4 ⟨rfl, h4, gg⟩
  have t4 := t3.read h4 gg
  have HS1 := Go.Lib.hid (tx_small t3.rd)
  have z1 := t4.ev.frozen 1
  have k1 := t4.ev.c1
  have t5 := t4.setS (tx (textL l))
  clear t3 t4 h4 gg
  go_upto_region 3 with (fail)
  have hset : w4.setCell ⟨ge, 1, none⟩ (.string ⟨(textV (textL l)).toArray⟩) = w4.setCell ⟨ge, 1, none⟩ (.string (tx (textL l))) := rfl
  rw [hset]
  generalize w4.setCell ⟨ge, 1, none⟩ (.string (tx (textL l))) = w5 at *
  clear z1 k1 hset
  go_wp2_with fail
  refine (refNum_any g _ _ w5 t5.rd).mono ?_
  rintro e w6 ⟨rfl, h6, gg⟩
  have t6 := t5.read h6 gg
  clear t5 h6 gg
  generalize hl2 : textL (textL l) = l2 at *
  generalize hb2 : textB (textL l) (textB l b) = b2 at *
  generalize hn : numV l2 = n at *
  generalize hK : (min n 7).toNat = K
  have HL2 := Go.Lib.hid hl2
  have HB2 := Go.Lib.hid hb2
  have HN := Go.Lib.hid hn
  have hK1 : ∀ j : Nat, j < K ↔ ((j : Int) < n ∧ (j : Int) ≤ 6) := fun j => by omega
  have HK := Go.Lib.hid hK
  have HK1 := Go.Lib.hid hK1
  clear hl2 hb2 hn hK hK1
  go_wp2_with fail
  go_loopw [6] (fun i wr => ∃ (j : Nat) (T : Option Addr) (cT : Nat) (ts : List ByteArray) (l' : List UInt8) (b' : Bool), j ≤ K ∧ i = .int .i64 j ∧ Hid (takeTags K (numL l2) (numB l2 b2) = (ts ++ (takeTags (K - j) l' b').1, (takeTags (K - j) l' b').2)) ∧ ts.length = j ∧ Hid (∀ x ∈ ts, x.size ≤ maxLen) ∧ TakeAt wr w g l' b' ge (tx l) (tx (textL l)) T j cT ts none 0 0 []) (fun i _ => K - (intOf i).toNat)
  case atStart => exact ⟨0, none, 0, [], numL l2, numB l2 b2, Nat.zero_le _, rfl, Go.Lib.hid (by simp), rfl, Go.Lib.hid (by simp), t6⟩
  case round =>
    obtain ⟨j, T, cT, ts, l', b', hj, rfl, HQ, hts, HSZ, ta⟩ := hrel
    have HTS := Go.Lib.hid hts
    clear hts
    have kb := ta.bad
    go_upto_region 5 with (fail)
    go_cut [31] (fun c wx => c = .bool (decide (j < K) && !b') ∧ wr = wx)
    case first =>
      by_cases i1 : (j : Int) < n
      · by_cases i2 : (j : Int) ≤ 6
        · have hd : decide (j < K) = true := decide_eq_true ((HK1.out j).2 ⟨i1, i2⟩)
          have HD := Go.Lib.hid hd
          clear hd
          go_wp2_with fail
          go_meet
          exact ⟨by rw [HD.out]; rfl, rfl⟩
        · have hd : decide (j < K) = false := decide_eq_false fun h => i2 ((HK1.out j).1 h).2
          have HD := Go.Lib.hid hd
          clear hd
          go_wp2_with fail
          go_meet
          exact ⟨by rw [HD.out]; rfl, rfl⟩
      · have hd : decide (j < K) = false := decide_eq_false fun h => i1 ((HK1.out j).1 h).1
        have HD := Go.Lib.hid hd
        clear hd
        go_wp2_with fail
        go_meet
        exact ⟨by rw [HD.out]; rfl, rfl⟩
    case rest =>
      obtain ⟨rfl, rfl⟩ := hcut
      generalize hc : (decide (j < K) && !b') = c
      have HC := Go.Lib.hid hc
      clear hc kb
      cases c with
      | true =>
        have hjb := HC.out
        rw [Bool.and_eq_true] at hjb
        have hjk : j < K := of_decide_eq_true hjb.1
        obtain rfl : b' = false := by cases b' <;> simp_all
        have hj7 := (HK1.out j).1 hjk
        have i2 := hj7.2
        have td := ta.drew
        have l2c := ta.ev.c2
        have hsz2 : ∀ x ∈ ts ++ [tx l'], x.size ≤ maxLen := by
          intro x hx
          rcases List.mem_append.1 hx with hx | hx
          · exact HSZ.out x hx
          · rw [List.mem_singleton.1 hx]
            exact tx_small ta.rd
        have HSZ2 := Go.Lib.hid hsz2
        clear hsz2
        have h63 : j + 1 ≤ maxLen := by unfold maxLen; omega
        have hsz : (j + 1) * 16 ≤ 140737488355328 := by omega
        have hKj : K - j = K - (j + 1) + 1 := by omega
        have HKJ := Go.Lib.hid hKj
        have hgo : takeTags K (numL l2) (numB l2 b2) = ((ts ++ [tx l']) ++ (takeTags (K - (j + 1)) (textL l') (textB l' false)).1, (takeTags (K - (j + 1)) (textL l') (textB l' false)).2) := by
          rw [HQ.out, HKJ.out, takeTags_go]
          simp
        have HGO := Go.Lib.hid hgo
        clear hjb hj7 hKj hgo HC HQ
        go_upto_region 7 with (fail)
        go_region_law (first
          | (go_simp; go_at_call 30; refine (refText_any g l' false wr.drew td.rd).mono ?_; rintro e v1 ⟨rfl, hr, hg⟩; have t1 := td.read hr hg; have m2 := t1.ev.c2; have al : Below v1.heap.size v1 (v1.alloc (.cells #[.string ⟨(textV l').toArray⟩] 9)) := (Below.refl _ _).alloc (Nat.le_refl _) _; have t2 := t1.below al; have m3 := bcell al m2; have d1 : RdC 1 (v1.alloc (.cells #[.string ⟨(textV l').toArray⟩] 9)) (some ⟨v1.heap.size, 0, none⟩) 1 1 (MemRow.strs [tx l']) := RdC.new v1 9 (MemRow.strs [tx l']) rfl (by decide); have big : ge + 1 ≤ (v1.alloc (.cells #[.string ⟨(textV l').toArray⟩] 9)).heap.size := (Nat.le_trans t1.ev.lt al.size))
          | (refine step_append_cells (by rfl) (.tmp 35) (.tmp 38) 23 rfl 9 (.string ByteArray.empty) 16 Try.underlying23 string_info rfl (by decide) rfl rfl t2.tt d1 (strs_one [tx l']) h63 hsz big ?_; intro T8 c8 w8 o8 g8 _; obtain ⟨z8, k8, n8⟩ := t2.moreT (ts' := ts ++ [tx l']) (by rw [strs_append]; exact o8) g8))
        all_goals
          go_wp2_with fail
          go_roundw
          case rel => exact ⟨j + 1, T8, c8, ts ++ [tx l'], textL l', textB l' false, by omega, by go_num, HGO, by rw [List.length_append, HTS.out]; rfl, HSZ2, n8⟩
          case measure => simp [intOf]; omega
      | false =>
        have hst : takeTags K (numL l2) (numB l2 b2) = (ts, l', b') := by
          have h1 : K - j = 0 ∨ b' = true := by
            have h2 := HC.out
            rw [Bool.and_eq_false_iff] at h2
            rcases h2 with h2 | h2
            · left
              have := of_decide_eq_false h2
              omega
            · right
              simpa using h2
          rw [HQ.out, takeTags_stop h1]
          simp
        have HST := Go.Lib.hid hst
        clear hst HC HQ
        have hTE : (n < 0 ∨ 6 < n) → takeE l b = none := by
          intro hx
          unfold takeE
          simp only
          rw [HL2.out, HN.out, if_pos hx]
        have HTE := Go.Lib.hid hTE
        clear hTE
        by_cases hx : n < 0 ∨ 6 < n
        · have hr0 := ta.res.c0
          have hr1 := ta.res.c1
          have hr2 := ta.res.c2
          have hr3 := ta.res.c3
          have z0 := ta.res.frozen 0
          have z1 := ta.res.frozen 1
          have z2 := ta.res.frozen 2
          have z3 := ta.res.frozen 3
          have hfin := ta.fin (.string ⟨#[]⟩) (.string ⟨#[]⟩) (.slice none 0 0) (.slice none 0 0) _ rfl
          have HFIN := Go.Lib.hid hfin
          have HX := Go.Lib.hid hx
          clear hfin
          rcases hx with hx | hx
          · go_wp2_with fail
            obtain ⟨E9, R9, G9, _, _⟩ := HFIN.out
            generalize ((((wr.setCell ⟨w.heap.size, 0, none⟩ (.string ⟨#[]⟩)).setCell ⟨w.heap.size, 1, none⟩ (.string ⟨#[]⟩)).setCell ⟨w.heap.size, 2, none⟩ (.slice none 0 0)).setCell ⟨w.heap.size, 3, none⟩ (.slice none 0 0)) = w9 at *
            have q0 := E9.c0
            have q1 := E9.c1
            have q2 := E9.c2
            have q3 := E9.c3
            exact bodyPost_ret (v := .tuple #[.agg #[.string ⟨#[]⟩, .string ⟨#[]⟩, .slice none 0 0, .slice none 0 0], .int .i64 2]) (by simp [results, Try.results15, go_sem, q0, q1, q2, q3]) rfl ⟨G9, .inr ⟨HTE.out HX.out, rfl, _, _, R9⟩⟩
          · have hn0 : ¬ n < 0 := by omega
            go_wp2_with fail
            obtain ⟨E9, R9, G9, _, _⟩ := HFIN.out
            generalize ((((wr.setCell ⟨w.heap.size, 0, none⟩ (.string ⟨#[]⟩)).setCell ⟨w.heap.size, 1, none⟩ (.string ⟨#[]⟩)).setCell ⟨w.heap.size, 2, none⟩ (.slice none 0 0)).setCell ⟨w.heap.size, 3, none⟩ (.slice none 0 0)) = w9 at *
            have q0 := E9.c0
            have q1 := E9.c1
            have q2 := E9.c2
            have q3 := E9.c3
            exact bodyPost_ret (v := .tuple #[.agg #[.string ⟨#[]⟩, .string ⟨#[]⟩, .slice none 0 0, .slice none 0 0], .int .i64 2]) (by simp [results, Try.results15, go_sem, q0, q1, q2, q3]) rfl ⟨G9, .inr ⟨HTE.out HX.out, rfl, _, _, R9⟩⟩
        have hx1 : ¬ n < 0 := fun h => hx (.inl h)
        have hx2 : ¬ 6 < n := fun h => hx (.inr h)
        have HX := Go.Lib.hid hx
        clear hx HTE
        go_wp2_with fail
        refine (refNum_any g l' b' wr ta.rd).mono ?_
        rintro e u1 ⟨rfl, hr, hg⟩
        have ua := ta.read hr hg
        clear hr hg ta t6
        generalize hm : numV l' = m at *
        generalize hM : (min m 5).toNat = M
        have HMV := Go.Lib.hid hm
        have hM1 : ∀ k : Nat, k < M ↔ ((k : Int) < m ∧ (k : Int) ≤ 4) := fun k => by omega
        have HM := Go.Lib.hid hM
        have HM1 := Go.Lib.hid hM1
        clear hm hM hM1
        go_wp2_with fail
        go_loopw [8, 9] (fun i _ wq => ∃ (k : Nat) (F : Option Addr) (cF : Nat) (fs : List (ByteArray × Int)) (l'' : List UInt8) (b'' : Bool), k ≤ M ∧ i = .int .i64 k ∧ Hid (takeFlds M (numL l') (numB l' b') = (fs ++ (takeFlds (M - k) l'' b'').1, (takeFlds (M - k) l'' b'').2)) ∧ fs.length = k ∧ Hid (∀ f ∈ fs, f.1.size ≤ maxLen ∧ -9223372036854775808 ≤ f.2 ∧ f.2 ≤ 9223372036854775807) ∧ TakeAt wq w g l'' b'' ge (tx l) (tx (textL l)) T j cT ts F k cF fs) (fun i _ _ => M - (intOf i).toNat)
        case atStart => exact ⟨0, none, 0, [], numL l', numB l' b', Nat.zero_le _, rfl, Go.Lib.hid (by simp), rfl, Go.Lib.hid (by simp), ua⟩
        case round =>
          obtain ⟨k, F, cF, fs, l'', b'', hk, rfl, HQ, hfs, HFZ, va⟩ := hrel
          have HFS := Go.Lib.hid hfs
          clear hfs
          have kb := va.bad
          go_upto_region 12 with (fail)
          go_cut [63] (fun c wx => c = .bool (decide (k < M) && !b'') ∧ wr = wx)
          case first =>
            by_cases i1 : (k : Int) < m
            · by_cases i2 : (k : Int) ≤ 4
              · have hd : decide (k < M) = true := decide_eq_true ((HM1.out k).2 ⟨i1, i2⟩)
                have HD := Go.Lib.hid hd
                clear hd
                go_wp2_with fail
                go_meet
                exact ⟨by rw [HD.out]; rfl, rfl⟩
              · have hd : decide (k < M) = false := decide_eq_false fun h => i2 ((HM1.out k).1 h).2
                have HD := Go.Lib.hid hd
                clear hd
                go_wp2_with fail
                go_meet
                exact ⟨by rw [HD.out]; rfl, rfl⟩
            · have hd : decide (k < M) = false := decide_eq_false fun h => i1 ((HM1.out k).1 h).1
              have HD := Go.Lib.hid hd
              clear hd
              go_wp2_with fail
              go_meet
              exact ⟨by rw [HD.out]; rfl, rfl⟩
          case rest =>
            obtain ⟨rfl, rfl⟩ := hcut
            generalize hc : (decide (k < M) && !b'') = c
            have HC := Go.Lib.hid hc
            clear hc kb
            cases c with
            | true =>
              have hjb := HC.out
              rw [Bool.and_eq_true] at hjb
              have hjk : k < M := of_decide_eq_true hjb.1
              obtain rfl : b'' = false := by cases b'' <;> simp_all
              have hj7 := (HM1.out k).1 hjk
              have i2 := hj7.2
              have hfz2 : ∀ f ∈ fs ++ [(tx l'', numV (textL l''))], f.1.size ≤ maxLen ∧ -9223372036854775808 ≤ f.2 ∧ f.2 ≤ 9223372036854775807 := by
                intro f hf
                rcases List.mem_append.1 hf with hf | hf
                · exact HFZ.out f hf
                · rw [List.mem_singleton.1 hf]
                  exact ⟨tx_small va.rd, numV_range _⟩
              have HFZ2 := Go.Lib.hid hfz2
              clear hfz2
              have h63 : k + 1 ≤ maxLen := by unfold maxLen; omega
              have hsz : (k + 1) * 24 ≤ 140737488355328 := by omega
              have hKj : M - k = M - (k + 1) + 1 := by omega
              have HKJ := Go.Lib.hid hKj
              have hgo : takeFlds M (numL l') (numB l' b') = ((fs ++ [(tx l'', numV (textL l''))]) ++ (takeFlds (M - (k + 1)) (numL (textL l'')) (numB (textL l'') (textB l'' false))).1, (takeFlds (M - (k + 1)) (numL (textL l'')) (numB (textL l'') (textB l'' false))).2) := by
                rw [HQ.out, HKJ.out, takeFlds_go]
                simp
              have HGO := Go.Lib.hid hgo
              clear hjb hj7 hKj hgo HC HQ ua
              go_wp2_with fail
              refine (refText_any g l'' false wr va.rd).mono ?_
              rintro e v1 ⟨rfl, hr, hg⟩
              have t1 := va.read hr hg
              clear hr hg va
              go_upto_region 15 with (fail)
              have al : Below v1.heap.size v1 (v1.alloc (.cells #[.string (tx l''), .int .i64 0] 52)) := (Below.refl _ _).alloc (Nat.le_refl _) _
              have t2 := t1.below al
              have f2 : FldAt (v1.alloc (.cells #[.string (tx l''), .int .i64 0] 52)) v1.heap.size (tx l'', 0) := heap_alloc_new v1 _
              have lge := t1.ev.lt
              have lT : ∀ a, T = some a → a.block ≠ v1.heap.size := fun a hA => by have := (OwnC.lt t1.tt a hA).2; omega
              have lF : ∀ a, F = some a → a.block ≠ v1.heap.size := fun a hA => by have := (OwnC.lt t1.ff a hA).2; omega
              have gv : g ≠ v1.heap.size := by have := t1.gw; have := t1.gr.size; omega
              have HLT := Go.Lib.hid lT
              have HLF := Go.Lib.hid lF
              have hal : v1.alloc (.cells #[.string ⟨(textV l'').toArray⟩, .int .i64 0] 52) = v1.alloc (.cells #[.string (tx l''), .int .i64 0] 52) := rfl
              rw [hal]
              clear hal t1 al lT lF
              generalize v1.alloc (.cells #[.string (tx l''), .int .i64 0] 52) = v2 at *
              generalize v1.heap.size = g9 at *
              go_wp2_with fail
              refine (refNum_any g _ _ v2 t2.rd).mono ?_
              rintro e v3 ⟨rfl, hr, hg⟩
              have t3 := t2.read hr hg
              have f3 : FldAt v3 g9 (tx l'', 0) := (hg.block g9 f2.lt (fun e => gv (by injection e with e; exact e.symm))).trans f2
              have z1 := f3.frozen 1
              have p1 := f3.c1
              have t4 := t3.far lge HLT.out HLF.out 1 (.int .i64 (numV (textL l'')))
              have f4 : FldAt (v3.setCell ⟨g9, 1, none⟩ (.int .i64 (numV (textL l'')))) g9 (tx l'', numV (textL l'')) := by
                have h := f3
                unfold FldAt at h ⊢
                simp only [World.setCell, Array.getElem?_modify, h]
                rfl
              clear hr hg t2 t3 f2 f3
              go_upto_region 16 with (fail)
              generalize v3.setCell ⟨g9, 1, none⟩ (.int .i64 (numV (textL l''))) = v4 at *
              clear z1 p1
              have m3 := t4.ev.c3
              have q0 := f4.c0
              have q1 := f4.c1
              have al : Below v4.heap.size v4 (v4.alloc (.cells #[.string (tx l''), .int .i64 (numV (textL l''))] 52)) := (Below.refl _ _).alloc (Nat.le_refl _) _
              have t5 := t4.below al
              have d5 : RdC 2 (v4.alloc (.cells #[.string (tx l''), .int .i64 (numV (textL l''))] 52)) (some ⟨v4.heap.size, 0, none⟩) 1 1 (flds [(tx l'', numV (textL l''))]) := RdC.new v4 52 (flds [(tx l'', numV (textL l''))]) rfl (by decide)
              have big : ge + 1 ≤ (v4.alloc (.cells #[.string (tx l''), .int .i64 (numV (textL l''))] 52)).heap.size := Nat.le_trans t4.ev.lt al.size
              clear f4 t4
              go_wp2_with (at_builtin; refine wpList_append_cells rfl (.tmp 73) (.tmp 75) 24 rfl 52 (.agg #[.string ⟨#[]⟩, .int .i64 0]) 24 Try.underlying24 field_info rfl (by decide) rfl rfl t5.ff d5 (flds_one _) h63 hsz big ?_; intro F6 c6 w6 o6 g6 hloc; obtain ⟨z6, k6, n6⟩ := t5.moreF (fs' := fs ++ [(tx l'', numV (textL l''))]) (by rw [flds_append]; exact o6) g6 hloc)
              go_roundw
              case rel => exact ⟨k + 1, F6, c6, fs ++ [(tx l'', numV (textL l''))], _, _, by omega, by go_num, HGO, by rw [List.length_append, HFS.out]; rfl, HFZ2, n6⟩
              case measure => simp [intOf]; omega
            | false =>
              have hst : takeFlds M (numL l') (numB l' b') = (fs, l'', b'') := by
                have h1 : M - k = 0 ∨ b'' = true := by
                  have h2 := HC.out
                  rw [Bool.and_eq_false_iff] at h2
                  rcases h2 with h2 | h2
                  · left
                    have := of_decide_eq_false h2
                    omega
                  · right
                    simpa using h2
                rw [HQ.out, takeFlds_stop h1]
                simp
              have hTE : takeE l b = if m < 0 ∨ b'' = true ∨ mayE ⟨tx l, tx (textL l), ts, fs⟩ ≠ 0 then none else some (⟨tx l, tx (textL l), ts, fs⟩, l'') := by
                unfold takeE
                simp only
                rw [HL2.out, HB2.out, HN.out, HK.out, HST.out, if_neg HX.out]
                simp only
                rw [HMV.out, HM.out, hst]
              have HTE := Go.Lib.hid hTE
              have kb := va.bad
              clear hst hTE HC HQ
              by_cases m0 : m < 0
              · have hno : takeE l b = none := by rw [HTE.out, if_pos (.inl m0)]
                have HNO := Go.Lib.hid hno
                clear hno
                have hr0 := va.res.c0
                have hr1 := va.res.c1
                have hr2 := va.res.c2
                have hr3 := va.res.c3
                have z0 := va.res.frozen 0
                have z1 := va.res.frozen 1
                have z2 := va.res.frozen 2
                have z3 := va.res.frozen 3
                have hfin := va.fin (.string ⟨#[]⟩) (.string ⟨#[]⟩) (.slice none 0 0) (.slice none 0 0) _ rfl
                have HFIN := Go.Lib.hid hfin
                clear hfin
                go_wp2_with fail
                rcases HFIN.out with ⟨E9, R9, G9, _, _⟩
                generalize ((((wr.setCell ⟨w.heap.size, 0, none⟩ (.string ⟨#[]⟩)).setCell ⟨w.heap.size, 1, none⟩ (.string ⟨#[]⟩)).setCell ⟨w.heap.size, 2, none⟩ (.slice none 0 0)).setCell ⟨w.heap.size, 3, none⟩ (.slice none 0 0)) = w9 at *
                have q0 := E9.c0
                have q1 := E9.c1
                have q2 := E9.c2
                have q3 := E9.c3
                exact bodyPost_ret (v := .tuple #[.agg #[.string ⟨#[]⟩, .string ⟨#[]⟩, .slice none 0 0, .slice none 0 0], .int .i64 2]) (by simp [results, Try.results15, go_sem, q0, q1, q2, q3]) rfl ⟨G9, .inr ⟨HNO.out, rfl, _, _, R9⟩⟩
              cases b'' with
              | true =>
                have hno : takeE l b = none := by rw [HTE.out, if_pos (.inr (.inl rfl))]
                have HNO := Go.Lib.hid hno
                clear hno
                have hr0 := va.res.c0
                have hr1 := va.res.c1
                have hr2 := va.res.c2
                have hr3 := va.res.c3
                have z0 := va.res.frozen 0
                have z1 := va.res.frozen 1
                have z2 := va.res.frozen 2
                have z3 := va.res.frozen 3
                have hfin := va.fin (.string ⟨#[]⟩) (.string ⟨#[]⟩) (.slice none 0 0) (.slice none 0 0) _ rfl
                have HFIN := Go.Lib.hid hfin
                clear hfin
                go_wp2_with fail
                rcases HFIN.out with ⟨E9, R9, G9, _, _⟩
                generalize ((((wr.setCell ⟨w.heap.size, 0, none⟩ (.string ⟨#[]⟩)).setCell ⟨w.heap.size, 1, none⟩ (.string ⟨#[]⟩)).setCell ⟨w.heap.size, 2, none⟩ (.slice none 0 0)).setCell ⟨w.heap.size, 3, none⟩ (.slice none 0 0)) = w9 at *
                have q0 := E9.c0
                have q1 := E9.c1
                have q2 := E9.c2
                have q3 := E9.c3
                exact bodyPost_ret (v := .tuple #[.agg #[.string ⟨#[]⟩, .string ⟨#[]⟩, .slice none 0 0, .slice none 0 0], .int .i64 2]) (by simp [results, Try.results15, go_sem, q0, q1, q2, q3]) rfl ⟨G9, .inr ⟨HNO.out, rfl, _, _, R9⟩⟩
              | false =>
                have e0 := va.ev.c0
                have e1 := va.ev.c1
                have e2 := va.ev.c2
                have e3 := va.ev.c3
                have jv : IsEv wr (.agg #[.string (tx l), .string (tx (textL l)), .slice T j cT, .slice F k cF]) ⟨tx l, tx (textL l), ts, fs⟩ := ⟨_, _, _, _, _, _, rfl, OwnC.rd va.tt, OwnC.rd va.ff⟩
                have hok : EvOk ⟨tx l, tx (textL l), ts, fs⟩ := ⟨HS0.out, HS1.out, HSZ.out, fun f hf => (HFZ.out f hf).1, fun f hf => (HFZ.out f hf).2⟩
                go_wp2_with fail
                refine (refMayE_any _ ⟨tx l, tx (textL l), ts, fs⟩ wr jv hok).mono ?_
                rintro e v1 ⟨rfl, b1⟩
                have vb := va.below b1
                have jw := jv.below b1
                clear e0 e1 e2 e3 b1 va jv kb
                by_cases h0 : mayE ⟨tx l, tx (textL l), ts, fs⟩ = 0
                · rw [h0]
                  have hyes : takeE l b = some (⟨tx l, tx (textL l), ts, fs⟩, l'') := by
                    rw [HTE.out, if_neg]
                    rintro (h | h | h)
                    · omega
                    · cases h
                    · exact h h0
                  have HYES := Go.Lib.hid hyes
                  clear hyes h0
                  have e0 := vb.ev.c0
                  have e1 := vb.ev.c1
                  have e2 := vb.ev.c2
                  have e3 := vb.ev.c3
                  have hr0 := vb.res.c0
                  have hr1 := vb.res.c1
                  have hr2 := vb.res.c2
                  have hr3 := vb.res.c3
                  have z0 := vb.res.frozen 0
                  have z1 := vb.res.frozen 1
                  have z2 := vb.res.frozen 2
                  have z3 := vb.res.frozen 3
                  have hge := vb.we
                  have hfin := vb.fin (.string (tx l)) (.string (tx (textL l))) (.slice T j cT) (.slice F k cF) _ rfl
                  have HFIN := Go.Lib.hid hfin
                  clear hfin
                  go_wp2_with fail
                  obtain ⟨E9, R9, G9, T9, F9⟩ := HFIN.out
                  generalize ((((v1.setCell ⟨w.heap.size, 0, none⟩ (.string (tx l))).setCell ⟨w.heap.size, 1, none⟩ (.string (tx (textL l)))).setCell ⟨w.heap.size, 2, none⟩ (.slice T j cT)).setCell ⟨w.heap.size, 3, none⟩ (.slice F k cF)) = w9 at *
                  have q0 := E9.c0
                  have q1 := E9.c1
                  have q2 := E9.c2
                  have q3 := E9.c3
                  exact bodyPost_ret (v := .tuple #[.agg #[.string (tx l), .string (tx (textL l)), .slice T j cT, .slice F k cF], .int .i64 0]) (by simp [results, Try.results15, go_sem, q0, q1, q2, q3]) rfl ⟨G9, .inl ⟨_, _, HYES.out, _, rfl, ⟨_, _, _, _, _, _, rfl, own_lower T9 (by omega), own_lower F9 (by omega)⟩, R9⟩⟩
                · have hm0 : (mayE ⟨tx l, tx (textL l), ts, fs⟩ != 0) = true := by rw [bne_iff_ne]; exact h0
                  have hno : takeE l b = none := by rw [HTE.out, if_pos (.inr (.inr h0))]
                  have HNO := Go.Lib.hid hno
                  clear hno h0
                  generalize mayE ⟨tx l, tx (textL l), ts, fs⟩ = MM at *
                  have hr0 := vb.res.c0
                  have hr1 := vb.res.c1
                  have hr2 := vb.res.c2
                  have hr3 := vb.res.c3
                  have z0 := vb.res.frozen 0
                  have z1 := vb.res.frozen 1
                  have z2 := vb.res.frozen 2
                  have z3 := vb.res.frozen 3
                  have hfin := vb.fin (.string ⟨#[]⟩) (.string ⟨#[]⟩) (.slice none 0 0) (.slice none 0 0) _ rfl
                  have HFIN := Go.Lib.hid hfin
                  clear hfin
                  go_wp2_with fail
                  rcases HFIN.out with ⟨E9, R9, G9, _, _⟩
                  generalize ((((v1.setCell ⟨w.heap.size, 0, none⟩ (.string ⟨#[]⟩)).setCell ⟨w.heap.size, 1, none⟩ (.string ⟨#[]⟩)).setCell ⟨w.heap.size, 2, none⟩ (.slice none 0 0)).setCell ⟨w.heap.size, 3, none⟩ (.slice none 0 0)) = w9 at *
                  have q0 := E9.c0
                  have q1 := E9.c1
                  have q2 := E9.c2
                  have q3 := E9.c3
                  exact bodyPost_ret (v := .tuple #[.agg #[.string ⟨#[]⟩, .string ⟨#[]⟩, .slice none 0 0, .slice none 0 0], .int .i64 2]) (by simp [results, Try.results15, go_sem, q0, q1, q2, q3]) rfl ⟨G9, .inr ⟨HNO.out, rfl, _, _, R9⟩⟩

end Go.Proofs.Ytjglpmakjampjaa.EcWalk
