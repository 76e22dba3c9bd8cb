/-
  Contract of the document's answer of layer 5: Take: the walk.
-/
import Derived.Deep.DeepCutAuto
import Derived.Lib.AppendZerosOnto
import Derived.OneCell
import Derived.Deep.RegionHeld
import Derived.Deep.QuietTactic
import Derived.BigQuiet
import Derived.Test.YtjoifkmcfenhpaaMg2
namespace Go.Proofs.Ytjoifkmcfenhpaa.EcWalk
open Go.RowKit Go.Proofs.Ytjoifkmcfenhpaa.MemRow Go.Proofs.Ytjoifkmcfenhpaa.Ev Go.Proofs.Ytjoifkmcfenhpaa.NameMath Go.Proofs.Ytjoifkmcfenhpaa.NameWalk Go.Proofs.Ytjoifkmcfenhpaa.EvWalk Go.Proofs.Ytjoifkmcfenhpaa.NumMath Go.Proofs.Ytjoifkmcfenhpaa.NumMem Go.Proofs.Ytjoifkmcfenhpaa.NumWalk

/-- An event, taken from bytes; none, if it is not there or may not be. -/
def takeE (l : List UInt8) (b : Bool) : Option (Ev × List UInt8) :=
  let l1 := textL l
  let b1 := textB l b
  let l2 := textL l1
  let b2 := textB l1 b1
  let tg := takeTags (min (numV l2) 7).toNat (numL l2) (numB l2 b2)
  let l4 := tg.2.1
  let fl := takeFlds (min (numV l4) 5).toNat (numL l4) (numB l4 tg.2.2)
  if numV l2 < 0 ∨ 6 < numV l2 then none
  else if numV l4 < 0 ∨ fl.2.2 = true ∨ mayE ⟨tx l, tx l1, tg.1, fl.1⟩ ≠ 0 then none
  else some (⟨tx l, tx l1, tg.1, fl.1⟩, fl.2.1)

theorem takeTags_stop {k : Nat} {l : List UInt8} {b : Bool} (h : k = 0 ∨ b = true) : takeTags k l b = ([], l, b) := by
  cases k with
  | zero => rfl
  | succ k =>
    rcases h with h | h
    · cases h
    · rw [takeTags, if_pos h]
theorem takeTags_go {k : Nat} {l : List UInt8} : takeTags (k + 1) l false = (tx l :: (takeTags k (textL l) (textB l false)).1, (takeTags k (textL l) (textB l false)).2) := by
  rw [takeTags, if_neg (by decide)]

theorem takeFlds_stop {k : Nat} {l : List UInt8} {b : Bool} (h : k = 0 ∨ b = true) : takeFlds k l b = ([], l, b) := by
  cases k with
  | zero => rfl
  | succ k =>
    rcases h with h | h
    · cases h
    · rw [takeFlds, if_pos h]
theorem takeFlds_go {k : Nat} {l : List UInt8} : takeFlds (k + 1) l false = ((tx l, numV (textL l)) :: (takeFlds k (numL (textL l)) (numB (textL l) (textB l false))).1, (takeFlds k (numL (textL l)) (numB (textL l) (textB l false))).2) := by
  rw [takeFlds, if_neg (by decide)]

theorem tx_size (l : List UInt8) : (tx l).size ≤ l.length := by
  have e : (tx l).size = (textV l).length := by simp [tx, ByteArray.size]
  rw [e]
  unfold textV
  split
  · rw [List.length_take]
    have : (numL l).length ≤ l.length := by
      unfold numL
      split
      · simp
      · rw [List.length_drop]; omega
    omega
  · simp
theorem tx_small {w : World} {T : TypeId} {g : Nat} {l : List UInt8} {b : Bool} (h : Rdr w T g l b) : (tx l).size ≤ maxLen := by
  obtain ⟨A, n, cap, _, hr, _⟩ := h
  have h1 := hr.le
  have h2 := hr.len
  have h3 := tx_size l
  omega
theorem numV_range (l : List UInt8) : -9223372036854775808 ≤ numV l ∧ numV l ≤ 9223372036854775807 := by
  have hu := decU_lt l
  have hv : numV l = unzig (decU l) ∨ numV l = 0 := by
    unfold numV decU
    by_cases h : lenV l = 0
    · right
      rw [if_pos h]
    · left
      rw [if_neg h, if_neg h]
  rcases hv with hv | hv
  · rw [hv]
    unfold unzig
    split <;> omega
  · rw [hv]
    omega

def NoneE (e : Ending) : Prop := e = .returned (.tuple #[.agg #[.string ⟨#[]⟩, .string ⟨#[]⟩, .slice none 0 0, .slice none 0 0], .int .i64 2])
/-- The value v is the event ev, its slices rows of a call's own. -/
def OwnIs (w : World) (base : Nat) (v : Value) (ev : Ev) : Prop :=
  ∃ T nT cT F nF cF, v = .agg #[.string ev.s, .string ev.t, .slice T nT cT, .slice F nF cF] ∧ OwnC 1 w base 9 T nT cT (MemRow.strs ev.tags) ∧ OwnC 2 w base 64 F nF cF (flds ev.fs)
theorem OwnIs.ev {w : World} {base : Nat} {v : Value} {ev : Ev} (h : OwnIs w base v ev) : IsEv w v ev := by
  obtain ⟨T, nT, cT, F, nF, cF, rfl, h1, h2⟩ := h
  exact ⟨_, _, _, _, _, _, rfl, OwnC.rd h1, OwnC.rd h2⟩
theorem own_lower {k : Nat} {w : World} {base base' : Nat} {t : TypeId} {A : Option Addr} {n cap : Nat} {cs : List Value} (h : OwnC k w base t A n cap cs) (hb : base' ≤ base) : OwnC k w base' t A n cap cs := by
  refine ⟨h.1, ?_⟩
  rcases h.2 with h2 | ⟨g, c, cur, hv, hg, rest⟩
  · exact .inl h2
  · exact .inr ⟨g, c, cur, hv, Nat.le_trans hb hg, rest⟩
/-- What taking an event comes to. -/
def TakeOut (l : List UInt8) (b : Bool) (g : Nat) (w : World) (e : Ending) (w' : World) : Prop :=
  w.grownBy w' (some g) ∧ ((∃ ev l', takeE l b = some (ev, l') ∧ ∃ v, e = .returned (.tuple #[v, .int .i64 0]) ∧ OwnIs w' w.heap.size v ev ∧ Rdr w' 52 g l' false) ∨
    (takeE l b = none ∧ NoneE e ∧ ∃ l' b', Rdr w' 52 g l' b'))

set_option maxHeartbeats 4000000 in
set_option maxRecDepth 100000 in
theorem refTake_any (g : Nat) (l : List UInt8) (b : Bool) (w : World) (h : Rdr w 52 g l b) :
    Calls Try.prog 29 #[.pointer (some ⟨g, 0, none⟩)] w (TakeOut l b g w) := by
  have gw := h.lt
  have HS0 := Go.Lib.hid (tx_small h)
  have e1 := EvAt.new w (.string ⟨#[]⟩) (.string ⟨#[]⟩) (.slice none 0 0) (.slice none 0 0)
  have b1 : Below w.heap.size w (w.alloc (.cells #[.string ⟨#[]⟩, .string ⟨#[]⟩, .slice none 0 0, .slice none 0 0] 44)) := (Below.refl _ _).alloc (Nat.le_refl _) _
  have h1 := h.below b1
  have g1 : w.grownBy (w.alloc (.cells #[.string ⟨#[]⟩, .string ⟨#[]⟩, .slice none 0 0, .slice none 0 0] 44)) (some g) := ⟨b1.os, b1.tape, b1.output, b1.size, fun k hk _ => b1.block k hk⟩
  clear h b1
  go_enter Try.func29, Try.ntmps29
  go_upto_region 1 with (fail)
  generalize w.alloc (.cells #[.string ⟨#[]⟩, .string ⟨#[]⟩, .slice none 0 0, .slice none 0 0] 44) = w1 at *
  go_wp2_with fail
  refine (refText_any g l b w1 h1).mono ?_
  rintro e w2 ⟨rfl, h2, gg⟩
  have e2 := e1.grown gg (by simp; omega)
  have g2 := gr_step' g1 gg
  clear h1 e1 g1 gg
  go_upto_region 2 with (fail)
  have e3 := EvAt.new w2 (.string (tx l)) (.string ⟨#[]⟩) (.slice none 0 0) (.slice none 0 0)
  have al : Below w2.heap.size w2 (w2.alloc (.cells #[.string (tx l), .string ⟨#[]⟩, .slice none 0 0, .slice none 0 0] 44)) := (Below.refl _ _).alloc (Nat.le_refl _) _
  have t3 : TakeAt (w2.alloc (.cells #[.string (tx l), .string ⟨#[]⟩, .slice none 0 0, .slice none 0 0] 44)) w g (textL l) (textB l b) w2.heap.size (tx l) ⟨#[]⟩ none 0 0 [] none 0 0 [] :=
    ⟨h2.below al, e2.below al e2.lt, e3, OwnC.nil _ _, OwnC.nil _ _, (fun a c hA _ => by cases hA), gr_step g2 (row := none) ⟨al.os, al.tape, al.output, al.size, fun k hk _ => al.block k hk⟩ (fun r e => by cases e), gw, e2.lt⟩
  have hal : w2.alloc (.cells #[.string ⟨(textV l).toArray⟩, .string ⟨#[]⟩, .slice none 0 0, .slice none 0 0] 44) = w2.alloc (.cells #[.string (tx l), .string ⟨#[]⟩, .slice none 0 0, .slice none 0 0] 44) := rfl
  rw [hal]
  clear hal
  generalize w2.alloc (.cells #[.string (tx l), .string ⟨#[]⟩, .slice none 0 0, .slice none 0 0] 44) = w3 at *
  generalize w2.heap.size = ge at *
  clear h2 e2 g2 e3 al
  go_wp2_with fail
  refine (refText_any g _ _ w3 t3.rd).mono ?_
  rintro e w4 ⟨rfl, h4, gg⟩
  have t4 := t3.read h4 gg
  have HS1 := Go.Lib.hid (tx_small t3.rd)
  have z1 := t4.ev.frozen 1
  have k1 := t4.ev.c1
  have t5 := t4.setS (tx (textL l))
  clear t3 t4 h4 gg
  go_upto_region 3 with (fail)
  have hset : w4.setCell ⟨ge, 1, none⟩ (.string ⟨(textV (textL l)).toArray⟩) = w4.setCell ⟨ge, 1, none⟩ (.string (tx (textL l))) := rfl
  rw [hset]
  generalize w4.setCell ⟨ge, 1, none⟩ (.string (tx (textL l))) = w5 at *
  clear z1 k1 hset
  go_wp2_with fail
  refine (refNum_any g _ _ w5 t5.rd).mono ?_
  rintro e w6 ⟨rfl, h6, gg⟩
  have t6 := t5.read h6 gg
  clear t5 h6 gg
  generalize hl2 : textL (textL l) = l2 at *
  generalize hb2 : textB (textL l) (textB l b) = b2 at *
  generalize hn : numV l2 = n at *
  generalize hK : (min n 7).toNat = K
  have HL2 := Go.Lib.hid hl2
  have HB2 := Go.Lib.hid hb2
  have HN := Go.Lib.hid hn
  have hK1 : ∀ j : Nat, j < K ↔ ((j : Int) < n ∧ (j : Int) ≤ 6) := fun j => by omega
  have HK := Go.Lib.hid hK
  have HK1 := Go.Lib.hid hK1
  clear hl2 hb2 hn hK hK1
  go_wp2_with fail
  go_loopw [6] (fun i wr => ∃ (j : Nat) (T : Option Addr) (cT : Nat) (ts : List ByteArray) (l' : List UInt8) (b' : Bool), j ≤ K ∧ i = .int .i64 j ∧ Hid (takeTags K (numL l2) (numB l2 b2) = (ts ++ (takeTags (K - j) l' b').1, (takeTags (K - j) l' b').2)) ∧ ts.length = j ∧ Hid (∀ x ∈ ts, x.size ≤ maxLen) ∧ TakeAt wr w g l' b' ge (tx l) (tx (textL l)) T j cT ts none 0 0 []) (fun i _ => K - (intOf i).toNat)
  case atStart => exact ⟨0, none, 0, [], numL l2, numB l2 b2, Nat.zero_le _, rfl, Go.Lib.hid (by simp), rfl, Go.Lib.hid (by simp), t6⟩
  case round =>
    obtain ⟨j, T, cT, ts, l', b', hj, rfl, HQ, hts, HSZ, ta⟩ := hrel
    have HTS := Go.Lib.hid hts
    clear hts
    have kb := ta.bad
    go_upto_region 5 with (fail)
    go_cut [31] (fun c wx => c = .bool (decide (j < K) && !b') ∧ wr = wx)
    case first =>
      by_cases i1 : (j : Int) < n
      · by_cases i2 : (j : Int) ≤ 6
        · have hd : decide (j < K) = true := decide_eq_true ((HK1.out j).2 ⟨i1, i2⟩)
          have HD := Go.Lib.hid hd
          clear hd
          go_wp2_with fail
          go_meet
          exact ⟨by rw [HD.out]; rfl, rfl⟩
        · have hd : decide (j < K) = false := decide_eq_false fun h => i2 ((HK1.out j).1 h).2
          have HD := Go.Lib.hid hd
          clear hd
          go_wp2_with fail
          go_meet
          exact ⟨by rw [HD.out]; rfl, rfl⟩
      · have hd : decide (j < K) = false := decide_eq_false fun h => i1 ((HK1.out j).1 h).1
        have HD := Go.Lib.hid hd
        clear hd
        go_wp2_with fail
        go_meet
        exact ⟨by rw [HD.out]; rfl, rfl⟩
    case rest =>
      obtain ⟨rfl, rfl⟩ := hcut
      generalize hc : (decide (j < K) && !b') = c
      have HC := Go.Lib.hid hc
      clear hc kb
      cases c with
      | true =>
        have hjb := HC.out
        rw [Bool.and_eq_true] at hjb
        have hjk : j < K := of_decide_eq_true hjb.1
        obtain rfl : b' = false := by cases b' <;> simp_all
        have hj7 := (HK1.out j).1 hjk
        have i2 := hj7.2
        have td := ta.drew
        have l2c := ta.ev.c2
        have hsz2 : ∀ x ∈ ts ++ [tx l'], x.size ≤ maxLen := by
          intro x hx
          rcases List.mem_append.1 hx with hx | hx
          · exact HSZ.out x hx
          · rw [List.mem_singleton.1 hx]
            exact tx_small ta.rd
        have HSZ2 := Go.Lib.hid hsz2
        clear hsz2
        have h63 : j + 1 ≤ maxLen := by unfold maxLen; omega
        have hsz : (j + 1) * 16 ≤ 140737488355328 := by omega
        have hKj : K - j = K - (j + 1) + 1 := by omega
        have HKJ := Go.Lib.hid hKj
        have hgo : takeTags K (numL l2) (numB l2 b2) = ((ts ++ [tx l']) ++ (takeTags (K - (j + 1)) (textL l') (textB l' false)).1, (takeTags (K - (j + 1)) (textL l') (textB l' false)).2) := by
          rw [HQ.out, HKJ.out, takeTags_go]
          simp
        have HGO := Go.Lib.hid hgo
        clear hjb hj7 hKj hgo HC HQ
        go_upto_region 7 with (fail)
        go_region_law (first
          | (go_simp; go_at_call 53; refine (refText_any g l' false wr.drew td.rd).mono ?_; rintro e v1 ⟨rfl, hr, hg⟩; have t1 := td.read hr hg; have m2 := t1.ev.c2; have al : Below v1.heap.size v1 (v1.alloc (.cells #[.string ⟨(textV l').toArray⟩] 9)) := (Below.refl _ _).alloc (Nat.le_refl _) _; have t2 := t1.below al; have m3 := bcell al m2; have d1 : RdC 1 (v1.alloc (.cells #[.string ⟨(textV l').toArray⟩] 9)) (some ⟨v1.heap.size, 0, none⟩) 1 1 (MemRow.strs [tx l']) := RdC.new v1 9 (MemRow.strs [tx l']) rfl (by decide); have big : ge + 1 ≤ (v1.alloc (.cells #[.string ⟨(textV l').toArray⟩] 9)).heap.size := (Nat.le_trans t1.ev.lt al.size))
          | (refine step_append_cells (by rfl) (.tmp 35) (.tmp 38) 41 rfl 9 (.string ByteArray.empty) 16 Try.underlying41 string_info rfl (by decide) rfl rfl t2.tt d1 (strs_one [tx l']) h63 hsz big ?_; intro T8 c8 w8 o8 g8 _; obtain ⟨z8, k8, n8⟩ := t2.moreT (ts' := ts ++ [tx l']) (by rw [strs_append]; exact o8) g8))
        all_goals
          go_wp2_with fail
          go_roundw
          case rel => exact ⟨j + 1, T8, c8, ts ++ [tx l'], textL l', textB l' false, by omega, by go_num, HGO, by rw [List.length_append, HTS.out]; rfl, HSZ2, n8⟩
          case measure => simp [intOf]; omega
      | false =>
        have hst : takeTags K (numL l2) (numB l2 b2) = (ts, l', b') := by
          have h1 : K - j = 0 ∨ b' = true := by
            have h2 := HC.out
            rw [Bool.and_eq_false_iff] at h2
            rcases h2 with h2 | h2
            · left
              have := of_decide_eq_false h2
              omega
            · right
              simpa using h2
          rw [HQ.out, takeTags_stop h1]
          simp
        have HST := Go.Lib.hid hst
        clear hst HC HQ
        have hTE : (n < 0 ∨ 6 < n) → takeE l b = none := by
          intro hx
          unfold takeE
          simp only
          rw [HL2.out, HN.out, if_pos hx]
        have HTE := Go.Lib.hid hTE
        clear hTE
        by_cases hx : n < 0 ∨ 6 < n
        · have hr0 := ta.res.c0
          have hr1 := ta.res.c1
          have hr2 := ta.res.c2
          have hr3 := ta.res.c3
          have z0 := ta.res.frozen 0
          have z1 := ta.res.frozen 1
          have z2 := ta.res.frozen 2
          have z3 := ta.res.frozen 3
          have hfin := ta.fin (.string ⟨#[]⟩) (.string ⟨#[]⟩) (.slice none 0 0) (.slice none 0 0) _ rfl
          have HFIN := Go.Lib.hid hfin
          have HX := Go.Lib.hid hx
          clear hfin
          rcases hx with hx | hx
          · go_wp2_with fail
            obtain ⟨E9, R9, G9, _, _⟩ := HFIN.out
            generalize ((((wr.setCell ⟨w.heap.size, 0, none⟩ (.string ⟨#[]⟩)).setCell ⟨w.heap.size, 1, none⟩ (.string ⟨#[]⟩)).setCell ⟨w.heap.size, 2, none⟩ (.slice none 0 0)).setCell ⟨w.heap.size, 3, none⟩ (.slice none 0 0)) = w9 at *
            have q0 := E9.c0
            have q1 := E9.c1
            have q2 := E9.c2
            have q3 := E9.c3
            exact bodyPost_ret (v := .tuple #[.agg #[.string ⟨#[]⟩, .string ⟨#[]⟩, .slice none 0 0, .slice none 0 0], .int .i64 2]) (by simp [results, Try.results29, go_sem, q0, q1, q2, q3]) rfl ⟨G9, .inr ⟨HTE.out HX.out, rfl, _, _, R9⟩⟩
          · have hn0 : ¬ n < 0 := by omega
            go_wp2_with fail
            obtain ⟨E9, R9, G9, _, _⟩ := HFIN.out
            generalize ((((wr.setCell ⟨w.heap.size, 0, none⟩ (.string ⟨#[]⟩)).setCell ⟨w.heap.size, 1, none⟩ (.string ⟨#[]⟩)).setCell ⟨w.heap.size, 2, none⟩ (.slice none 0 0)).setCell ⟨w.heap.size, 3, none⟩ (.slice none 0 0)) = w9 at *
            have q0 := E9.c0
            have q1 := E9.c1
            have q2 := E9.c2
            have q3 := E9.c3
            exact bodyPost_ret (v := .tuple #[.agg #[.string ⟨#[]⟩, .string ⟨#[]⟩, .slice none 0 0, .slice none 0 0], .int .i64 2]) (by simp [results, Try.results29, go_sem, q0, q1, q2, q3]) rfl ⟨G9, .inr ⟨HTE.out HX.out, rfl, _, _, R9⟩⟩
        have hx1 : ¬ n < 0 := fun h => hx (.inl h)
        have hx2 : ¬ 6 < n := fun h => hx (.inr h)
        have HX := Go.Lib.hid hx
        clear hx HTE
        go_wp2_with fail
        refine (refNum_any g l' b' wr ta.rd).mono ?_
        rintro e u1 ⟨rfl, hr, hg⟩
        have ua := ta.read hr hg
        clear hr hg ta t6
        generalize hm : numV l' = m at *
        generalize hM : (min m 5).toNat = M
        have HMV := Go.Lib.hid hm
        have hM1 : ∀ k : Nat, k < M ↔ ((k : Int) < m ∧ (k : Int) ≤ 4) := fun k => by omega
        have HM := Go.Lib.hid hM
        have HM1 := Go.Lib.hid hM1
        clear hm hM hM1
        go_wp2_with fail
        go_loopw [8, 9] (fun i _ wq => ∃ (k : Nat) (F : Option Addr) (cF : Nat) (fs : List (ByteArray × Int)) (l'' : List UInt8) (b'' : Bool), k ≤ M ∧ i = .int .i64 k ∧ Hid (takeFlds M (numL l') (numB l' b') = (fs ++ (takeFlds (M - k) l'' b'').1, (takeFlds (M - k) l'' b'').2)) ∧ fs.length = k ∧ Hid (∀ f ∈ fs, f.1.size ≤ maxLen ∧ -9223372036854775808 ≤ f.2 ∧ f.2 ≤ 9223372036854775807) ∧ TakeAt wq w g l'' b'' ge (tx l) (tx (textL l)) T j cT ts F k cF fs) (fun i _ _ => M - (intOf i).toNat)
        case atStart => exact ⟨0, none, 0, [], numL l', numB l' b', Nat.zero_le _, rfl, Go.Lib.hid (by simp), rfl, Go.Lib.hid (by simp), ua⟩
        case round =>
          obtain ⟨k, F, cF, fs, l'', b'', hk, rfl, HQ, hfs, HFZ, va⟩ := hrel
          have HFS := Go.Lib.hid hfs
          clear hfs
          have kb := va.bad
          go_upto_region 12 with (fail)
          go_cut [63] (fun c wx => c = .bool (decide (k < M) && !b'') ∧ wr = wx)
          case first =>
            by_cases i1 : (k : Int) < m
            · by_cases i2 : (k : Int) ≤ 4
              · have hd : decide (k < M) = true := decide_eq_true ((HM1.out k).2 ⟨i1, i2⟩)
                have HD := Go.Lib.hid hd
                clear hd
                go_wp2_with fail
                go_meet
                exact ⟨by rw [HD.out]; rfl, rfl⟩
              · have hd : decide (k < M) = false := decide_eq_false fun h => i2 ((HM1.out k).1 h).2
                have HD := Go.Lib.hid hd
                clear hd
                go_wp2_with fail
                go_meet
                exact ⟨by rw [HD.out]; rfl, rfl⟩
            · have hd : decide (k < M) = false := decide_eq_false fun h => i1 ((HM1.out k).1 h).1
              have HD := Go.Lib.hid hd
              clear hd
              go_wp2_with fail
              go_meet
              exact ⟨by rw [HD.out]; rfl, rfl⟩
          case rest =>
            obtain ⟨rfl, rfl⟩ := hcut
            generalize hc : (decide (k < M) && !b'') = c
            have HC := Go.Lib.hid hc
            clear hc kb
            cases c with
            | true =>
              have hjb := HC.out
              rw [Bool.and_eq_true] at hjb
              have hjk : k < M := of_decide_eq_true hjb.1
              obtain rfl : b'' = false := by cases b'' <;> simp_all
              have hj7 := (HM1.out k).1 hjk
              have i2 := hj7.2
              have hfz2 : ∀ f ∈ fs ++ [(tx l'', numV (textL l''))], f.1.size ≤ maxLen ∧ -9223372036854775808 ≤ f.2 ∧ f.2 ≤ 9223372036854775807 := by
                intro f hf
                rcases List.mem_append.1 hf with hf | hf
                · exact HFZ.out f hf
                · rw [List.mem_singleton.1 hf]
                  exact ⟨tx_small va.rd, numV_range _⟩
              have HFZ2 := Go.Lib.hid hfz2
              clear hfz2
              have h63 : k + 1 ≤ maxLen := by unfold maxLen; omega
              have hsz : (k + 1) * 24 ≤ 140737488355328 := by omega
              have hKj : M - k = M - (k + 1) + 1 := by omega
              have HKJ := Go.Lib.hid hKj
              have hgo : takeFlds M (numL l') (numB l' b') = ((fs ++ [(tx l'', numV (textL l''))]) ++ (takeFlds (M - (k + 1)) (numL (textL l'')) (numB (textL l'') (textB l'' false))).1, (takeFlds (M - (k + 1)) (numL (textL l'')) (numB (textL l'') (textB l'' false))).2) := by
                rw [HQ.out, HKJ.out, takeFlds_go]
                simp
              have HGO := Go.Lib.hid hgo
              clear hjb hj7 hKj hgo HC HQ ua
              go_wp2_with fail
              refine (refText_any g l'' false wr va.rd).mono ?_
              rintro e v1 ⟨rfl, hr, hg⟩
              have t1 := va.read hr hg
              clear hr hg va
              go_upto_region 15 with (fail)
              have al : Below v1.heap.size v1 (v1.alloc (.cells #[.string (tx l''), .int .i64 0] 64)) := (Below.refl _ _).alloc (Nat.le_refl _) _
              have t2 := t1.below al
              have f2 : FldAt (v1.alloc (.cells #[.string (tx l''), .int .i64 0] 64)) v1.heap.size (tx l'', 0) := heap_alloc_new v1 _
              have lge := t1.ev.lt
              have lT : ∀ a, T = some a → a.block ≠ v1.heap.size := fun a hA => by have := (OwnC.lt t1.tt a hA).2; omega
              have lF : ∀ a, F = some a → a.block ≠ v1.heap.size := fun a hA => by have := (OwnC.lt t1.ff a hA).2; omega
              have gv : g ≠ v1.heap.size := by have := t1.gw; have := t1.gr.size; omega
              have HLT := Go.Lib.hid lT
              have HLF := Go.Lib.hid lF
              have hal : v1.alloc (.cells #[.string ⟨(textV l'').toArray⟩, .int .i64 0] 64) = v1.alloc (.cells #[.string (tx l''), .int .i64 0] 64) := rfl
              rw [hal]
              clear hal t1 al lT lF
              generalize v1.alloc (.cells #[.string (tx l''), .int .i64 0] 64) = v2 at *
              generalize v1.heap.size = g9 at *
              go_wp2_with fail
              refine (refNum_any g _ _ v2 t2.rd).mono ?_
              rintro e v3 ⟨rfl, hr, hg⟩
              have t3 := t2.read hr hg
              have f3 : FldAt v3 g9 (tx l'', 0) := (hg.block g9 f2.lt (fun e => gv (by injection e with e; exact e.symm))).trans f2
              have z1 := f3.frozen 1
              have p1 := f3.c1
              have t4 := t3.far lge HLT.out HLF.out 1 (.int .i64 (numV (textL l'')))
              have f4 : FldAt (v3.setCell ⟨g9, 1, none⟩ (.int .i64 (numV (textL l'')))) g9 (tx l'', numV (textL l'')) := by
                have h := f3
                unfold FldAt at h ⊢
                simp only [World.setCell, Array.getElem?_modify, h]
                rfl
              clear hr hg t2 t3 f2 f3
              go_upto_region 16 with (fail)
              generalize v3.setCell ⟨g9, 1, none⟩ (.int .i64 (numV (textL l''))) = v4 at *
              clear z1 p1
              have m3 := t4.ev.c3
              have q0 := f4.c0
              have q1 := f4.c1
              have al : Below v4.heap.size v4 (v4.alloc (.cells #[.string (tx l''), .int .i64 (numV (textL l''))] 64)) := (Below.refl _ _).alloc (Nat.le_refl _) _
              have t5 := t4.below al
              have d5 : RdC 2 (v4.alloc (.cells #[.string (tx l''), .int .i64 (numV (textL l''))] 64)) (some ⟨v4.heap.size, 0, none⟩) 1 1 (flds [(tx l'', numV (textL l''))]) := RdC.new v4 64 (flds [(tx l'', numV (textL l''))]) rfl (by decide)
              have big : ge + 1 ≤ (v4.alloc (.cells #[.string (tx l''), .int .i64 (numV (textL l''))] 64)).heap.size := Nat.le_trans t4.ev.lt al.size
              clear f4 t4
              go_wp2_with (at_builtin; refine wpList_append_cells rfl (.tmp 73) (.tmp 75) 42 rfl 64 (.agg #[.string ⟨#[]⟩, .int .i64 0]) 24 Try.underlying42 field_info rfl (by decide) rfl rfl t5.ff d5 (flds_one _) h63 hsz big ?_; intro F6 c6 w6 o6 g6 hloc; obtain ⟨z6, k6, n6⟩ := t5.moreF (fs' := fs ++ [(tx l'', numV (textL l''))]) (by rw [flds_append]; exact o6) g6 hloc)
              go_roundw
              case rel => exact ⟨k + 1, F6, c6, fs ++ [(tx l'', numV (textL l''))], _, _, by omega, by go_num, HGO, by rw [List.length_append, HFS.out]; rfl, HFZ2, n6⟩
              case measure => simp [intOf]; omega
            | false =>
              have hst : takeFlds M (numL l') (numB l' b') = (fs, l'', b'') := by
                have h1 : M - k = 0 ∨ b'' = true := by
                  have h2 := HC.out
                  rw [Bool.and_eq_false_iff] at h2
                  rcases h2 with h2 | h2
                  · left
                    have := of_decide_eq_false h2
                    omega
                  · right
                    simpa using h2
                rw [HQ.out, takeFlds_stop h1]
                simp
              have hTE : takeE l b = if m < 0 ∨ b'' = true ∨ mayE ⟨tx l, tx (textL l), ts, fs⟩ ≠ 0 then none else some (⟨tx l, tx (textL l), ts, fs⟩, l'') := by
                unfold takeE
                simp only
                rw [HL2.out, HB2.out, HN.out, HK.out, HST.out, if_neg HX.out]
                simp only
                rw [HMV.out, HM.out, hst]
              have HTE := Go.Lib.hid hTE
              have kb := va.bad
              clear hst hTE HC HQ
              by_cases m0 : m < 0
              · have hno : takeE l b = none := by rw [HTE.out, if_pos (.inl m0)]
                have HNO := Go.Lib.hid hno
                clear hno
                have hr0 := va.res.c0
                have hr1 := va.res.c1
                have hr2 := va.res.c2
                have hr3 := va.res.c3
                have z0 := va.res.frozen 0
                have z1 := va.res.frozen 1
                have z2 := va.res.frozen 2
                have z3 := va.res.frozen 3
                have hfin := va.fin (.string ⟨#[]⟩) (.string ⟨#[]⟩) (.slice none 0 0) (.slice none 0 0) _ rfl
                have HFIN := Go.Lib.hid hfin
                clear hfin
                go_wp2_with fail
                rcases HFIN.out with ⟨E9, R9, G9, _, _⟩
                generalize ((((wr.setCell ⟨w.heap.size, 0, none⟩ (.string ⟨#[]⟩)).setCell ⟨w.heap.size, 1, none⟩ (.string ⟨#[]⟩)).setCell ⟨w.heap.size, 2, none⟩ (.slice none 0 0)).setCell ⟨w.heap.size, 3, none⟩ (.slice none 0 0)) = w9 at *
                have q0 := E9.c0
                have q1 := E9.c1
                have q2 := E9.c2
                have q3 := E9.c3
                exact bodyPost_ret (v := .tuple #[.agg #[.string ⟨#[]⟩, .string ⟨#[]⟩, .slice none 0 0, .slice none 0 0], .int .i64 2]) (by simp [results, Try.results29, go_sem, q0, q1, q2, q3]) rfl ⟨G9, .inr ⟨HNO.out, rfl, _, _, R9⟩⟩
              cases b'' with
              | true =>
                have hno : takeE l b = none := by rw [HTE.out, if_pos (.inr (.inl rfl))]
                have HNO := Go.Lib.hid hno
                clear hno
                have hr0 := va.res.c0
                have hr1 := va.res.c1
                have hr2 := va.res.c2
                have hr3 := va.res.c3
                have z0 := va.res.frozen 0
                have z1 := va.res.frozen 1
                have z2 := va.res.frozen 2
                have z3 := va.res.frozen 3
                have hfin := va.fin (.string ⟨#[]⟩) (.string ⟨#[]⟩) (.slice none 0 0) (.slice none 0 0) _ rfl
                have HFIN := Go.Lib.hid hfin
                clear hfin
                go_wp2_with fail
                rcases HFIN.out with ⟨E9, R9, G9, _, _⟩
                generalize ((((wr.setCell ⟨w.heap.size, 0, none⟩ (.string ⟨#[]⟩)).setCell ⟨w.heap.size, 1, none⟩ (.string ⟨#[]⟩)).setCell ⟨w.heap.size, 2, none⟩ (.slice none 0 0)).setCell ⟨w.heap.size, 3, none⟩ (.slice none 0 0)) = w9 at *
                have q0 := E9.c0
                have q1 := E9.c1
                have q2 := E9.c2
                have q3 := E9.c3
                exact bodyPost_ret (v := .tuple #[.agg #[.string ⟨#[]⟩, .string ⟨#[]⟩, .slice none 0 0, .slice none 0 0], .int .i64 2]) (by simp [results, Try.results29, go_sem, q0, q1, q2, q3]) rfl ⟨G9, .inr ⟨HNO.out, rfl, _, _, R9⟩⟩
              | false =>
                have e0 := va.ev.c0
                have e1 := va.ev.c1
                have e2 := va.ev.c2
                have e3 := va.ev.c3
                have jv : IsEv wr (.agg #[.string (tx l), .string (tx (textL l)), .slice T j cT, .slice F k cF]) ⟨tx l, tx (textL l), ts, fs⟩ := ⟨_, _, _, _, _, _, rfl, OwnC.rd va.tt, OwnC.rd va.ff⟩
                have hok : EvOk ⟨tx l, tx (textL l), ts, fs⟩ := ⟨HS0.out, HS1.out, HSZ.out, fun f hf => (HFZ.out f hf).1, fun f hf => (HFZ.out f hf).2⟩
                go_wp2_with fail
                refine (refMayE_any _ ⟨tx l, tx (textL l), ts, fs⟩ wr jv hok).mono ?_
                rintro e v1 ⟨rfl, b1⟩
                have vb := va.below b1
                have jw := jv.below b1
                clear e0 e1 e2 e3 b1 va jv kb
                by_cases h0 : mayE ⟨tx l, tx (textL l), ts, fs⟩ = 0
                · rw [h0]
                  have hyes : takeE l b = some (⟨tx l, tx (textL l), ts, fs⟩, l'') := by
                    rw [HTE.out, if_neg]
                    rintro (h | h | h)
                    · omega
                    · cases h
                    · exact h h0
                  have HYES := Go.Lib.hid hyes
                  clear hyes h0
                  have e0 := vb.ev.c0
                  have e1 := vb.ev.c1
                  have e2 := vb.ev.c2
                  have e3 := vb.ev.c3
                  have hr0 := vb.res.c0
                  have hr1 := vb.res.c1
                  have hr2 := vb.res.c2
                  have hr3 := vb.res.c3
                  have z0 := vb.res.frozen 0
                  have z1 := vb.res.frozen 1
                  have z2 := vb.res.frozen 2
                  have z3 := vb.res.frozen 3
                  have hge := vb.we
                  have hfin := vb.fin (.string (tx l)) (.string (tx (textL l))) (.slice T j cT) (.slice F k cF) _ rfl
                  have HFIN := Go.Lib.hid hfin
                  clear hfin
                  go_wp2_with fail
                  obtain ⟨E9, R9, G9, T9, F9⟩ := HFIN.out
                  generalize ((((v1.setCell ⟨w.heap.size, 0, none⟩ (.string (tx l))).setCell ⟨w.heap.size, 1, none⟩ (.string (tx (textL l)))).setCell ⟨w.heap.size, 2, none⟩ (.slice T j cT)).setCell ⟨w.heap.size, 3, none⟩ (.slice F k cF)) = w9 at *
                  have q0 := E9.c0
                  have q1 := E9.c1
                  have q2 := E9.c2
                  have q3 := E9.c3
                  exact bodyPost_ret (v := .tuple #[.agg #[.string (tx l), .string (tx (textL l)), .slice T j cT, .slice F k cF], .int .i64 0]) (by simp [results, Try.results29, go_sem, q0, q1, q2, q3]) rfl ⟨G9, .inl ⟨_, _, HYES.out, _, rfl, ⟨_, _, _, _, _, _, rfl, own_lower T9 (by omega), own_lower F9 (by omega)⟩, R9⟩⟩
                · have hm0 : (mayE ⟨tx l, tx (textL l), ts, fs⟩ != 0) = true := by rw [bne_iff_ne]; exact h0
                  have hno : takeE l b = none := by rw [HTE.out, if_pos (.inr (.inr h0))]
                  have HNO := Go.Lib.hid hno
                  clear hno h0
                  generalize mayE ⟨tx l, tx (textL l), ts, fs⟩ = MM at *
                  have hr0 := vb.res.c0
                  have hr1 := vb.res.c1
                  have hr2 := vb.res.c2
                  have hr3 := vb.res.c3
                  have z0 := vb.res.frozen 0
                  have z1 := vb.res.frozen 1
                  have z2 := vb.res.frozen 2
                  have z3 := vb.res.frozen 3
                  have hfin := vb.fin (.string ⟨#[]⟩) (.string ⟨#[]⟩) (.slice none 0 0) (.slice none 0 0) _ rfl
                  have HFIN := Go.Lib.hid hfin
                  clear hfin
                  go_wp2_with fail
                  rcases HFIN.out with ⟨E9, R9, G9, _, _⟩
                  generalize ((((v1.setCell ⟨w.heap.size, 0, none⟩ (.string ⟨#[]⟩)).setCell ⟨w.heap.size, 1, none⟩ (.string ⟨#[]⟩)).setCell ⟨w.heap.size, 2, none⟩ (.slice none 0 0)).setCell ⟨w.heap.size, 3, none⟩ (.slice none 0 0)) = w9 at *
                  have q0 := E9.c0
                  have q1 := E9.c1
                  have q2 := E9.c2
                  have q3 := E9.c3
                  exact bodyPost_ret (v := .tuple #[.agg #[.string ⟨#[]⟩, .string ⟨#[]⟩, .slice none 0 0, .slice none 0 0], .int .i64 2]) (by simp [results, Try.results29, go_sem, q0, q1, q2, q3]) rfl ⟨G9, .inr ⟨HNO.out, rfl, _, _, R9⟩⟩

end Go.Proofs.Ytjoifkmcfenhpaa.EcWalk

/-
  Mathematics of layer 5: what was laid down is taken as it was.
-/
namespace Go.Proofs.Ytjoifkmcfenhpaa.EcWalk
open Go.RowKit Go.Proofs.Ytjoifkmcfenhpaa.MemRow Go.Proofs.Ytjoifkmcfenhpaa.Ev Go.Proofs.Ytjoifkmcfenhpaa.NameMath Go.Proofs.Ytjoifkmcfenhpaa.NameWalk Go.Proofs.Ytjoifkmcfenhpaa.EvWalk Go.Proofs.Ytjoifkmcfenhpaa.NumMath Go.Proofs.Ytjoifkmcfenhpaa.NumMem Go.Proofs.Ytjoifkmcfenhpaa.NumWalk

theorem num_enc (x : Int) (h : -9223372036854775808 ≤ x ∧ x ≤ 9223372036854775807) (rest : List UInt8) (b : Bool) : numV (enc x ++ rest) = x ∧ numL (enc x ++ rest) = rest ∧ numB (enc x ++ rest) b = b := by
  obtain ⟨h1, h2⟩ := numV_enc x h.1 h.2 rest
  have h3 := enc_pos x
  have h4 : ¬ lenV (enc x ++ rest) = 0 := by omega
  refine ⟨h2, ?_, ?_⟩
  · unfold numL
    rw [if_neg h4, h1, List.drop_left]
  · unfold numB
    rw [if_neg h4]
theorem text_txt (s : ByteArray) (hs : s.size ≤ 1000) (rest : List UInt8) (b : Bool) : tx (txt s ++ rest) = s ∧ textL (txt s ++ rest) = rest ∧ textB (txt s ++ rest) b = b := by
  have e : txt s ++ rest = enc (s.size : Int) ++ (s.data.toList ++ rest) := by rw [txt, List.append_assoc]
  obtain ⟨h1, h2, h3⟩ := num_enc (s.size : Int) (by omega) (s.data.toList ++ rest) b
  have hz := size_list s
  have hok : textOk (txt s ++ rest) := by
    unfold textOk
    rw [e, h1, h2, List.length_append]
    omega
  refine ⟨?_, ?_, ?_⟩
  · unfold tx textV
    rw [if_pos hok, e, h1, h2, Int.toNat_natCast, hz, List.take_left]
  · unfold textL
    rw [if_pos hok, e, h1, h2, Int.toNat_natCast, hz, List.drop_left]
  · unfold textB
    rw [if_pos hok, e, h3]
theorem takeTags_txts (ts : List ByteArray) (h : ∀ x ∈ ts, x.size ≤ 1000) (rest : List UInt8) : takeTags ts.length (txts ts ++ rest) false = (ts, rest, false) := by
  induction ts with
  | nil => simp [takeTags, txts]
  | cons s ts ih =>
    have e : txts (s :: ts) ++ rest = txt s ++ (txts ts ++ rest) := by simp [txts, List.append_assoc]
    obtain ⟨h1, h2, h3⟩ := text_txt s (h s (by simp)) (txts ts ++ rest) false
    rw [List.length_cons, takeTags_go, e, h1, h2, h3, ih fun x hx => h x (by simp [hx])]
theorem takeFlds_fldsE (fs : List (ByteArray × Int)) (h : ∀ f ∈ fs, f.1.size ≤ 1000) (hz : ∀ f ∈ fs, -9223372036854775808 ≤ f.2 ∧ f.2 ≤ 9223372036854775807) (rest : List UInt8) : takeFlds fs.length (fldsE fs ++ rest) false = (fs, rest, false) := by
  induction fs with
  | nil => simp [takeFlds, fldsE]
  | cons f fs ih =>
    have e : fldsE (f :: fs) ++ rest = txt f.1 ++ (enc f.2 ++ (fldsE fs ++ rest)) := by simp [fldsE, fldE, List.append_assoc]
    obtain ⟨h1, h2, h3⟩ := text_txt f.1 (h f (by simp)) (enc f.2 ++ (fldsE fs ++ rest)) false
    obtain ⟨k1, k2, k3⟩ := num_enc f.2 (hz f (by simp)) (fldsE fs ++ rest) false
    rw [List.length_cons, takeFlds_go, e, h1, h2, h3, k1, k2, k3, ih (fun x hx => h x (by simp [hx])) (fun x hx => hz x (by simp [hx]))]

/-- What was laid down is taken as it was. -/
theorem takeE_encE {e : Ev} (h : mayE e = 0) (rest : List UInt8) : takeE (encE e ++ rest) false = some (e, rest) := by
  have sm := may_smallE h
  have a0 : encE e ++ rest = txt e.s ++ (txt e.t ++ (enc (e.tags.length : Int) ++ (txts e.tags ++ (enc (e.fs.length : Int) ++ (fldsE e.fs ++ rest))))) := by simp only [encE, List.append_assoc]
  have hnt := sm.nt
  have hnf := sm.nf
  obtain ⟨s1, s2, s3⟩ := text_txt e.s (by have := sm.s; omega) (txt e.t ++ (enc (e.tags.length : Int) ++ (txts e.tags ++ (enc (e.fs.length : Int) ++ (fldsE e.fs ++ rest))))) false
  obtain ⟨t1, t2, t3⟩ := text_txt e.t (by have := sm.t; omega) (enc (e.tags.length : Int) ++ (txts e.tags ++ (enc (e.fs.length : Int) ++ (fldsE e.fs ++ rest)))) false
  obtain ⟨n1, n2, n3⟩ := num_enc (e.tags.length : Int) (by omega) (txts e.tags ++ (enc (e.fs.length : Int) ++ (fldsE e.fs ++ rest))) false
  obtain ⟨m1, m2, m3⟩ := num_enc (e.fs.length : Int) (by omega) (fldsE e.fs ++ rest) false
  have hT := takeTags_txts e.tags (fun x hx => by have := sm.tags x hx; omega) (enc (e.fs.length : Int) ++ (fldsE e.fs ++ rest))
  have hF := takeFlds_fldsE e.fs (fun f hf => by have := sm.names f hf; omega) (fun f hf => by have := sm.nums f hf; omega) rest
  have k1 : (min (e.tags.length : Int) 7).toNat = e.tags.length := by omega
  have k2 : (min (e.fs.length : Int) 5).toNat = e.fs.length := by omega
  unfold takeE
  simp only
  rw [a0, s1, s2, s3, t1, t2, t3, n1, n2, n3, k1, hT]
  simp only
  rw [m1, m2, m3, k2, hF]
  simp only
  rw [if_neg (by omega), if_neg]
  rintro (h1 | h1 | h1)
  · omega
  · cases h1
  · exact h1 h

end Go.Proofs.Ytjoifkmcfenhpaa.EcWalk

/-
  Mathematics of layer 5: all events of some bytes.
-/
namespace Go.Proofs.Ytjoifkmcfenhpaa.EcWalk
open Go.RowKit Go.Proofs.Ytjoifkmcfenhpaa.MemRow Go.Proofs.Ytjoifkmcfenhpaa.Ev Go.Proofs.Ytjoifkmcfenhpaa.NameMath Go.Proofs.Ytjoifkmcfenhpaa.NameWalk Go.Proofs.Ytjoifkmcfenhpaa.EvWalk Go.Proofs.Ytjoifkmcfenhpaa.NumMath Go.Proofs.Ytjoifkmcfenhpaa.NumMem Go.Proofs.Ytjoifkmcfenhpaa.NumWalk

theorem numL_le (l : List UInt8) : (numL l).length ≤ l.length := by
  unfold numL
  split
  · simp
  · rw [List.length_drop]; omega
theorem numB_good {l : List UInt8} {b : Bool} (h : numB l b = false) : b = false ∧ (numL l).length < l.length := by
  unfold numB at h
  split at h
  · cases h
  · next hl =>
    refine ⟨h, ?_⟩
    have := lenV_le l
    unfold numL
    rw [if_neg hl, List.length_drop]
    omega
theorem textL_le (l : List UInt8) : (textL l).length ≤ l.length := by
  unfold textL
  split
  · rw [List.length_drop]
    have := numL_le l
    omega
  · simp
theorem textB_good {l : List UInt8} {b : Bool} (h : textB l b = false) : b = false ∧ (textL l).length < l.length := by
  unfold textB at h
  split at h
  · next hok =>
    obtain ⟨h1, h2⟩ := numB_good h
    refine ⟨h1, ?_⟩
    unfold textL
    rw [if_pos hok, List.length_drop]
    omega
  · cases h
theorem takeTags_le (k : Nat) : ∀ (l : List UInt8) (b : Bool), (takeTags k l b).2.1.length ≤ l.length ∧ ((takeTags k l b).2.2 = false → b = false) := by
  induction k with
  | zero => intro l b; exact ⟨Nat.le_refl _, fun h => h⟩
  | succ k ih =>
    intro l b
    unfold takeTags
    split
    · next hb => exact ⟨Nat.le_refl _, fun h => h⟩
    · obtain ⟨h1, h2⟩ := ih (textL l) (textB l b)
      have h3 := textL_le l
      exact ⟨by simp only; omega, fun h => (textB_good (h2 h)).1⟩
theorem takeFlds_le (k : Nat) : ∀ (l : List UInt8) (b : Bool), (takeFlds k l b).2.1.length ≤ l.length ∧ ((takeFlds k l b).2.2 = false → b = false) := by
  induction k with
  | zero => intro l b; exact ⟨Nat.le_refl _, fun h => h⟩
  | succ k ih =>
    intro l b
    unfold takeFlds
    split
    · next hb => exact ⟨Nat.le_refl _, fun h => h⟩
    · obtain ⟨h1, h2⟩ := ih (numL (textL l)) (numB (textL l) (textB l b))
      have h3 := textL_le l
      have h4 := numL_le (textL l)
      exact ⟨by simp only; omega, fun h => (textB_good (numB_good (h2 h)).1).1⟩

/-- An event takes at least one byte. -/
theorem takeE_lt {l l' : List UInt8} {b : Bool} {e : Ev} (h : takeE l b = some (e, l')) : l'.length < l.length := by
  unfold takeE at h
  simp only at h
  split at h
  · cases h
  · split at h
    · cases h
    · next hx =>
      simp only [Option.some.injEq, Prod.mk.injEq] at h
      obtain ⟨_, h⟩ := h
      rw [← h]
      have hb : (takeFlds (min (numV (takeTags (min (numV (textL (textL l))) 7).toNat (numL (textL (textL l))) (numB (textL (textL l)) (textB (textL l) (textB l b)))).2.1) 5).toNat (numL (takeTags (min (numV (textL (textL l))) 7).toNat (numL (textL (textL l))) (numB (textL (textL l)) (textB (textL l) (textB l b)))).2.1) (numB (takeTags (min (numV (textL (textL l))) 7).toNat (numL (textL (textL l))) (numB (textL (textL l)) (textB (textL l) (textB l b)))).2.1 (takeTags (min (numV (textL (textL l))) 7).toNat (numL (textL (textL l))) (numB (textL (textL l)) (textB (textL l) (textB l b)))).2.2)).2.2 = false := by
        cases hc : (takeFlds _ _ _).2.2 with
        | false => rfl
        | true => exact absurd (.inr (.inl hc)) hx
      obtain ⟨f1, f2⟩ := takeFlds_le (min (numV (takeTags (min (numV (textL (textL l))) 7).toNat (numL (textL (textL l))) (numB (textL (textL l)) (textB (textL l) (textB l b)))).2.1) 5).toNat (numL (takeTags (min (numV (textL (textL l))) 7).toNat (numL (textL (textL l))) (numB (textL (textL l)) (textB (textL l) (textB l b)))).2.1) (numB (takeTags (min (numV (textL (textL l))) 7).toNat (numL (textL (textL l))) (numB (textL (textL l)) (textB (textL l) (textB l b)))).2.1 (takeTags (min (numV (textL (textL l))) 7).toNat (numL (textL (textL l))) (numB (textL (textL l)) (textB (textL l) (textB l b)))).2.2)
      have g1 := numB_good (f2 hb)
      obtain ⟨t1, t2⟩ := takeTags_le (min (numV (textL (textL l))) 7).toNat (numL (textL (textL l))) (numB (textL (textL l)) (textB (textL l) (textB l b)))
      have g2 := numB_good (t2 g1.1)
      have g3 := textB_good g2.1
      have g4 := textB_good g3.1
      omega

/-- All events of some bytes; none, if one of them cannot be taken. -/
def allE : Nat → List UInt8 → Option (List Ev)
  | 0, l => if l = [] then some [] else none
  | k + 1, l => if l = [] then some [] else match takeE l false with
    | none => none
    | some p => (allE k p.2).map (p.1 :: ·)
theorem allE_nil (k : Nat) : allE k [] = some [] := by cases k <;> simp [allE]
/-- How much is tried does not tell, if it is enough. -/
theorem allE_more : ∀ (k : Nat) (l : List UInt8), l.length ≤ k → allE (k + 1) l = allE k l
  | 0, l, h => by
    obtain rfl : l = [] := List.length_eq_zero_iff.1 (by omega)
    rw [allE_nil, allE_nil]
  | k + 1, l, h => by
    by_cases hl : l = []
    · rw [hl, allE_nil, allE_nil]
    · rw [allE, if_neg hl]
      conv => rhs; rw [allE, if_neg hl]
      cases ht : takeE l false with
      | none => rfl
      | some p =>
        have := takeE_lt (l' := p.2) (e := p.1) ht
        simp only
        rw [allE_more k p.2 (by omega)]
theorem enc_pos' (e : Ev) : 1 ≤ (encE e).length := by
  have h := enc_pos (e.s.size : Int)
  unfold encE txt
  simp only [List.length_append]
  omega
/-- Events that were laid down one behind the other are all of them. -/
theorem allE_encs : ∀ (es : List Ev) (k : Nat), (∀ e ∈ es, mayE e = 0) → (es.flatMap encE).length ≤ k → allE k (es.flatMap encE) = some es
  | [], k, _, _ => by simp [allE_nil]
  | e :: es, 0, h, hk => by
    have := enc_pos' e
    rw [List.flatMap_cons, List.length_append] at hk
    omega
  | e :: es, k + 1, h, hk => by
    have hp := enc_pos' e
    rw [List.flatMap_cons, List.length_append] at hk
    have hne : encE e ++ es.flatMap encE ≠ [] := by
      intro h0
      have := congrArg List.length h0
      rw [List.length_append, List.length_nil] at this
      omega
    rw [List.flatMap_cons, allE, if_neg hne, takeE_encE (h e (by simp))]
    simp only
    rw [allE_encs es k (fun x hx => h x (by simp [hx])) (by omega)]
    rfl

end Go.Proofs.Ytjoifkmcfenhpaa.EcWalk

/-
  Rows of events of a call's own; all events of some bytes.
-/
namespace Go.Proofs.Ytjoifkmcfenhpaa.EdWalk
open Go.RowKit Go.Proofs.Ytjoifkmcfenhpaa.MemRow Go.Proofs.Ytjoifkmcfenhpaa.Ev Go.Proofs.Ytjoifkmcfenhpaa.NameMath Go.Proofs.Ytjoifkmcfenhpaa.NameWalk Go.Proofs.Ytjoifkmcfenhpaa.EvWalk Go.Proofs.Ytjoifkmcfenhpaa.NumMath Go.Proofs.Ytjoifkmcfenhpaa.NumMem Go.Proofs.Ytjoifkmcfenhpaa.NumWalk Go.Proofs.Ytjoifkmcfenhpaa.EcWalk

/-! ### All events, without a count -/
def allF (l : List UInt8) : Option (List Ev) := allE l.length l
theorem allE_fuel (l : List UInt8) : ∀ d : Nat, allE (l.length + d) l = allF l
  | 0 => rfl
  | d + 1 => by rw [← Nat.add_assoc, allE_more _ _ (by omega), allE_fuel l d]
theorem allE_enough {k : Nat} {l : List UInt8} (h : l.length ≤ k) : allE k l = allF l := by
  obtain ⟨d, rfl⟩ := Nat.exists_eq_add_of_le h
  exact allE_fuel l d
theorem allF_nil : allF [] = some [] := rfl
theorem allF_none {l : List UInt8} (h : l ≠ []) (ht : takeE l false = none) : allF l = none := by
  cases l with
  | nil => exact absurd rfl h
  | cons c l => rw [allF, List.length_cons, allE, if_neg h, ht]
theorem allF_some {l l' : List UInt8} {e : Ev} (h : l ≠ []) (ht : takeE l false = some (e, l')) : allF l = (allF l').map (e :: ·) := by
  have hlt := takeE_lt ht
  cases l with
  | nil => exact absurd rfl h
  | cons c l =>
    rw [allF, List.length_cons, allE, if_neg h, ht]
    simp only
    rw [allE_enough]
    rw [List.length_cons] at hlt
    omega
theorem allF_encs (es : List Ev) (h : ∀ e ∈ es, mayE e = 0) : allF (es.flatMap encE) = some es := allE_encs es _ h (Nat.le_refl _)

/-! ### Rows of events -/
/-- The cells cs are the events es; their own rows lie from 'base' on. -/
def EvsC (w : World) (base : Nat) : List Ev → List Value → Prop
  | [], cs => cs = []
  | e :: es, cs => ∃ T nT cT F nF cF cs', cs = .string e.s :: .string e.t :: .slice T nT cT :: .slice F nF cF :: cs' ∧ OwnC 1 w base 9 T nT cT (MemRow.strs e.tags) ∧ OwnC 2 w base 64 F nF cF (flds e.fs) ∧ EvsC w base es cs'
theorem EvsC.map {w w' : World} {base base' : Nat} (h1 : ∀ (A : Option Addr) (n c : Nat) (x : List Value), OwnC 1 w base 9 A n c x → OwnC 1 w' base' 9 A n c x) (h2 : ∀ (A : Option Addr) (n c : Nat) (x : List Value), OwnC 2 w base 64 A n c x → OwnC 2 w' base' 64 A n c x) :
    ∀ (es : List Ev) (cs : List Value), EvsC w base es cs → EvsC w' base' es cs
  | [], _, h => h
  | _ :: es, _, ⟨T, nT, cT, F, nF, cF, cs', e, o1, o2, h⟩ => ⟨T, nT, cT, F, nF, cF, cs', e, h1 _ _ _ _ o1, h2 _ _ _ _ o2, EvsC.map h1 h2 es cs' h⟩
theorem EvsC.snoc {w : World} {base : Nat} {e : Ev} {T F : Option Addr} {nT cT nF cF : Nat} (o1 : OwnC 1 w base 9 T nT cT (MemRow.strs e.tags)) (o2 : OwnC 2 w base 64 F nF cF (flds e.fs)) :
    ∀ (es : List Ev) (cs : List Value), EvsC w base es cs → EvsC w base (es ++ [e]) (cs ++ [.string e.s, .string e.t, .slice T nT cT, .slice F nF cF])
  | [], cs, h => by
    obtain rfl : cs = [] := h
    exact ⟨T, nT, cT, F, nF, cF, [], rfl, o1, o2, rfl⟩
  | x :: es, cs, ⟨T1, n1, c1, F1, m1, d1, cs', hc, p1, p2, h⟩ => by
    subst hc
    exact ⟨T1, n1, c1, F1, m1, d1, cs' ++ [.string e.s, .string e.t, .slice T nT cT, .slice F nF cF], rfl, p1, p2, EvsC.snoc o1 o2 es cs' h⟩
theorem EvsC.at_ {w : World} {base : Nat} : ∀ (es : List Ev) (cs : List Value), EvsC w base es cs → ∀ i, i < es.length →
    ∃ T nT cT F nF cF, cs[i * 4]? = some (.string (es.getD i noEv).s) ∧ cs[i * 4 + 1]? = some (.string (es.getD i noEv).t) ∧ cs[i * 4 + 2]? = some (.slice T nT cT) ∧ cs[i * 4 + 3]? = some (.slice F nF cF) ∧ OwnC 1 w base 9 T nT cT (MemRow.strs (es.getD i noEv).tags) ∧ OwnC 2 w base 64 F nF cF (flds (es.getD i noEv).fs)
  | [], _, _, i, hi => by simp at hi
  | e :: es, cs, ⟨T, nT, cT, F, nF, cF, cs', hc, o1, o2, h⟩, i, hi => by
    subst hc
    cases i with
    | zero => exact ⟨T, nT, cT, F, nF, cF, rfl, rfl, rfl, rfl, o1, o2⟩
    | succ i =>
      obtain ⟨T1, n1, c1, F1, m1, d1, q0, q1, q2, q3, p1, p2⟩ := EvsC.at_ es cs' h i (by simpa using hi)
      have e4 : (i + 1) * 4 = i * 4 + 4 := by omega
      rw [e4]
      exact ⟨T1, n1, c1, F1, m1, d1, by simpa using q0, by simpa using q1, by simpa using q2, by simpa using q3, by simpa using p1, by simpa using p2⟩

/-- Two rows of a call's own of unlike elements lie in unlike blocks. -/
theorem own_unlike {k k' : Nat} {w : World} {base base' : Nat} {t t' : TypeId} {A A' : Option Addr} {n n' cap cap' : Nat} {cs cs' : List Value} (h : OwnC k w base t A n cap cs) (h' : OwnC k' w base' t' A' n' cap' cs') (ht : t ≠ t') : ∀ a, A = some a → some a.block ≠ A'.map (·.block) := by
  rintro a rfl e
  cases A' with
  | none => cases e
  | some a' =>
    simp only [Option.map_some, Option.some.injEq] at e
    rcases h.2 with ⟨hv, _⟩ | ⟨g, c, cur, hv, _, hg, _⟩
    · cases hv
    · rcases h'.2 with ⟨hv', _⟩ | ⟨g', c', cur', hv', _, hg', _⟩
      · cases hv'
      · injection hv with e1
        injection e1 with e1
        injection hv' with e2
        injection e2 with e2
        subst e1 e2
        simp only at e
        subst e
        rw [hg] at hg'
        injection hg' with hg'
        injection hg' with _ e3
        exact ht e3

/-- A slice of a call's own that holds events, their rows its own too. -/
def OwnE (w : World) (base : Nat) (A : Option Addr) (n cap : Nat) (es : List Ev) : Prop := ∃ cs, OwnC 4 w base 44 A n cap cs ∧ es.length = n ∧ EvsC w base es cs
theorem OwnE.nil (w : World) (base : Nat) : OwnE w base none 0 0 [] := ⟨[], OwnC.nil _ _, rfl, rfl⟩
theorem OwnE.len {w : World} {base : Nat} {A : Option Addr} {n cap : Nat} {es : List Ev} (h : OwnE w base A n cap es) : es.length = n := by
  obtain ⟨_, _, h, _⟩ := h
  exact h
theorem OwnE.lower {w : World} {base base' : Nat} {A : Option Addr} {n cap : Nat} {es : List Ev} (h : OwnE w base A n cap es) (hb : base' ≤ base) : OwnE w base' A n cap es := by
  obtain ⟨cs, o, hl, hc⟩ := h
  exact ⟨cs, own_lower o hb, hl, EvsC.map (fun _ _ _ _ h => own_lower h hb) (fun _ _ _ _ h => own_lower h hb) es cs hc⟩
theorem OwnE.below {w w' : World} {base : Nat} {A : Option Addr} {n cap : Nat} {es : List Ev} (h : OwnE w base A n cap es) (hb : Below w.heap.size w w') : OwnE w' base A n cap es := by
  obtain ⟨cs, o, hl, hc⟩ := h
  exact ⟨cs, OwnC.below o hb, hl, EvsC.map (fun _ _ _ _ h => OwnC.below h hb) (fun _ _ _ _ h => OwnC.below h hb) es cs hc⟩
theorem own_off' {k : Nat} {w w' : World} {base : Nat} {t : TypeId} {A : Option Addr} {n cap : Nat} {cs : List Value} {g : Nat} (h : OwnC k w base t A n cap cs) (hg : w.grownBy w' (some g)) (hb : g < base) : OwnC k w' base t A n cap cs :=
  OwnC.grown h hg fun a hA e => by
    have := (OwnC.lt h a hA).1
    injection e with e
    omega
theorem OwnE.off {w w' : World} {base : Nat} {A : Option Addr} {n cap : Nat} {es : List Ev} {g : Nat} (h : OwnE w base A n cap es) (hg : w.grownBy w' (some g)) (hb : g < base) : OwnE w' base A n cap es := by
  obtain ⟨cs, o, hl, hc⟩ := h
  exact ⟨cs, own_off' o hg hb, hl, EvsC.map (fun _ _ _ _ h => own_off' h hg hb) (fun _ _ _ _ h => own_off' h hg hb) es cs hc⟩
theorem OwnE.rd {w : World} {base : Nat} {A : Option Addr} {n cap : Nat} {es : List Ev} (h : OwnE w base A n cap es) : RdE w A n cap es := by
  obtain ⟨cs, o, hl, hc⟩ := h
  have r := OwnC.rd o
  refine ⟨hl, r.2.1, r.2.2.1, fun hn => ?_⟩
  obtain ⟨b, a, hA, hlt, hcell⟩ := RdC.at_ r (by omega) hn
  refine ⟨b, a, hA, hlt, fun i hi => ?_⟩
  obtain ⟨T, nT, cT, F, nF, cF, q0, q1, q2, q3, p1, p2⟩ := EvsC.at_ es cs hc i (by omega)
  exact ⟨T, nT, cT, F, nF, cF, hcell _ _ q0, by rw [Nat.add_assoc]; exact hcell _ _ q1, by rw [Nat.add_assoc]; exact hcell _ _ q2, by rw [Nat.add_assoc]; exact hcell _ _ q3, OwnC.rd p1, OwnC.rd p2⟩

theorem event_info : (Try.prog.info? 44).map (fun i => (i.zero, i.size, i.bytes)) = some (some (.agg #[.string ⟨#[]⟩, .string ⟨#[]⟩, .slice none 0 0, .slice none 0 0]), 4, 80) := by kernel_rfl

/-- An event more. -/
theorem OwnE.more {w w' : World} {base : Nat} {A A' : Option Addr} {n cap cap' : Nat} {es : List Ev} {cs : List Value} {e : Ev} {T F : Option Addr} {nT cT nF cF : Nat} (ho : OwnC 4 w base 44 A n cap cs) (hl : es.length = n) (hc : EvsC w base es cs)
    (o1 : OwnC 1 w base 9 T nT cT (MemRow.strs e.tags)) (o2 : OwnC 2 w base 64 F nF cF (flds e.fs))
    (ho' : OwnC 4 w' base 44 A' (n + 1) cap' (cs ++ [.string e.s, .string e.t, .slice T nT cT, .slice F nF cF])) (hg : w.grownBy w' (A.map (·.block))) : OwnE w' base A' (n + 1) cap' (es ++ [e]) :=
  have k1 : ∀ (B : Option Addr) (m c : Nat) (x : List Value), OwnC 1 w base 9 B m c x → OwnC 1 w' base 9 B m c x := fun _ _ _ _ h => OwnC.grown h hg (own_unlike h ho (by decide))
  have k2 : ∀ (B : Option Addr) (m c : Nat) (x : List Value), OwnC 2 w base 64 B m c x → OwnC 2 w' base 64 B m c x := fun _ _ _ _ h => OwnC.grown h hg (own_unlike h ho (by decide))
  ⟨_, ho', by rw [List.length_append, hl]; rfl, EvsC.snoc (k1 _ _ _ _ o1) (k2 _ _ _ _ o2) es cs (EvsC.map k1 k2 es cs hc)⟩

/-- How long a slice's value says it is. -/
def sliceLen : Value → Nat
  | .slice _ n _ => n
  | _ => 0

/-- What all events of some bytes come to. -/
def AllOut (l : List UInt8) (w : World) (e : Ending) (w' : World) : Prop :=
  Below w.heap.size w w' ∧ ((∃ es A n cap, allF l = some es ∧ e = .returned (.tuple #[.slice A n cap, .int .i64 0]) ∧ OwnE w' w.heap.size A n cap es) ∨ (allF l = none ∧ e = .returned (.tuple #[.slice none 0 0, .int .i64 2])))

end Go.Proofs.Ytjoifkmcfenhpaa.EdWalk

/-
  Mathematics of layer 5: events that are cut.
-/
namespace Go.Proofs.Ytjoifkmcfenhpaa.EeLaw
open Go.RowKit Go.Proofs.Ytjoifkmcfenhpaa.MemRow Go.Proofs.Ytjoifkmcfenhpaa.Ev Go.Proofs.Ytjoifkmcfenhpaa.NameMath Go.Proofs.Ytjoifkmcfenhpaa.NameWalk Go.Proofs.Ytjoifkmcfenhpaa.EvWalk Go.Proofs.Ytjoifkmcfenhpaa.NumMath Go.Proofs.Ytjoifkmcfenhpaa.NumMem Go.Proofs.Ytjoifkmcfenhpaa.NumWalk Go.Proofs.Ytjoifkmcfenhpaa.EcWalk Go.Proofs.Ytjoifkmcfenhpaa.EdWalk

theorem lenFrom_more (r : List UInt8) : ∀ (l : List UInt8) (i : Nat), lenFrom i l ≠ 0 → lenFrom i (l ++ r) = lenFrom i l
  | [], i, h => absurd rfl h
  | c :: l, i, h => by
    rw [List.cons_append]
    simp only [lenFrom] at h ⊢
    by_cases h1 : 10 ≤ i
    · rw [if_pos h1, if_pos h1]
    · rw [if_neg h1] at h ⊢
      rw [if_neg h1]
      by_cases h2 : 128 ≤ c.toNat
      · rw [if_pos h2] at h ⊢
        rw [if_pos h2]
        exact lenFrom_more r l (i + 1) h
      · rw [if_neg h2, if_neg h2]
theorem num_more {l : List UInt8} {b : Bool} (h : numB l b = false) (r : List UInt8) : numV (l ++ r) = numV l ∧ numL (l ++ r) = numL l ++ r ∧ numB (l ++ r) b = false := by
  have hl : lenV l ≠ 0 := by
    intro h0
    unfold numB at h
    rw [if_pos h0] at h
    cases h
  have hb : b = false := by
    unfold numB at h
    rwa [if_neg hl] at h
  have e : lenV (l ++ r) = lenV l := lenFrom_more r l 0 hl
  have hle := lenV_le l
  refine ⟨?_, ?_, ?_⟩
  · unfold numV
    rw [e, if_neg hl, if_neg hl, List.take_append_of_le_length hle]
  · unfold numL
    rw [e, if_neg hl, if_neg hl, List.drop_append_of_le_length hle]
  · unfold numB
    rw [e, if_neg hl, hb]
theorem text_more {l : List UInt8} {b : Bool} (h : textB l b = false) (r : List UInt8) : tx (l ++ r) = tx l ∧ textL (l ++ r) = textL l ++ r ∧ textB (l ++ r) b = false := by
  have hok : textOk l := by
    by_cases h0 : textOk l
    · exact h0
    · unfold textB at h
      rw [if_neg h0] at h
      cases h
  have hn : numB l b = false := by
    unfold textB at h
    rwa [if_pos hok] at h
  obtain ⟨n1, n2, n3⟩ := num_more hn r
  have hk := hok
  unfold textOk at hk
  have hok' : textOk (l ++ r) := by
    unfold textOk
    rw [n1, n2, List.length_append]
    omega
  have hle : (numV l).toNat ≤ (numL l).length := by omega
  refine ⟨?_, ?_, ?_⟩
  · unfold tx textV
    rw [if_pos hok', if_pos hok, n1, n2, List.take_append_of_le_length hle]
  · unfold textL
    rw [if_pos hok', if_pos hok, n1, n2, List.drop_append_of_le_length hle]
  · unfold textB
    rw [if_pos hok', n3]
theorem takeTags_more (r : List UInt8) : ∀ (k : Nat) (l : List UInt8) (b : Bool), (takeTags k l b).2.2 = false → takeTags k (l ++ r) b = ((takeTags k l b).1, (takeTags k l b).2.1 ++ r, false)
  | 0, l, b, h => by
    have hb : b = false := h
    rw [hb]
    rfl
  | k + 1, l, b, h => by
    have hb : b = false := (takeTags_le (k + 1) l b).2 h
    subst hb
    rw [takeTags_go] at h
    have ht := (takeTags_le k (textL l) (textB l false)).2 h
    obtain ⟨t1, t2, t3⟩ := text_more ht r
    rw [takeTags_go, takeTags_go, t1, t2, t3]
    rw [ht] at h ⊢
    rw [takeTags_more r k (textL l) false h]
theorem takeFlds_more (r : List UInt8) : ∀ (k : Nat) (l : List UInt8) (b : Bool), (takeFlds k l b).2.2 = false → takeFlds k (l ++ r) b = ((takeFlds k l b).1, (takeFlds k l b).2.1 ++ r, false)
  | 0, l, b, h => by
    have hb : b = false := h
    rw [hb]
    rfl
  | k + 1, l, b, h => by
    have hb : b = false := (takeFlds_le (k + 1) l b).2 h
    subst hb
    rw [takeFlds_go] at h
    have hn := (takeFlds_le k (numL (textL l)) (numB (textL l) (textB l false))).2 h
    have ht := (numB_good hn).1
    obtain ⟨t1, t2, t3⟩ := text_more ht r
    rw [ht] at hn
    obtain ⟨n1, n2, n3⟩ := num_more hn r
    rw [takeFlds_go, takeFlds_go, t1, t2, t3, n1, n2, n3]
    rw [ht, hn] at h ⊢
    rw [takeFlds_more r k (numL (textL l)) false h]

/-- What follows behind an event does not change it. -/
theorem takeE_more {l l' : List UInt8} {e : Ev} (h : takeE l false = some (e, l')) (r : List UInt8) : takeE (l ++ r) false = some (e, l' ++ r) := by
  unfold takeE at h ⊢
  simp only at h ⊢
  split at h
  · cases h
  · next c1 =>
    split at h
    · cases h
    · next c2 =>
      simp only [Option.some.injEq, Prod.mk.injEq] at h
      obtain ⟨h1, h2⟩ := h
      have f2 : (takeFlds (min (numV (takeTags (min (numV (textL (textL l))) 7).toNat (numL (textL (textL l))) (numB (textL (textL l)) (textB (textL l) (textB l false)))).2.1) 5).toNat (numL (takeTags (min (numV (textL (textL l))) 7).toNat (numL (textL (textL l))) (numB (textL (textL l)) (textB (textL l) (textB l false)))).2.1) (numB (takeTags (min (numV (textL (textL l))) 7).toNat (numL (textL (textL l))) (numB (textL (textL l)) (textB (textL l) (textB l false)))).2.1 (takeTags (min (numV (textL (textL l))) 7).toNat (numL (textL (textL l))) (numB (textL (textL l)) (textB (textL l) (textB l false)))).2.2)).2.2 = false := by
        cases hc : (takeFlds _ _ _).2.2 with
        | false => rfl
        | true => exact absurd (.inr (.inl hc)) c2
      have g4 := (takeFlds_le _ _ _).2 f2
      have g3 := (numB_good g4).1
      have g2 := (takeTags_le _ _ _).2 g3
      have g1 := (numB_good g2).1
      have g0 := (textB_good g1).1
      obtain ⟨a1, a2, a3⟩ := text_more g0 r
      rw [g0] at g1 g2 g3 g4 f2 c2 h1 h2
      obtain ⟨b1, b2, b3⟩ := text_more g1 r
      rw [g1] at g2 g3 g4 f2 c2 h1 h2
      obtain ⟨n1, n2, n3⟩ := num_more g2 r
      rw [g2] at g3 g4 f2 c2 h1 h2
      have tt := takeTags_more r _ _ _ g3
      rw [g3] at g4 f2 c2 h2
      obtain ⟨m1, m2, m3⟩ := num_more g4 r
      rw [g3] at h1
      rw [g4] at f2 c2 h1 h2
      have ff := takeFlds_more r _ _ _ f2
      rw [a1, a2, a3, b1, b2, b3, n1, n2, n3, tt]
      simp only
      rw [m1, m2, m3, ff]
      simp only
      rw [if_neg c1, if_neg (by rw [f2] at c2; exact c2), h1, h2]

theorem takeE_cut {e : Ev} {p r : List UInt8} (h : mayE e = 0) (hp : p ++ r = encE e) (hr : r ≠ []) : takeE p false = none := by
  cases ht : takeE p false with
  | none => rfl
  | some q =>
    exfalso
    obtain ⟨e', l'⟩ := q
    have h1 := takeE_more ht r
    have h2 := takeE_encE h []
    rw [List.append_nil, ← hp, h1] at h2
    simp only [Option.some.injEq, Prod.mk.injEq] at h2
    have := congrArg List.length h2.2
    simp only [List.length_append, List.length_nil] at this
    exact hr (List.length_eq_zero_iff.1 (by omega))

/-- Where the first k events end. -/
def endAt (ys : List Ev) (k : Nat) : Nat := ((ys.take k).flatMap encE).length
theorem endAt_zero (ys : List Ev) : endAt ys 0 = 0 := rfl
theorem endAt_cons (y : Ev) (ys : List Ev) (k : Nat) : endAt (y :: ys) (k + 1) = (encE y).length + endAt ys k := by simp [endAt]
theorem endAt_snoc (ys : List Ev) (y : Ev) {k : Nat} (h : k ≤ ys.length) : endAt (ys ++ [y]) k = endAt ys k := by
  unfold endAt
  rw [List.take_append_of_le_length h]
theorem endAt_all (ys : List Ev) {k : Nat} (h : ys.length ≤ k) : endAt ys k = (ys.flatMap encE).length := by
  unfold endAt
  rw [List.take_of_length_le h]
theorem take_endAt : ∀ (ys : List Ev) (k : Nat), (ys.flatMap encE).take (endAt ys k) = (ys.take k).flatMap encE
  | [], k => by simp
  | y :: ys, 0 => by simp [endAt_zero]
  | y :: ys, k + 1 => by
    rw [endAt_cons, List.flatMap_cons, List.take_succ_cons, List.flatMap_cons, List.take_length_add_append, take_endAt ys k]
/-- Cut within an event there is none. -/
theorem allF_cut : ∀ (ys : List Ev) (i : Nat), (∀ e ∈ ys, mayE e = 0) → (∀ k, k ≤ ys.length → endAt ys k ≠ i) → i ≤ (ys.flatMap encE).length → allF ((ys.flatMap encE).take i) = none
  | [], i, _, h, hi => by
    have := h 0 (Nat.le_refl _)
    rw [endAt_zero] at this
    simp only [List.flatMap_nil, List.length_nil] at hi
    omega
  | y :: ys, i, hm, h, hi => by
    have hp := enc_pos' y
    have h0 := h 0 (Nat.zero_le _)
    rw [endAt_zero] at h0
    rw [List.flatMap_cons] at hi ⊢
    by_cases hlt : i < (encE y).length
    · rw [List.take_append_of_le_length (by omega)]
      have hne : (encE y).take i ≠ [] := by
        intro e
        have := congrArg List.length e
        rw [List.length_take, List.length_nil] at this
        omega
      refine allF_none hne (takeE_cut (hm y (by simp)) (List.take_append_drop i (encE y)) ?_)
      intro e
      have := congrArg List.length e
      rw [List.length_drop, List.length_nil] at this
      omega
    · obtain ⟨d, rfl⟩ := Nat.exists_eq_add_of_le (Nat.le_of_not_lt hlt)
      rw [List.take_length_add_append]
      have hne : encE y ++ (ys.flatMap encE).take d ≠ [] := by
        intro e
        have := congrArg List.length e
        rw [List.length_append, List.length_nil] at this
        omega
      rw [allF_some hne (takeE_encE (hm y (by simp)) _), allF_cut ys d (fun e he => hm e (by simp [he])) (fun k hk hd => h (k + 1) (by simp; omega) (by rw [endAt_cons, hd])) (by rw [List.length_append] at hi; omega)]
      rfl

end Go.Proofs.Ytjoifkmcfenhpaa.EeLaw

/-
  Mathematics of layers 1 and 5: what is taken stands there in its one encoding.
-/
namespace Go.Proofs.Ytjoifkmcfenhpaa.BtWalk
open Go.RowKit Go.Proofs.Ytjoifkmcfenhpaa.MemRow Go.Proofs.Ytjoifkmcfenhpaa.Ev Go.Proofs.Ytjoifkmcfenhpaa.NameMath Go.Proofs.Ytjoifkmcfenhpaa.NameWalk Go.Proofs.Ytjoifkmcfenhpaa.EvWalk Go.Proofs.Ytjoifkmcfenhpaa.NumMath Go.Proofs.Ytjoifkmcfenhpaa.NumMem Go.Proofs.Ytjoifkmcfenhpaa.NumWalk Go.Proofs.Ytjoifkmcfenhpaa.EcWalk Go.Proofs.Ytjoifkmcfenhpaa.EdWalk Go.Proofs.Ytjoifkmcfenhpaa.EeLaw
open Go.Lib (uvarint uvarint_small uvarint_big)

theorem val_pos : ∀ (l : List UInt8) (i : Nat), 0 < i → lenFrom i l ≠ 0 → 0 < valV (l.take (lenFrom i l - i))
  | [], i, _, h => by simp [lenFrom] at h
  | c :: r, i, h0, h => by
    by_cases h1 : 10 ≤ i
    · rw [lenFrom, if_pos h1] at h
      exact absurd rfl h
    · by_cases h2 : 128 ≤ c.toNat
      · rw [lenFrom, if_neg h1, if_pos h2] at h ⊢
        have hg := lenFrom_gt r (i + 1) h
        have ih := val_pos r (i + 1) (by omega) h
        have e : lenFrom (i + 1) r - i = (lenFrom (i + 1) r - (i + 1)) + 1 := by omega
        rw [e, List.take_succ_cons, valV]
        omega
      · by_cases h3 : (0 < i ∧ c.toNat = 0) ∨ (i = 9 ∧ 1 < c.toNat)
        · rw [lenFrom, if_neg h1, if_neg h2, if_pos h3] at h
          exact absurd rfl h
        · rw [lenFrom, if_neg h1, if_neg h2, if_neg h3]
          have e : i + 1 - i = 0 + 1 := by omega
          rw [e, List.take_succ_cons, valV]
          omega
theorem len_canon : ∀ (l : List UInt8) (i : Nat), lenFrom i l ≠ 0 → uvarint (valV (l.take (lenFrom i l - i))) = l.take (lenFrom i l - i)
  | [], i, h => by simp [lenFrom] at h
  | c :: r, i, h => by
    by_cases h1 : 10 ≤ i
    · rw [lenFrom, if_pos h1] at h
      exact absurd rfl h
    · by_cases h2 : 128 ≤ c.toNat
      · rw [lenFrom, if_neg h1, if_pos h2] at h ⊢
        have hg := lenFrom_gt r (i + 1) h
        have ih := len_canon r (i + 1) h
        have hp := val_pos r (i + 1) (by omega) h
        have e : lenFrom (i + 1) r - i = (lenFrom (i + 1) r - (i + 1)) + 1 := by omega
        rw [e, List.take_succ_cons, valV]
        generalize r.take (lenFrom (i + 1) r - (i + 1)) = t at *
        have hc : c.toNat < 256 := c.toNat_lt
        rw [uvarint_big (by omega)]
        have e1 : (c.toNat % 128 + 128 * valV t) % 128 + 128 = c.toNat := by omega
        have e2 : (c.toNat % 128 + 128 * valV t) / 128 = valV t := by omega
        rw [e1, e2, ih]
        congr 1
        exact UInt8.toNat_inj.1 (toU8 hc)
      · by_cases h3 : (0 < i ∧ c.toNat = 0) ∨ (i = 9 ∧ 1 < c.toNat)
        · rw [lenFrom, if_neg h1, if_neg h2, if_pos h3] at h
          exact absurd rfl h
        · rw [lenFrom, if_neg h1, if_neg h2, if_neg h3]
          have e : i + 1 - i = 0 + 1 := by omega
          have hc : c.toNat < 256 := c.toNat_lt
          rw [e, List.take_succ_cons, List.take_zero, valV, valV]
          have e1 : c.toNat % 128 + 128 * 0 = c.toNat := by omega
          rw [e1, uvarint_small (by omega)]
          congr 1
          exact UInt8.toNat_inj.1 (toU8 hc)
/-- A number that is there stands there in its one encoding. -/
theorem num_canon {l : List UInt8} {b : Bool} (h : numB l b = false) : b = false ∧ l = enc (numV l) ++ numL l := by
  unfold numB at h
  by_cases h0 : lenV l = 0
  · rw [if_pos h0] at h
    cases h
  · rw [if_neg h0] at h
    refine ⟨h, ?_⟩
    have hc := len_canon l 0 h0
    have e : enc (numV l) = l.take (lenV l) := by
      unfold numV NumMath.enc
      rw [if_neg h0, zigzag_unzig]
      exact hc
    rw [e]
    unfold numL
    rw [if_neg h0, List.take_append_drop]
theorem num_nil (b : Bool) : numV [] = 0 ∧ numL [] = [] ∧ numB [] b = true := ⟨rfl, rfl, rfl⟩
theorem num_bad {l : List UInt8} (h : numB l false = true) : numV l = 0 ∧ numL l = [] := by
  unfold numB at h
  by_cases h0 : lenV l = 0
  · unfold numV numL
    rw [if_pos h0, if_pos h0]
    exact ⟨rfl, rfl⟩
  · rw [if_neg h0] at h
    cases h
theorem text_canon {l : List UInt8} {b : Bool} (h : textB l b = false) : b = false ∧ l = txt (tx l) ++ textL l := by
  unfold textB at h
  by_cases h0 : textOk l
  · rw [if_pos h0] at h
    obtain ⟨h1, h2⟩ := num_canon h
    refine ⟨h1, ?_⟩
    unfold textOk at h0
    obtain ⟨k, hk⟩ := Int.eq_ofNat_of_zero_le h0.1
    have hkl : k ≤ (numL l).length := by omega
    have hs : (tx l).size = k := by
      unfold tx textV
      rw [if_pos (by unfold textOk; exact h0), hk]
      show ((numL l).take k).toArray.size = k
      rw [List.size_toArray, List.length_take]
      omega
    have hd : (tx l).data.toList = (numL l).take k := by
      unfold tx textV
      rw [if_pos (by unfold textOk; exact h0), hk]
      rfl
    have ht : textL l = (numL l).drop k := by
      unfold textL
      rw [if_pos (by unfold textOk; exact h0), hk]
      rfl
    rw [txt, hs, hd, ht, ← hk, List.append_assoc, List.take_append_drop]
    exact h2
  · rw [if_neg h0] at h
    cases h
theorem tags_canon : ∀ (k : Nat) (l : List UInt8) (b : Bool), (takeTags k l b).2.2 = false → b = false ∧ (takeTags k l b).1.length = k ∧ l = txts (takeTags k l b).1 ++ (takeTags k l b).2.1
  | 0, l, b, h => ⟨h, rfl, rfl⟩
  | k + 1, l, b, h => by
    cases b with
    | true =>
      rw [takeTags_stop (.inr rfl)] at h
      cases h
    | false =>
      rw [takeTags_go] at h ⊢
      obtain ⟨h1, h2, h3⟩ := tags_canon k (textL l) (textB l false) h
      obtain ⟨_, h4⟩ := text_canon h1
      refine ⟨rfl, by simp only [List.length_cons]; rw [h2], ?_⟩
      show l = txts (tx l :: _) ++ _
      have e : ∀ ts, txts (tx l :: ts) = txt (tx l) ++ txts ts := fun ts => by simp [txts]
      rw [e, List.append_assoc, ← h3]
      exact h4
theorem flds_canon : ∀ (k : Nat) (l : List UInt8) (b : Bool), (takeFlds k l b).2.2 = false → b = false ∧ (takeFlds k l b).1.length = k ∧ l = fldsE (takeFlds k l b).1 ++ (takeFlds k l b).2.1
  | 0, l, b, h => ⟨h, rfl, rfl⟩
  | k + 1, l, b, h => by
    cases b with
    | true =>
      rw [takeFlds_stop (.inr rfl)] at h
      cases h
    | false =>
      rw [takeFlds_go] at h ⊢
      obtain ⟨h1, h2, h3⟩ := flds_canon k (numL (textL l)) (numB (textL l) (textB l false)) h
      obtain ⟨h4, h5⟩ := num_canon h1
      obtain ⟨_, h6⟩ := text_canon h4
      refine ⟨rfl, by simp only [List.length_cons]; rw [h2], ?_⟩
      show l = fldsE ((tx l, numV (textL l)) :: _) ++ _
      have e : ∀ fs, fldsE ((tx l, numV (textL l)) :: fs) = txt (tx l) ++ (enc (numV (textL l)) ++ fldsE fs) := fun fs => by simp [fldsE, fldE]
      rw [e, List.append_assoc, List.append_assoc, ← h3, ← h5]
      exact h6
/-- An event that is taken stands there in its one encoding. -/
theorem takeE_canon {l l' : List UInt8} {b : Bool} {e : Ev} (h : takeE l b = some (e, l')) : b = false ∧ mayE e = 0 ∧ l = encE e ++ l' := by
  unfold takeE at h
  simp only at h
  split at h
  · cases h
  · next hx =>
    split at h
    · cases h
    · next hy =>
      simp only [Option.some.injEq, Prod.mk.injEq] at h
      obtain ⟨h1, h2⟩ := h
      have hm : mayE e = 0 := by
        rw [← h1]
        exact Classical.byContradiction fun hc => hy (.inr (.inr hc))
      have sm := may_smallE hm
      generalize hT : takeTags (min (numV (textL (textL l))) 7).toNat (numL (textL (textL l))) (numB (textL (textL l)) (textB (textL l) (textB l b))) = tg at *
      generalize hF : takeFlds (min (numV tg.2.1) 5).toNat (numL tg.2.1) (numB tg.2.1 tg.2.2) = fl at *
      have hb : fl.2.2 = false := by
        cases hc : fl.2.2 with
        | false => rfl
        | true => exact absurd (.inr (.inl hc)) hy
      have f1 := flds_canon (min (numV tg.2.1) 5).toNat (numL tg.2.1) (numB tg.2.1 tg.2.2) (by rw [hF]; exact hb)
      rw [hF] at f1
      obtain ⟨g1, g2⟩ := num_canon f1.1
      have t1 := tags_canon (min (numV (textL (textL l))) 7).toNat (numL (textL (textL l))) (numB (textL (textL l)) (textB (textL l) (textB l b))) (by rw [hT]; exact g1)
      rw [hT] at t1
      obtain ⟨m1, m2⟩ := num_canon t1.1
      obtain ⟨p1, p2⟩ := text_canon m1
      obtain ⟨q1, q2⟩ := text_canon p1
      refine ⟨q1, hm, ?_⟩
      have n1 : ((tg.1.length : Nat) : Int) = numV (textL (textL l)) := by rw [t1.2.1]; omega
      have hnf : fl.1.length ≤ 4 := by
        have := sm.nf
        rw [← h1] at this
        exact this
      have hy0 : ¬ numV tg.2.1 < 0 := fun hc => hy (.inl hc)
      have n2 : ((fl.1.length : Nat) : Int) = numV tg.2.1 := by
        have := f1.2.1
        omega
      rw [← h1, ← h2, encE]
      simp only
      rw [n1, n2]
      have e1 : l = txt (tx l) ++ (txt (tx (textL l)) ++ (enc (numV (textL (textL l))) ++ (txts tg.1 ++ (enc (numV tg.2.1) ++ (fldsE fl.1 ++ fl.2.1))))) := by
        rw [← f1.2.2, ← g2, ← t1.2.2, ← m2, ← p2, ← q2]
      simp only [List.append_assoc]
      exact e1

end Go.Proofs.Ytjoifkmcfenhpaa.BtWalk

/-
  Contracts of the library's slices.Grow and slices.Concat, on bytes.
-/
namespace Go.Proofs.Ytjoifkmcfenhpaa.EdWalk
open Go.RowKit Go.Proofs.Ytjoifkmcfenhpaa.NumMath Go.Proofs.Ytjoifkmcfenhpaa.NumMem Go.Proofs.Ytjoifkmcfenhpaa.NumWalk

theorem u8_info_one : ∃ i, Try.prog.info? 5 = some i ∧ i.zero = some (.int .u8 0) ∧ i.size = 1 ∧ i.bytes = 1 := by
  have hi := u8_info
  cases hq : Try.prog.info? 5 with
  | none => simp [hq] at hi
  | some i => simp [hq] at hi; exact ⟨i, rfl, hi.1, hi.2.1, hi.2.2⟩

set_option maxHeartbeats 2000000 in
set_option maxRecDepth 100000 in
/-- Grow(nil, n): nothing, with room for n. -/
theorem grow_any (n : Nat) (w : World) (h0 : 0 < n) (hn : n ≤ 140737488355328) :
    Calls Try.prog 55 #[.slice none 0 0, .int .i64 n] w fun e w' => ∃ cap, e = .returned (.slice (some ⟨w.heap.size, 0, none⟩) 0 cap) ∧ Own w' w.heap.size 5 (some ⟨w.heap.size, 0, none⟩) 0 cap [] ∧ Below w.heap.size w w' := by
  obtain ⟨i, g1, g2, g3, g4⟩ := u8_info_one
  have hrz : ∀ ty, (Builtin.append_ #[27, 3] ty #[.slice none 0 0, .int .i64 n]).run Try.prog w = .ok (.slice (some ⟨w.heap.size, 0, none⟩) n (grownCap w n 0 5)) (w.drew.alloc (.cells (#[] ++ Builtin.zeroCells #[.int .u8 0] n ++ Builtin.zeroCells #[.int .u8 0] (grownCap w n 0 5 - n)) 5)) := fun ty => by
    have h := Lib.run_append_grow_zeros (P := Try.prog) w 27 3 ty 5 i (.int .u8 0) .i64 .i64 Try.underlying27 Try.underlying3 g1 g2 none 0 0 [] (by simp [Builtin.firstCells]) n h0 (by omega) (by omega) (by omega) (by rw [g4]; omega) (by
      rw [Nat.zero_add, g4]
      exact growslice_fits h0 (by omega))
    rw [Nat.zero_add] at h
    exact h
  have hge := grownCap_ge w n 0 5
  have hle := grownCap_le_maxLen w n 0 5 (by unfold maxLen; omega)
  obtain ⟨G, hG⟩ : ∃ G, G = grownCap w n 0 5 := ⟨_, rfl⟩
  rw [← hG] at hrz hge hle
  have own : Own (w.alloc (.cells (Builtin.zeroCells #[.int .u8 0] n ++ Builtin.zeroCells #[.int .u8 0] (G - n)) 5)).drew w.heap.size 5 (some ⟨w.heap.size, 0, none⟩) 0 G [] :=
    ⟨by simp [cellsOf], .inr ⟨w.heap.size, G, _, rfl, Nat.le_refl _, heap_alloc_new w _, Nat.zero_le _, hle, by simp only [Array.size_append, size_zeroCells]; simp; omega, by simp [cellsOf]⟩⟩
  have OWN := Go.Lib.hid own
  have bel : Below w.heap.size w (w.alloc (.cells (Builtin.zeroCells #[.int .u8 0] n ++ Builtin.zeroCells #[.int .u8 0] (G - n)) 5)).drew :=
    let h := (Below.refl w.heap.size w).alloc (Nat.le_refl _) (.cells (Builtin.zeroCells #[.int .u8 0] n ++ Builtin.zeroCells #[.int .u8 0] (G - n)) 5)
    ⟨h.os, h.tape, h.output, h.size, h.block⟩
  have BEL := Go.Lib.hid bel
  clear own bel hG
  unfold maxLen at hle
  go_enter Try.func55, Try.ntmps55
  go_wp2_with (at_builtin; refine Lib.wpList_append_run _ rfl _ _ _ _ rfl _ _ rfl rfl _ _ (hrz _) ?_)
  go_ret
  exact ⟨G, rfl, OWN.out, BEL.out⟩

set_option maxHeartbeats 4000000 in
set_option maxRecDepth 100000 in
/-- Concat of two. -/
theorem concat_any (g : Nat) (A B : Option Addr) (n ca m cb : Nat) (l k : List UInt8) (w : World) (c0 : w.cell? ⟨g, 0, none⟩ = some (.slice A n ca)) (c1 : w.cell? ⟨g, 1, none⟩ = some (.slice B m cb)) (hl : Rd w A n ca l) (hk : Rd w B m cb k) (h0 : 0 < n + m) (hs : n + m ≤ 1000000000) :
    Calls Try.prog 31 #[.slice (some ⟨g, 0, none⟩) 2 2] w fun e w' => ∃ A' c', e = .returned (.slice A' (n + m) c') ∧ Own w' w.heap.size 5 A' (n + m) c' (l ++ k) ∧ Below w.heap.size w w' := by
  go_enter Try.func31, Try.ntmps31
  go_wp2_with fail
  go_loopw [3, 5, 11] (fun sz _ i wr => ∃ j : Nat, j ≤ 2 ∧ i = .int .i64 j ∧ sz = .int .i64 ((if j = 0 then 0 else if j = 1 then n else n + m : Nat) : Int) ∧ w = wr) (fun _ _ i _ => 2 - (intOf i).toNat)
  case atStart => exact ⟨0, by omega, rfl, rfl, rfl⟩
  case round =>
    obtain ⟨j, hj, rfl, rfl, rfl⟩ := hrel
    obtain rfl | rfl | rfl : j = 0 ∨ j = 1 ∨ j = 2 := by omega
    · go_wp2_with fail
      go_roundw
      case rel => exact ⟨1, by omega, by go_num, by simp⟩
      case measure => simp [intOf]
    · go_wp2_with fail
      go_roundw
      case rel => exact ⟨2, by omega, by go_num, by simp⟩
      case measure => simp [intOf]
    · have e2 : (if (2 : Nat) = 0 then 0 else if (2 : Nat) = 1 then n else n + m) = n + m := rfl
      rw [e2]
      clear e2
      have ob : ∀ W, Below w.heap.size w W → W.cell? ⟨g, 0, none⟩ = some (.slice A n ca) ∧ W.cell? ⟨g, 1, none⟩ = some (.slice B m cb) ∧ Rd W A n ca l ∧ Rd W B m cb k := fun W h =>
        ⟨(h.cell (p := ⟨g, 0, none⟩) (World.block_lt_of_cell? w _ c0)).trans c0, (h.cell (p := ⟨g, 1, none⟩) (World.block_lt_of_cell? w _ c1)).trans c1, hl.below h, hk.below h⟩
      have OB := Go.Lib.hid ob
      have HL := Go.Lib.hid hl.len
      have HK := Go.Lib.hid hk.len
      clear ob c0 c1 hl hk
      go_wp2_with fail
      have cg := grow_any (n + m) w h0 (by omega)
      rw [show ((n + m : Nat) : Int) = (n : Int) + (m : Int) from by omega] at cg
      refine cg.mono ?_
      rintro e w2 ⟨cap, rfl, o2, b2⟩
      clear cg
      go_wp2_with fail
      go_loopw [6, 8, 27] (fun ns _ i wr => ∃ (j : Nat) (A' : Option Addr) (c' : Nat) (q : Nat) (x : List UInt8), j ≤ 2 ∧ i = .int .i64 j ∧ ns = .slice A' q c' ∧ Hid (q = (if j = 0 then 0 else if j = 1 then n else n + m) ∧ x = (if j = 0 then [] else if j = 1 then l else l ++ k)) ∧ Own wr w.heap.size 5 A' q c' x ∧ Below w.heap.size w wr) (fun _ _ i _ => 2 - (intOf i).toNat)
      case atStart => exact ⟨0, _, _, 0, [], by omega, rfl, rfl, Go.Lib.hid ⟨rfl, rfl⟩, o2, b2⟩
      case round =>
        obtain ⟨j, A', c', q, x, hj, rfl, rfl, HQ, oq, bq⟩ := hrel
        obtain ⟨k0, k1, r0, r1⟩ := OB.out wr bq
        clear o2 b2
        obtain rfl | rfl | rfl : j = 0 ∨ j = 1 ∨ j = 2 := by omega
        · have hq : q = 0 := HQ.out.1
          have hx : x = [] := HQ.out.2
          clear HQ
          rw [hq, hx] at oq
          rw [hq]
          clear hq hx
          have hsz : 0 + n ≤ 140737488355328 := by omega
          have bs := bq.size
          go_wp2_with (at_builtin; refine wpList_append_more rfl (.tmp 31) (.tmp 32) 27 rfl 5 Try.underlying27 u8_info rfl rfl oq r0 hsz bs w bq ?_; intro A3 c3 w3 o3 b3)
          go_roundw
          case rel => exact ⟨1, A3, c3, _, _, by omega, rfl, by simp, Go.Lib.hid ⟨rfl, rfl⟩, by simpa using o3, b3⟩
          case measure => simp [intOf]
        · have hq : q = n := HQ.out.1
          have hx : x = l := HQ.out.2
          clear HQ
          rw [hq, hx] at oq
          rw [hq]
          clear hq hx
          have hsz : n + m ≤ 140737488355328 := by omega
          have bs := bq.size
          go_wp2_with (at_builtin; refine wpList_append_more rfl (.tmp 31) (.tmp 32) 27 rfl 5 Try.underlying27 u8_info rfl rfl oq r1 hsz bs w bq ?_; intro A3 c3 w3 o3 b3)
          go_roundw
          case rel => exact ⟨2, A3, c3, _, _, by omega, rfl, by simp, Go.Lib.hid ⟨rfl, rfl⟩, o3, b3⟩
          case measure => simp [intOf]
        · have hq : q = n + m := HQ.out.1
          have hx : x = l ++ k := HQ.out.2
          clear HQ
          rw [hq, hx] at oq
          rw [hq]
          clear hq hx
          go_wp2_with fail
          go_ret
          exact ⟨A', c', rfl, oq, bq⟩

end Go.Proofs.Ytjoifkmcfenhpaa.EdWalk

/-
  Contracts of the library's slices functions, over texts and over numbers with a name: Index, Contains, Equal, IndexFunc, ContainsFunc.
-/
namespace Go.Proofs.Ytjoifkmcfenhpaa.EvWalk
open Go.RowKit Go.Proofs.Ytjoifkmcfenhpaa.MemRow Go.Proofs.Ytjoifkmcfenhpaa.Ev Go.Proofs.Ytjoifkmcfenhpaa.NameMath Go.Proofs.Ytjoifkmcfenhpaa.NameWalk

theorem any_miss {α : Type} {p : α → Bool} {l : List α} {j : Nat} {d : α} (hj : j < l.length) (h : (l.take j).any p = false) (hp : p (l.getD j d) = false) : (l.take (j + 1)).any p = false := by
  rw [List.take_succ_eq_append_getElem hj, List.any_append, h]
  simp only [List.getD, List.getElem?_eq_getElem hj, Option.getD_some] at hp
  simp [hp]
theorem any_hit {α : Type} {p : α → Bool} {l : List α} {j : Nat} {d : α} (hj : j < l.length) (hp : p (l.getD j d) = true) : l.any p = true := by
  simp only [List.getD, List.getElem?_eq_getElem hj, Option.getD_some] at hp
  rw [List.any_eq_true]
  exact ⟨_, List.getElem_mem hj, hp⟩
theorem dec_ge0 (j : Nat) : decide ((0 : Int) ≤ (j : Int)) = true := decide_eq_true (by omega)

/-- A place of a slice, or -1. -/
def Found (b : Bool) (e : Ending) : Prop := ∃ i : Int, e = .returned (.int .i64 i) ∧ decide (0 ≤ i) = b

/-- A predicate on texts, handed to the library. -/
def PredS (g : Nat) (p : ByteArray → Bool) (ss : List ByteArray) (w : World) : Prop :=
  ∀ W, Below w.heap.size w W → ∀ x ∈ ss, Calls Try.prog g #[.string x] W fun e W' => e = .returned (.bool (p x)) ∧ Below W.heap.size W W'
/-- A predicate on numbers with a name, handed to the library. -/
def PredF (g : Nat) (p : ByteArray × Int → Bool) (fs : List (ByteArray × Int)) (w : World) : Prop :=
  ∀ W, Below w.heap.size w W → ∀ x ∈ fs, Calls Try.prog g #[.agg #[.string x.1, .int .i64 x.2]] W fun e W' => e = .returned (.bool (p x)) ∧ Below W.heap.size W W'



set_option maxHeartbeats 4000000 in
set_option maxRecDepth 100000 in
theorem idxFuncS_any (A : Option Addr) (n ca : Nat) (ss : List ByteArray) (g : Nat) (p : ByteArray → Bool) (w : World) (ha : RdS w A n ca ss) (eg : ∀ args w, (callFunc g args).run Try.prog w = .ok (.enter g args) w) (hp : PredS g p ss w) :
    Calls Try.prog 78 #[.slice A n ca, .func (.func g) #[] #[]] w fun e w' => Found (ss.any p) e ∧ Below w.heap.size w w' := by
  have hn := RdC.le ha
  unfold maxLen at hn
  have la := ha.len
  generalize hR : ss.any p = R
  have HR := Go.Lib.hid hR
  have LA := Go.Lib.hid la
  have HP := Go.Lib.hid hp
  clear hR la hp
  go_enter Try.func78, Try.ntmps78
  go_wp2_with fail
  go_loopw [5, 8] (fun _ i wr => ∃ j : Nat, j ≤ n ∧ i = .int .i64 j ∧ (ss.take j).any p = false ∧ Below w.heap.size w wr) (fun _ i _ => n - (intOf i).toNat)
  case atStart => exact ⟨0, Nat.zero_le _, rfl, rfl, Below.refl _ _⟩
  case round =>
    obtain ⟨j, hj, rfl, hq, hb⟩ := hrel
    have HQ := Go.Lib.hid hq
    clear hq
    have a1 := RdC.below ha hb
    by_cases hlt : j < n
    · obtain ⟨ba, oa, rfl, _, ka⟩ := RdS.at_ a1 (by omega)
      have ka1 := ka j hlt
      have i1 : (j : Int) < n := by omega
      have hjl : j < ss.length := by rw [LA.out]; exact hlt
      have HM := Go.Lib.hid (fun h => any_miss (p := p) (d := ByteArray.empty) hjl HQ.out h)
      have HH := Go.Lib.hid (fun h => any_hit (p := p) (d := ByteArray.empty) hjl h)
      have c := Go.Lib.hid (HP.out wr hb _ (mem_getD ss j hjl))
      clear ka hjl a1
      generalize hy : ss.getD j ByteArray.empty = y at *
      clear hy
      cases hpy : p y with
      | true =>
        have hR : R = true := by rw [← HR.out]; exact HH.out hpy
        subst hR
        rw [hpy] at c
        clear HM HH hpy
        go_wp2_with (refine (c.out).mono ?_; rintro e w1 ⟨rfl, b1⟩)
        go_ret
        exact ⟨⟨j, rfl, dec_ge0 j⟩, below_chain hb b1⟩
      | false =>
        rw [hpy] at c
        have HN := Go.Lib.hid (HM.out hpy)
        clear HM HH hpy
        go_wp2_with (refine (c.out).mono ?_; rintro e w1 ⟨rfl, b1⟩)
        go_roundw
        case rel => exact ⟨j + 1, by omega, by go_num, HN.out, below_chain hb b1⟩
        case measure => simp [intOf]; omega
    · obtain rfl : n = j := by omega
      have hR : R = false := by
        rw [← HR.out]
        have h1 := HQ.out
        rwa [List.take_of_length_le (by rw [LA.out]; exact Nat.le_refl _)] at h1
      subst hR
      go_wp2_with fail
      go_ret
      exact ⟨⟨-1, rfl, by decide⟩, hb⟩

set_option maxHeartbeats 2000000 in
set_option maxRecDepth 100000 in
theorem hasFuncS_any (A : Option Addr) (n ca : Nat) (ss : List ByteArray) (g : Nat) (p : ByteArray → Bool) (w : World) (ha : RdS w A n ca ss) (eg : ∀ args w, (callFunc g args).run Try.prog w = .ok (.enter g args) w) (hp : PredS g p ss w) :
    Calls Try.prog 62 #[.slice A n ca, .func (.func g) #[] #[]] w fun e w' => e = .returned (.bool (ss.any p)) ∧ Below w.heap.size w w' := by
  have c := Go.Lib.hid (idxFuncS_any A n ca ss g p w ha eg hp)
  clear ha eg hp
  generalize ss.any p = R at c ⊢
  go_enter Try.func62, Try.ntmps62
  go_wp2_with (refine (c.out).mono ?_; rintro e w' ⟨⟨i, rfl, rfl⟩, b1⟩)
  go_ret
  exact ⟨rfl, b1⟩

set_option maxHeartbeats 4000000 in
set_option maxRecDepth 100000 in
theorem idxFuncF_any (A : Option Addr) (n ca : Nat) (fs : List (ByteArray × Int)) (g : Nat) (p : ByteArray × Int → Bool) (w : World) (ha : RdF w A n ca fs) (eg : ∀ args w, (callFunc g args).run Try.prog w = .ok (.enter g args) w) (hp : PredF g p fs w) :
    Calls Try.prog 80 #[.slice A n ca, .func (.func g) #[] #[]] w fun e w' => Found (fs.any p) e ∧ Below w.heap.size w w' := by
  have hn := RdC.le ha
  unfold maxLen at hn
  have la := ha.len
  generalize hR : fs.any p = R
  have HR := Go.Lib.hid hR
  have LA := Go.Lib.hid la
  have HP := Go.Lib.hid hp
  clear hR la hp
  go_enter Try.func80, Try.ntmps80
  go_wp2_with fail
  go_loopw [5, 8] (fun _ i wr => ∃ j : Nat, j ≤ n ∧ i = .int .i64 j ∧ (fs.take j).any p = false ∧ Below w.heap.size w wr) (fun _ i _ => n - (intOf i).toNat)
  case atStart => exact ⟨0, Nat.zero_le _, rfl, rfl, Below.refl _ _⟩
  case round =>
    obtain ⟨j, hj, rfl, hq, hb⟩ := hrel
    have HQ := Go.Lib.hid hq
    clear hq
    have a1 := RdC.below ha hb
    by_cases hlt : j < n
    · obtain ⟨ba, oa, rfl, _, ka⟩ := RdF.at_ a1 (by omega)
      obtain ⟨ka1, ka2⟩ := ka j hlt
      have i1 : (j : Int) < n := by omega
      have hjl : j < fs.length := by rw [LA.out]; exact hlt
      have HM := Go.Lib.hid (fun h => any_miss (p := p) (d := (ByteArray.empty, (0 : Int))) hjl HQ.out h)
      have HH := Go.Lib.hid (fun h => any_hit (p := p) (d := (ByteArray.empty, (0 : Int))) hjl h)
      have c := Go.Lib.hid (HP.out wr hb _ (fs_mem fs j hjl))
      clear ka hjl a1
      generalize hy : fs.getD j (ByteArray.empty, 0) = y at *
      clear hy
      obtain ⟨y, z⟩ := y
      simp only at ka1 ka2 c
      cases hpy : p (y, z) with
      | true =>
        have hR : R = true := by rw [← HR.out]; exact HH.out hpy
        subst hR
        rw [hpy] at c
        clear HM HH hpy
        go_wp2_with (refine (c.out).mono ?_; rintro e w1 ⟨rfl, b1⟩)
        go_ret
        exact ⟨⟨j, rfl, dec_ge0 j⟩, below_chain hb b1⟩
      | false =>
        rw [hpy] at c
        have HN := Go.Lib.hid (HM.out hpy)
        clear HM HH hpy
        go_wp2_with (refine (c.out).mono ?_; rintro e w1 ⟨rfl, b1⟩)
        go_roundw
        case rel => exact ⟨j + 1, by omega, by go_num, HN.out, below_chain hb b1⟩
        case measure => simp [intOf]; omega
    · obtain rfl : n = j := by omega
      have hR : R = false := by
        rw [← HR.out]
        have h1 := HQ.out
        rwa [List.take_of_length_le (by rw [LA.out]; exact Nat.le_refl _)] at h1
      subst hR
      go_wp2_with fail
      go_ret
      exact ⟨⟨-1, rfl, by decide⟩, hb⟩

set_option maxHeartbeats 2000000 in
set_option maxRecDepth 100000 in
theorem hasFuncF_any (A : Option Addr) (n ca : Nat) (fs : List (ByteArray × Int)) (g : Nat) (p : ByteArray × Int → Bool) (w : World) (ha : RdF w A n ca fs) (eg : ∀ args w, (callFunc g args).run Try.prog w = .ok (.enter g args) w) (hp : PredF g p fs w) :
    Calls Try.prog 65 #[.slice A n ca, .func (.func g) #[] #[]] w fun e w' => e = .returned (.bool (fs.any p)) ∧ Below w.heap.size w w' := by
  have c := Go.Lib.hid (idxFuncF_any A n ca fs g p w ha eg hp)
  clear ha eg hp
  generalize fs.any p = R at c ⊢
  go_enter Try.func65, Try.ntmps65
  go_wp2_with (refine (c.out).mono ?_; rintro e w' ⟨⟨i, rfl, rfl⟩, b1⟩)
  go_ret
  exact ⟨rfl, b1⟩

end Go.Proofs.Ytjoifkmcfenhpaa.EvWalk

/-
  Contract of layer 3: MayTag.
-/
namespace Go.Proofs.Ytjoifkmcfenhpaa.NameWalk
open Go.RowKit Go.Proofs.Ytjoifkmcfenhpaa.NameMath

set_option maxRecDepth 100000 in
theorem mayTag_any (s : ByteArray) (w : World) (hs : s.size ≤ 9223372036854775807) :
    Calls Try.prog 64 #[.string s] w fun e w' => e = .returned (.bool (parts s.data.toList).2.2) ∧ Below w.heap.size w w' := by
  have hc := parts_any s w hs
  generalize parts s.data.toList = p at *
  go_enter Try.func64, Try.ntmps64
  go_wp2_with (go_at_call 79; refine hc.mono ?_; rintro e w' ⟨rfl, b1⟩)
  go_ret
  exact ⟨rfl, b1⟩

end Go.Proofs.Ytjoifkmcfenhpaa.NameWalk

/-
  Contracts of layer 4: May, and what it asks.
-/
namespace Go.Proofs.Ytjoifkmcfenhpaa.EvWalk
open Go.RowKit Go.Proofs.Ytjoifkmcfenhpaa.MemRow Go.Proofs.Ytjoifkmcfenhpaa.Ev Go.Proofs.Ytjoifkmcfenhpaa.NameMath Go.Proofs.Ytjoifkmcfenhpaa.NameWalk

theorem any_not {α : Type} (l : List α) (p : α → Bool) : (!(l.any fun x => !p x)) = l.all p := by
  induction l with
  | nil => rfl
  | cons a l ih => simp only [List.any_cons, List.all_cons, ← ih, Bool.not_or, Bool.not_not]

theorem name_told {s : ByteArray} (hs : s.size ≤ maxLen) (w : World) :
    Calls Try.prog 38 #[.string s] w fun e w' => e = .returned (.bool (nameB s)) ∧ Below w.heap.size w w' := by
  unfold maxLen at hs
  exact may_any s w (by omega)

/-! ### Tags -/
set_option maxHeartbeats 2000000 in
set_option maxRecDepth 100000 in
theorem notTag_any (s : ByteArray) (w : World) (hs : s.size ≤ maxLen) :
    Calls Try.prog 63 #[.string s] w fun e w' => e = .returned (.bool (!tagB s)) ∧ Below w.heap.size w w' := by
  unfold maxLen at hs
  have c0 : Calls Try.prog 64 #[.string s] w fun e w' => e = .returned (.bool (tagB s)) ∧ Below w.heap.size w w' := mayTag_any s w (by omega)
  have c := Go.Lib.hid c0
  clear c0
  generalize tagB s = b at *
  go_enter Try.func63, Try.ntmps63
  go_wp2_with (refine (c.out).mono ?_; rintro e w' ⟨rfl, b1⟩)
  go_ret
  exact ⟨rfl, b1⟩

set_option maxHeartbeats 2000000 in
set_option maxRecDepth 100000 in
theorem areTags_any (A : Option Addr) (n ca : Nat) (ss : List ByteArray) (w : World) (ha : RdS w A n ca ss) (hz : ∀ x ∈ ss, x.size ≤ maxLen) :
    Calls Try.prog 39 #[.slice A n ca] w fun e w' => e = .returned (.bool (ss.all tagB)) ∧ Below w.heap.size w w' := by
  have c := Go.Lib.hid (hasFuncS_any A n ca ss 63 (fun s => !tagB s) w ha (enters_of Try.func63 (by kernel_rfl) rfl) (fun W _ x hx => notTag_any x W (hz x hx)))
  have h := any_not ss tagB
  rw [← h]
  clear ha hz h
  generalize ss.any (fun s => !tagB s) = R at c ⊢
  go_enter Try.func39, Try.ntmps39
  go_wp2_with (refine (c.out).mono ?_; rintro e w' ⟨rfl, b1⟩)
  go_ret
  exact ⟨rfl, b1⟩

/-! ### Names and numbers of fields -/
set_option maxHeartbeats 2000000 in
set_option maxRecDepth 100000 in
theorem notNamed_any (f : ByteArray × Int) (w : World) (hs : f.1.size ≤ maxLen) :
    Calls Try.prog 66 #[.agg #[.string f.1, .int .i64 f.2]] w fun e w' => e = .returned (.bool (!nameB f.1)) ∧ Below w.heap.size w w' := by
  obtain ⟨s, z⟩ := f
  simp only at hs ⊢
  have b0 : Below w.heap.size w (w.alloc (.cells #[.string s, .int .i64 z] 64)) := (Below.refl _ _).alloc (Nat.le_refl _) _
  have c := Go.Lib.hid (name_told hs (w.alloc (.cells #[.string s, .int .i64 z] 64)))
  generalize nameB s = b at *
  go_enter Try.func66, Try.ntmps66
  go_wp2_with (refine (c.out).mono ?_; rintro e w' ⟨rfl, b1⟩)
  go_ret
  exact ⟨rfl, below_chain b0 b1⟩

set_option maxHeartbeats 2000000 in
set_option maxRecDepth 100000 in
theorem areNamed_any (A : Option Addr) (n ca : Nat) (fs : List (ByteArray × Int)) (w : World) (ha : RdF w A n ca fs) (hz : ∀ x ∈ fs, x.1.size ≤ maxLen) :
    Calls Try.prog 40 #[.slice A n ca] w fun e w' => e = .returned (.bool (fs.all fun f => nameB f.1)) ∧ Below w.heap.size w w' := by
  have c := Go.Lib.hid (hasFuncF_any A n ca fs 66 (fun f => !nameB f.1) w ha (enters_of Try.func66 (by kernel_rfl) rfl) (fun W _ x hx => notNamed_any x W (hz x hx)))
  have h := any_not fs (fun f => nameB f.1)
  rw [← h]
  clear ha hz h
  generalize fs.any (fun f => !nameB f.1) = R at c ⊢
  go_enter Try.func40, Try.ntmps40
  go_wp2_with (refine (c.out).mono ?_; rintro e w' ⟨rfl, b1⟩)
  go_ret
  exact ⟨rfl, b1⟩

set_option maxHeartbeats 2000000 in
set_option maxRecDepth 100000 in
theorem notFit_any (f : ByteArray × Int) (w : World) :
    Calls Try.prog 70 #[.agg #[.string f.1, .int .i64 f.2]] w fun e w' => e = .returned (.bool (!fitB f)) ∧ Below w.heap.size w w' := by
  obtain ⟨s, z⟩ := f
  have b0 : Below w.heap.size w (w.alloc (.cells #[.string s, .int .i64 z] 64)) := (Below.refl _ _).alloc (Nat.le_refl _) _
  generalize hR : (!fitB (s, z)) = R
  unfold fitB at hR
  simp only at hR ⊢
  by_cases h1 : z < -1099511627776
  · have hR : R = true := by rw [← hR, decide_eq_false (by omega)]; rfl
    subst hR
    go_enter Try.func70, Try.ntmps70
    go_wp2_with fail
    go_ret
    exact ⟨rfl, b0⟩
  · by_cases h2 : 1099511627776 < z
    · have hR : R = true := by rw [← hR, decide_eq_false (by omega)]; rfl
      subst hR
      go_enter Try.func70, Try.ntmps70
      go_wp2_with fail
      go_ret
      exact ⟨rfl, b0⟩
    · have hR : R = false := by rw [← hR, decide_eq_true (by omega)]; rfl
      subst hR
      go_enter Try.func70, Try.ntmps70
      go_wp2_with fail
      go_ret
      exact ⟨rfl, b0⟩

set_option maxHeartbeats 2000000 in
set_option maxRecDepth 100000 in
theorem areFit_any (A : Option Addr) (n ca : Nat) (fs : List (ByteArray × Int)) (w : World) (ha : RdF w A n ca fs) :
    Calls Try.prog 43 #[.slice A n ca] w fun e w' => e = .returned (.bool (fs.all fitB)) ∧ Below w.heap.size w w' := by
  have c := Go.Lib.hid (hasFuncF_any A n ca fs 70 (fun f => !fitB f) w ha (enters_of Try.func70 (by kernel_rfl) rfl) (fun W _ x _ => notFit_any x W))
  have h := any_not fs fitB
  rw [← h]
  clear ha h
  generalize fs.any (fun f => !fitB f) = R at c ⊢
  go_enter Try.func43, Try.ntmps43
  go_wp2_with (refine (c.out).mono ?_; rintro e w' ⟨rfl, b1⟩)
  go_ret
  exact ⟨rfl, b1⟩

/-! ### Order -/
set_option maxHeartbeats 4000000 in
set_option maxRecDepth 100000 in
theorem rise_any (n : Nat) (ss : List ByteArray) (g : Nat) (p : Value) (w : World) (la : ss.length = n) (hn : n ≤ maxLen) (eg : ∀ args w, (callFunc g args).run Try.prog w = .ok (.enter g args) w)
    (hk : ∀ W, Below w.heap.size w W → ∀ i : Nat, i < n → Calls Try.prog g #[.int .i64 (i : Int), p] W fun e W' => e = .returned (.string (ss.getD i ByteArray.empty)) ∧ Below W.heap.size W W') :
    Calls Try.prog 67 #[.int .i64 (n : Int), .func (.func g) #[] #[p]] w fun e w' => e = .returned (.bool (riseB ss)) ∧ Below w.heap.size w w' := by
  unfold maxLen at hn
  generalize hR : riseB ss = R
  have HR := Go.Lib.hid hR
  have LA := Go.Lib.hid la
  have HK := Go.Lib.hid hk
  clear hR la hk
  go_enter Try.func67, Try.ntmps67
  go_wp2_with fail
  go_loopw [5] (fun i wr => ∃ j : Nat, j + 1 ≤ max n 1 ∧ i = .int .i64 ((j + 1 : Nat) : Int) ∧ riseB (ss.take (j + 1)) = true ∧ Below w.heap.size w wr) (fun i _ => n - (intOf i).toNat)
  case atStart =>
    refine ⟨0, by omega, rfl, ?_, Below.refl _ _⟩
    cases ss with
    | nil => rfl
    | cons a l => simp [riseB]
  case round =>
    obtain ⟨j, hj, rfl, hq, hb⟩ := hrel
    have HQ := Go.Lib.hid hq
    clear hq
    have e1 : ((j + 1 : Nat) : Int) = (j : Int) + 1 := by omega
    by_cases hlt : j + 1 < n
    · have i1 : (j : Int) + 1 < n := by omega
      have c1 := HK.out wr hb j (by omega)
      have c2 : ∀ W, Below w.heap.size w W → Calls Try.prog g #[.int .i64 ((j : Int) + 1), p] W fun e W' => e = .returned (.string (ss.getD (j + 1) ByteArray.empty)) ∧ Below W.heap.size W W' := fun W h => by
        have := HK.out W h (j + 1) hlt
        rwa [e1] at this
      have ta := take_two ss j (by rw [LA.out]; exact hlt)
      have tb := take_get ss j (by rw [LA.out]; omega)
      have TA := Go.Lib.hid ta
      have TB := Go.Lib.hid tb
      clear ta tb
      generalize hx : ss.getD j ByteArray.empty = x at *
      generalize hy : ss.getD (j + 1) ByteArray.empty = y at *
      have C1 := Go.Lib.hid c1
      have C2 := Go.Lib.hid c2
      clear hx hy c1 c2
      have ts := rise_snoc (ss.take j) x y
      have TS := Go.Lib.hid ts
      clear ts
      by_cases hl : less x y = true
      · have hbl : Op.bytesLess x.toList y.toList = true := hl
        go_wp2_with (first | (refine (C1.out).mono ?_; rintro e w1 ⟨rfl, b1⟩) | (refine (C2.out _ (below_chain hb b1)).mono ?_; rintro e w2 ⟨rfl, b2⟩))
        go_roundw
        case rel => exact ⟨j + 1, by omega, by go_num, by rw [TA.out, TS.out, ← TB.out, HQ.out, hl]; rfl, below_chain (below_chain hb b1) b2⟩
        case measure => simp [intOf]; omega
      · have hbl : Op.bytesLess x.toList y.toList = false := by simpa [less] using hl
        have hR : R = false := by
          rw [← HR.out]
          cases h : riseB ss with
          | false => rfl
          | true =>
            exfalso
            rw [← List.take_append_drop (j + 2) ss] at h
            have h2 := rise_prefix _ _ h
            rw [TA.out, TS.out, Bool.and_eq_true] at h2
            exact hl h2.2
        subst hR
        go_wp2_with (first | (refine (C1.out).mono ?_; rintro e w1 ⟨rfl, b1⟩) | (refine (C2.out _ (below_chain hb b1)).mono ?_; rintro e w2 ⟨rfl, b2⟩))
        go_ret
        exact ⟨rfl, below_chain (below_chain hb b1) b2⟩
    · have hR : R = true := by
        rw [← HR.out]
        have h1 := HQ.out
        rwa [List.take_of_length_le (by rw [LA.out]; omega)] at h1
      subst hR
      have i1 : ¬ (j : Int) + 1 < n := by omega
      go_wp2_with fail
      go_ret
      exact ⟨rfl, hb⟩

set_option maxHeartbeats 2000000 in
set_option maxRecDepth 100000 in
theorem tagKey_any (B : Nat) (A : Option Addr) (n ca : Nat) (ss : List ByteArray) (i : Nat) (w : World) (hc : w.cell? ⟨B, 0, none⟩ = some (.slice A n ca)) (ha : RdS w A n ca ss) (hi : i < n) :
    Calls Try.prog 68 #[.int .i64 (i : Int), .pointer (some ⟨B, 0, none⟩)] w fun e w' => e = .returned (.string (ss.getD i ByteArray.empty)) ∧ Below w.heap.size w w' := by
  obtain ⟨ba, oa, rfl, _, ka⟩ := RdS.at_ ha (by omega)
  have ka1 := ka i hi
  have i1 : (i : Int) < n := by omega
  clear ka ha
  generalize ss.getD i ByteArray.empty = x at *
  go_enter Try.func68, Try.ntmps68
  go_wp2_with fail
  go_ret
  exact ⟨rfl, Below.refl _ _⟩

set_option maxHeartbeats 2000000 in
set_option maxRecDepth 100000 in
theorem fieldKey_any (B : Nat) (A : Option Addr) (n ca : Nat) (fs : List (ByteArray × Int)) (i : Nat) (w : World) (hc : w.cell? ⟨B, 0, none⟩ = some (.slice A n ca)) (ha : RdF w A n ca fs) (hi : i < n) :
    Calls Try.prog 69 #[.int .i64 (i : Int), .pointer (some ⟨B, 0, none⟩)] w fun e w' => e = .returned (.string (fs.getD i (ByteArray.empty, 0)).1) ∧ Below w.heap.size w w' := by
  obtain ⟨ba, oa, rfl, _, ka⟩ := RdF.at_ ha (by omega)
  obtain ⟨ka1, ka2⟩ := ka i hi
  have i1 : (i : Int) < n := by omega
  clear ka ha
  generalize fs.getD i (ByteArray.empty, 0) = x at *
  obtain ⟨x, z⟩ := x
  simp only at ka1 ka2 ⊢
  go_enter Try.func69, Try.ntmps69
  go_wp2_with fail
  go_ret
  exact ⟨rfl, Below.refl _ _⟩

theorem box_cell (w : World) (v : Value) (t : TypeId) : (w.alloc (.cells #[v] t)).cell? ⟨w.heap.size, 0, none⟩ = some v := by
  rw [cell_of_row _ w.heap.size 0 _ _ _ (heap_alloc_new w _)]
  rfl

set_option maxHeartbeats 2000000 in
set_option maxRecDepth 100000 in
theorem tagsRise_any (A : Option Addr) (n ca : Nat) (ss : List ByteArray) (w : World) (ha : RdS w A n ca ss) :
    Calls Try.prog 41 #[.slice A n ca] w fun e w' => e = .returned (.bool (riseB ss)) ∧ Below w.heap.size w w' := by
  have b0 : Below w.heap.size w (w.alloc (.cells #[.slice A n ca] 41)) := (Below.refl _ _).alloc (Nat.le_refl _) _
  have k0 := box_cell w (.slice A n ca) 41
  have a0 := RdC.below ha b0
  have c := Go.Lib.hid (rise_any n ss 68 (.pointer (some ⟨w.heap.size, 0, none⟩)) (w.alloc (.cells #[.slice A n ca] 41)) ha.len (RdC.le ha) (enters_of Try.func68 (by kernel_rfl) rfl)
    (fun W hW i hi => tagKey_any w.heap.size A n ca ss i W (bcell hW k0) (RdC.below a0 hW) hi))
  clear ha a0
  generalize riseB ss = R at c ⊢
  go_enter Try.func41, Try.ntmps41
  go_wp2_with (refine (c.out).mono ?_; rintro e w' ⟨rfl, b1⟩)
  go_ret
  exact ⟨rfl, below_chain b0 b1⟩

set_option maxHeartbeats 2000000 in
set_option maxRecDepth 100000 in
theorem fieldsRise_any (A : Option Addr) (n ca : Nat) (fs : List (ByteArray × Int)) (w : World) (ha : RdF w A n ca fs) :
    Calls Try.prog 42 #[.slice A n ca] w fun e w' => e = .returned (.bool (riseB (fs.map (·.1)))) ∧ Below w.heap.size w w' := by
  have b0 : Below w.heap.size w (w.alloc (.cells #[.slice A n ca] 42)) := (Below.refl _ _).alloc (Nat.le_refl _) _
  have k0 := box_cell w (.slice A n ca) 42
  have a0 := RdC.below ha b0
  have hl := ha.len
  have c := Go.Lib.hid (rise_any n (fs.map (·.1)) 69 (.pointer (some ⟨w.heap.size, 0, none⟩)) (w.alloc (.cells #[.slice A n ca] 42)) (by rw [List.length_map, hl]) (RdC.le ha) (enters_of Try.func69 (by kernel_rfl) rfl)
    (fun W hW i hi => by
      have h := fieldKey_any w.heap.size A n ca fs i W (bcell hW k0) (RdC.below a0 hW) hi
      have e : (fs.map (·.1)).getD i ByteArray.empty = (fs.getD i (ByteArray.empty, 0)).1 := by
        have hi' : i < fs.length := by omega
        simp [List.getD, List.getElem?_eq_getElem hi']
      rw [e]
      exact h))
  clear ha a0 hl
  generalize riseB (fs.map (·.1)) = R at c ⊢
  go_enter Try.func42, Try.ntmps42
  go_wp2_with (refine (c.out).mono ?_; rintro e w' ⟨rfl, b1⟩)
  go_ret
  exact ⟨rfl, below_chain b0 b1⟩

set_option maxHeartbeats 8000000 in
set_option maxRecDepth 100000 in
theorem evMay_any (v : Value) (ev : Ev) (w : World) (hv : IsEv w v ev) (hok : EvOk ev) :
    Calls Try.prog 22 #[v] w fun e w' => e = .returned (.int .i64 (mayE ev)) ∧ Below w.heap.size w w' := by
  obtain ⟨A, n, ca, B, m, cb, rfl, ha, hb⟩ := hv
  obtain ⟨s, t, ts, fs⟩ := ev
  obtain ⟨ks, kt, ktags, knames, knums⟩ := hok
  simp only at ha hb ks kt ktags knames knums
  have hn := RdC.le ha
  have hm := RdC.le hb
  unfold maxLen at hn hm
  have la := ha.len
  have lb := hb.len
  generalize hR : mayE ⟨s, t, ts, fs⟩ = R
  unfold mayE at hR
  simp only at hR
  rw [la, lb] at hR
  have HR := Go.Lib.hid hR
  clear hR la lb
  have KT := Go.Lib.hid ktags
  have KN := Go.Lib.hid knames
  clear ktags knames knums
  have B1 : Below w.heap.size w (w.alloc (.cells #[.string s, .string t, .slice A n ca, .slice B m cb] 44)) := (Below.refl _ _).alloc (Nat.le_refl _) _
  have E1 := EvAt.new w (.string s) (.string t) (.slice A n ca) (.slice B m cb)
  have a1 := RdC.below ha B1
  have r1 := RdC.below hb B1
  have p0 := E1.c0
  go_enter Try.func22, Try.ntmps22
  go_wp2_with fail
  generalize w.alloc (.cells #[.string s, .string t, .slice A n ca, .slice B m cb] 44) = w1 at *
  clear ha hb
  refine (name_told (s := s) ks _).mono ?_
  rintro e w2 ⟨rfl, b2⟩
  have E2 := E1.below b2 E1.lt
  have a2 := RdC.below a1 b2
  have r2 := RdC.below r1 b2
  have B2 := below_chain B1 b2
  have p1 := E2.c1
  clear E1 a1 r1 B1 b2 p0
  cases hs : nameB s
  · have hR : R = 5 := by rw [← HR.out, hs, Bool.false_and, if_pos rfl]
    subst hR
    go_wp2_with fail
    go_ret
    exact ⟨rfl, B2⟩
  go_wp2_with fail
  refine (name_told (s := t) kt _).mono ?_
  rintro e w3 ⟨rfl, b3⟩
  have E3 := E2.below b3 E2.lt
  have a3 := RdC.below a2 b3
  have r3 := RdC.below r2 b3
  have B3 := below_chain B2 b3
  have p2 := E3.c2
  have p3 := E3.c3
  clear E2 a2 r2 B2 b3 p1
  cases ht : nameB t
  · have hR : R = 5 := by rw [← HR.out, ht, Bool.and_false, if_pos rfl]
    subst hR
    go_wp2_with fail
    go_ret
    exact ⟨rfl, B3⟩
  by_cases h6 : 6 < n
  · have hR : R = 3 := by rw [← HR.out, hs, ht, if_neg (by decide), if_pos (.inl h6)]
    subst hR
    have i1 : (6 : Int) < n := by omega
    go_wp2_with fail
    go_ret
    exact ⟨rfl, B3⟩
  by_cases h4 : 4 < m
  · have hR : R = 3 := by rw [← HR.out, hs, ht, if_neg (by decide), if_pos (.inr h4)]
    subst hR
    have i1 : ¬ (6 : Int) < n := by omega
    have i2 : (4 : Int) < m := by omega
    go_wp2_with fail
    go_ret
    exact ⟨rfl, B3⟩
  have hr2 : (if ((fs.all fun f => nameB f.1) && ts.all tagB) = false then 5 else if (fs.all fitB && (riseB ts && riseB (fs.map (·.1)))) = false then 1 else 0 : Int) = R := by
    have := HR.out
    rwa [hs, ht, if_neg (by decide), if_neg (by omega)] at this
  have HR2 := Go.Lib.hid hr2
  clear HR hs ht hr2
  have i1 : ¬ (6 : Int) < n := by omega
  have i2 : ¬ (4 : Int) < m := by omega
  go_wp2_with fail
  refine (areTags_any A n ca ts _ a3 KT.out).mono ?_
  rintro e w4 ⟨rfl, b4⟩
  have E4 := E3.below b4 E3.lt
  have a4 := RdC.below a3 b4
  have r4 := RdC.below r3 b4
  have B4 := below_chain B3 b4
  have q2 := E4.c2
  have q3 := E4.c3
  clear E3 a3 r3 B3 b4 p2 p3
  cases h5 : ts.all tagB
  · have hR : R = 5 := by rw [← HR2.out, h5, Bool.and_false, if_pos rfl]
    subst hR
    go_wp2_with fail
    go_ret
    exact ⟨rfl, B4⟩
  go_wp2_with fail
  refine (areNamed_any B m cb fs _ r4 KN.out).mono ?_
  rintro e w5 ⟨rfl, b5⟩
  have E5 := E4.below b5 E4.lt
  have a5 := RdC.below a4 b5
  have r5 := RdC.below r4 b5
  have B5 := below_chain B4 b5
  have p2 := E5.c2
  have p3 := E5.c3
  clear E4 a4 r4 B4 b5 q2 q3
  cases h7 : fs.all fun f => nameB f.1
  · have hR : R = 5 := by rw [← HR2.out, h7, Bool.false_and, if_pos rfl]
    subst hR
    go_wp2_with fail
    go_ret
    exact ⟨rfl, B5⟩
  have hr3 : (if (fs.all fitB && (riseB ts && riseB (fs.map (·.1)))) = false then 1 else 0 : Int) = R := by
    have := HR2.out
    rwa [h5, h7, if_neg (by decide)] at this
  have HR3 := Go.Lib.hid hr3
  clear HR2 h5 h7 hr3
  go_wp2_with fail
  refine (tagsRise_any A n ca ts _ a5).mono ?_
  rintro e w6 ⟨rfl, b6⟩
  have E6 := E5.below b6 E5.lt
  have r6 := RdC.below r5 b6
  have B6 := below_chain B5 b6
  have q3 := E6.c3
  clear E5 a5 r5 B5 b6 p2 p3
  cases h8 : riseB ts
  · have hR : R = 1 := by rw [← HR3.out, h8, Bool.false_and, Bool.and_false, if_pos rfl]
    subst hR
    go_wp2_with fail
    go_ret
    exact ⟨rfl, B6⟩
  go_wp2_with fail
  refine (fieldsRise_any B m cb fs _ r6).mono ?_
  rintro e w7 ⟨rfl, b7⟩
  have E7 := E6.below b7 E6.lt
  have r7 := RdC.below r6 b7
  have B7 := below_chain B6 b7
  have p3 := E7.c3
  clear E6 r6 B6 b7 q3
  cases h9 : riseB (fs.map (·.1))
  · have hR : R = 1 := by rw [← HR3.out, h9, Bool.and_false, Bool.and_false, if_pos rfl]
    subst hR
    go_wp2_with fail
    go_ret
    exact ⟨rfl, B7⟩
  go_wp2_with fail
  refine (areFit_any B m cb fs _ r7).mono ?_
  rintro e w8 ⟨rfl, b8⟩
  have B8 := below_chain B7 b8
  clear E7 r7 B7 b8 p3
  cases h0 : fs.all fitB
  · have hR : R = 1 := by rw [← HR3.out, h0, Bool.false_and, if_pos rfl]
    subst hR
    go_wp2_with fail
    go_ret
    exact ⟨rfl, B8⟩
  have hR : R = 0 := by rw [← HR3.out, h0, h8, h9, if_neg (by decide)]
  subst hR
  go_wp2_with fail
  go_ret
  exact ⟨rfl, B8⟩

end Go.Proofs.Ytjoifkmcfenhpaa.EvWalk

/-
  Contracts of layer 5: encode (its closures write one variable), Put.
-/
namespace Go.Proofs.Ytjoifkmcfenhpaa.EdWalk
open Go.RowKit Go.Proofs.Ytjoifkmcfenhpaa.MemRow Go.Proofs.Ytjoifkmcfenhpaa.Ev Go.Proofs.Ytjoifkmcfenhpaa.NameMath Go.Proofs.Ytjoifkmcfenhpaa.NameWalk Go.Proofs.Ytjoifkmcfenhpaa.EvWalk Go.Proofs.Ytjoifkmcfenhpaa.NumMath Go.Proofs.Ytjoifkmcfenhpaa.NumMem Go.Proofs.Ytjoifkmcfenhpaa.NumWalk Go.Proofs.Ytjoifkmcfenhpaa.EcWalk

/-- The variable that the closures write: block B holds a slice that reads as the bytes l. -/
def BoxB (w : World) (B : Nat) (l : List UInt8) : Prop := ∃ A cap, w.heap[B]? = some (.cells #[.slice A l.length cap] 27 (0, 0)) ∧ Rd w A l.length cap l
theorem BoxB.lt {w : World} {B : Nat} {l : List UInt8} (h : BoxB w B l) : B < w.heap.size := by
  obtain ⟨A, cap, hh, _⟩ := h
  exact lt_of_block hh
theorem BoxB.below {w w' : World} {B : Nat} {l : List UInt8} (h : BoxB w B l) (hb : Below w.heap.size w w') : BoxB w' B l := by
  have hlt := h.lt
  obtain ⟨A, cap, hh, hr⟩ := h
  exact ⟨A, cap, (hb.block B hlt).trans hh, hr.below hb⟩
theorem one_no_byte {w : World} {g : Nat} {v : Value} {t : TypeId} (h : w.heap[g]? = some (.cells #[v] t (0, 0))) (h0 : ∀ k, v ≠ .int .u8 k) : ∀ o k, w.cell? ⟨g, o, none⟩ ≠ some (.int .u8 k) := by
  intro o k
  rw [cell_of_row w g o _ t (0, 0) h]
  match o with
  | 0 => simpa using h0 k
  | n + 1 => simp
/-- A new row is laid, and the variable names it. -/
theorem box_store {w w1 : World} {B n : Nat} {l l' : List UInt8} (h : BoxB w B l) (hb : Below w.heap.size w w1) (hr : Row w1 w.heap.size 5 l') (hn : l'.length = n) (hm : n ≤ maxLen) :
    BoxB (w1.setCell ⟨B, 0, none⟩ (.slice (some ⟨w.heap.size, 0, none⟩) n n)) B l' ∧ w.grownBy (w1.setCell ⟨B, 0, none⟩ (.slice (some ⟨w.heap.size, 0, none⟩) n n)) (some B) := by
  subst hn
  have hlt := h.lt
  obtain ⟨A, cap, hh, _⟩ := h
  have hh1 := (hb.block B hlt).trans hh
  have hs := grown_set w1 B 0 (.slice (some ⟨w.heap.size, 0, none⟩) l'.length l'.length)
  refine ⟨⟨_, _, one_setCell hh1, (hr.rd hm).grown hs (one_no_byte hh1 (by simp))⟩, ?_⟩
  exact ⟨hs.os.trans hb.os, hs.tape.trans hb.tape, hs.output.trans hb.output, Nat.le_trans hb.size hs.size, fun k hk hne => (hs.block k (Nat.lt_of_lt_of_le hk hb.size) hne).trans (hb.block k hk)⟩

set_option maxHeartbeats 2000000 in
set_option maxRecDepth 100000 in
theorem encNum_any (B : Nat) (l : List UInt8) (x : Int) (w : World) (h : BoxB w B l) (hx : -9223372036854775808 ≤ x ∧ x ≤ 9223372036854775807) (hl : l.length ≤ 10000000) :
    Calls Try.prog 56 #[.int .i64 x, .pointer (some ⟨B, 0, none⟩)] w fun e w' => ∃ l', Hid (l' = l ++ enc x) ∧ e = .returned (.tuple #[]) ∧ BoxB w' B l' ∧ w.grownBy w' (some B) := by
  have H := Go.Lib.hid h
  obtain ⟨A, cap, hh, hr⟩ := h
  have k0 := cell_of_one hh
  have hlt := lt_of_block hh
  have HH := Go.Lib.hid hh
  have hel := enc_le x hx.1 hx.2
  obtain ⟨hx0, hx1⟩ := hx
  clear hh
  go_enter Try.func56, Try.ntmps56
  go_wp2_with fail
  refine (put_any A l.length cap l x w hr hx0 hx1 (by omega)).mono ?_
  rintro e w1 ⟨rfl, hr1, hb1⟩
  have hh1 := (hb1.block B hlt).trans HH.out
  have k1 := cell_of_one hh1
  have f1 := free_of_one hh1
  have bs := box_store H.out hb1 hr1 (n := l.length + (enc x).length) (by rw [List.length_append]) (by unfold maxLen; omega)
  have BS := Go.Lib.hid bs
  clear hh1 bs hr1 hr k0
  generalize (enc x).length = q at *
  go_wp2_with fail
  go_end0
  exact ⟨_, Go.Lib.hid rfl, rfl, BS.out.1, BS.out.2⟩

set_option maxHeartbeats 2000000 in
set_option maxRecDepth 100000 in
theorem encText_any (B : Nat) (l : List UInt8) (s : ByteArray) (w : World) (h : BoxB w B l) (hs : s.size ≤ 1000) (hl : l.length ≤ 10000000) :
    Calls Try.prog 57 #[.string s, .pointer (some ⟨B, 0, none⟩)] w fun e w' => ∃ l', Hid (l' = l ++ txt s) ∧ e = .returned (.tuple #[]) ∧ BoxB w' B l' ∧ w.grownBy w' (some B) := by
  have H := Go.Lib.hid h
  obtain ⟨A, cap, hh, hr⟩ := h
  have k0 := cell_of_one hh
  have hlt := lt_of_block hh
  have HH := Go.Lib.hid hh
  have hel := enc_le (s.size : Int) (by omega) (by omega)
  clear hh
  go_enter Try.func57, Try.ntmps57
  go_wp2_with fail
  refine (putText_any A l.length cap l s w hr (by omega) (by omega)).mono ?_
  rintro e w1 ⟨rfl, hr1, hb1⟩
  have hh1 := (hb1.block B hlt).trans HH.out
  have k1 := cell_of_one hh1
  have f1 := free_of_one hh1
  rw [List.append_assoc] at hr1
  have bs := box_store H.out hb1 hr1 (n := l.length + ((enc (s.size : Int)).length + s.size)) (by rw [List.length_append, List.length_append, size_list]) (by unfold maxLen; omega)
  have BS := Go.Lib.hid bs
  clear hh1 bs hr1 hr k0
  generalize (enc (s.size : Int)).length = q at *
  go_wp2_with fail
  go_end0
  exact ⟨_, Go.Lib.hid rfl, rfl, BS.out.1, BS.out.2⟩

end Go.Proofs.Ytjoifkmcfenhpaa.EdWalk

/-
  Contract of layer 5: encode: an event that may be, laid down in bytes of its own.
-/
namespace Go.Proofs.Ytjoifkmcfenhpaa.EdWalk
open Go.RowKit Go.Proofs.Ytjoifkmcfenhpaa.MemRow Go.Proofs.Ytjoifkmcfenhpaa.Ev Go.Proofs.Ytjoifkmcfenhpaa.NameMath Go.Proofs.Ytjoifkmcfenhpaa.NameWalk Go.Proofs.Ytjoifkmcfenhpaa.EvWalk Go.Proofs.Ytjoifkmcfenhpaa.NumMath Go.Proofs.Ytjoifkmcfenhpaa.NumMem Go.Proofs.Ytjoifkmcfenhpaa.NumWalk Go.Proofs.Ytjoifkmcfenhpaa.EcWalk

/-- What stands while an event is laid down: the event's box, the bytes' box, all else. -/
structure EncAt (wr w : World) (B : Nat) (s t : ByteArray) (T F : Value) (l : List UInt8) : Prop where
  ev : EvAt wr w.heap.size (.string s) (.string t) T F
  bx : BoxB wr B l
  be : Below w.heap.size w wr
  lt : w.heap.size < B

theorem EncAt.step {wr w w' : World} {B : Nat} {s t : ByteArray} {T F : Value} {l l' : List UInt8} (h : EncAt wr w B s t T F l) (hb : BoxB w' B l') (hg : wr.grownBy w' (some B)) : EncAt w' w B s t T F l' := by
  have hl := h.lt
  exact ⟨h.ev.grown hg (by simp; omega), hb, h.be.grown hg h.be.size (by rintro k ⟨rfl⟩; omega), hl⟩
theorem EncAt.below {wr w w' : World} {B : Nat} {s t : ByteArray} {T F : Value} {l : List UInt8} (h : EncAt wr w B s t T F l) (hb : Below wr.heap.size wr w') : EncAt w' w B s t T F l :=
  ⟨h.ev.below hb h.ev.lt, h.bx.below hb, below_chain h.be hb, h.lt⟩

set_option maxHeartbeats 4000000 in
set_option maxRecDepth 100000 in
theorem encode_any (v : Value) (ev : Ev) (w : World) (hv : IsEv w v ev) (sm : Small ev) :
    Calls Try.prog 32 #[v] w fun e w' => ∃ A c l', Hid (l' = encE ev) ∧ e = .returned (.slice A l'.length c) ∧ Rd w' A l'.length c l' ∧ Below w.heap.size w w' := by
  obtain ⟨T, nT, cT, F, nF, cF, rfl, hT, hF⟩ := hv
  have LT := Go.Lib.hid (RdS.len hT)
  have LF := Go.Lib.hid (RdF.len hF)
  have SM := Go.Lib.hid sm
  have hs : ev.s.size ≤ 1000 := by have := sm.s; omega
  have ht : ev.t.size ≤ 1000 := by have := sm.t; omega
  have hnt : nT ≤ 6 := by rw [← LT.out]; exact sm.nt
  have hnf : nF ≤ 4 := by rw [← LF.out]; exact sm.nf
  have B1 : Below w.heap.size w (w.alloc (.cells #[.string ev.s, .string ev.t, .slice T nT cT, .slice F nF cF] 44)) := (Below.refl _ _).alloc (Nat.le_refl _) _
  have E1 := EvAt.new w (.string ev.s) (.string ev.t) (.slice T nT cT) (.slice F nF cF)
  clear sm
  go_enter Try.func32, Try.ntmps32
  go_upto_region 1 with (fail)
  generalize w.alloc (.cells #[.string ev.s, .string ev.t, .slice T nT cT, .slice F nF cF] 44) = w1 at *
  go_upto_region 2 with (fail)
  have al : Below w1.heap.size w1 (w1.alloc (.cells #[.slice none 0 0] 27)) := (Below.refl _ _).alloc (Nat.le_refl _) _
  have a2 : EncAt (w1.alloc (.cells #[.slice none 0 0] 27)) w w1.heap.size ev.s ev.t (.slice T nT cT) (.slice F nF cF) [] :=
    ⟨E1.below al E1.lt, ⟨none, 0, heap_alloc_new w1 _, Rd.nil _⟩, below_chain B1 al, E1.lt⟩
  generalize w1.alloc (.cells #[.slice none 0 0] 27) = w2 at *
  generalize w1.heap.size = B at *
  clear al B1 E1
  have k0 := a2.ev.c0
  go_wp2_with fail
  refine (encText_any B [] ev.s w2 a2.bx hs (by simp)).mono ?_
  rintro e w3 ⟨l3, H3, rfl, bx, gg⟩
  have a3 := a2.step bx gg
  have k1 := a3.ev.c1
  have hl3 : l3.length ≤ 10000000 := by have := txt_le hs; rw [H3.out]; simp; omega
  clear a2 bx gg k0
  go_wp2_with fail
  refine (encText_any B l3 ev.t w3 a3.bx ht hl3).mono ?_
  rintro e w4 ⟨l4, H4, rfl, bx, gg⟩
  have a4 := a3.step bx gg
  have k2 := a4.ev.c2
  have hl4 : l4.length ≤ 10000000 := by
    have h1 := txt_le hs
    have h2 := txt_le ht
    rw [H4.out, H3.out]
    simp
    omega
  have hxT : -9223372036854775808 ≤ (nT : Int) ∧ (nT : Int) ≤ 9223372036854775807 := by omega
  clear a3 bx gg k1 hl3
  go_wp2_with fail
  refine (encNum_any B l4 (nT : Int) w4 a4.bx hxT hl4).mono ?_
  rintro e w5 ⟨l5, H5, rfl, bx, gg⟩
  have a5 := a4.step bx gg
  have k2' := a5.ev.c2
  have e5 : l5 = txt ev.s ++ txt ev.t ++ enc (ev.tags.length : Int) ++ txts (ev.tags.take 0) := by
    rw [H5.out, H4.out, H3.out, LT.out]
    simp [txts, List.append_assoc]
  have HE5 := Go.Lib.hid e5
  clear a4 bx gg k2 hl4 hxT e5
  go_wp2_with fail
  go_loopw [7, 28] (fun _ i wr => ∃ (j : Nat) (l' : List UInt8), j ≤ nT ∧ i = .int .i64 j ∧ Hid (l' = txt ev.s ++ txt ev.t ++ enc (ev.tags.length : Int) ++ txts (ev.tags.take j)) ∧ EncAt wr w B ev.s ev.t (.slice T nT cT) (.slice F nF cF) l') (fun _ i _ => nT - (intOf i).toNat)
  case atStart => exact ⟨0, l5, Nat.zero_le _, rfl, HE5, a5⟩
  case round =>
    obtain ⟨j, l', hj, rfl, HQ, aq⟩ := hrel
    have hlq : l'.length ≤ 10000000 := by
      have h1 := head_le SM.out j
      rw [HQ.out]
      omega
    clear a5 k2'
    by_cases hlt : j < nT
    · obtain ⟨bt, ot, rfl, _, kt⟩ := RdS.at_ (RdC.below hT aq.be) (by omega)
      have ka1 := kt j hlt
      have i1 : (j : Int) < nT := by omega
      have hjl : j < ev.tags.length := by rw [LT.out]; exact hlt
      have ta := take_get ev.tags j hjl
      have hy := SM.out.tags _ (mem_getD ev.tags j hjl)
      have TA := Go.Lib.hid ta
      clear kt ta hjl
      generalize ev.tags.getD j ByteArray.empty = y at *
      have hy' : y.size ≤ 1000 := by omega
      go_wp2_with fail
      refine (encText_any B l' y wr aq.bx hy' hlq).mono ?_
      rintro e w6 ⟨l6, H6, rfl, bx, gg⟩
      have a6 := aq.step bx gg
      have H7 : Hid (l6 = txt ev.s ++ txt ev.t ++ enc (ev.tags.length : Int) ++ txts (ev.tags.take (j + 1))) := Go.Lib.hid (by rw [H6.out, HQ.out, TA.out, txts_snoc]; simp only [List.append_assoc])
      clear ka1 aq bx gg
      go_wp2_with fail
      go_roundw
      case rel => exact ⟨j + 1, l6, by omega, by go_num, H7, a6⟩
      case measure => simp [intOf]; omega
    · obtain rfl : nT = j := by omega
      have hxF : -9223372036854775808 ≤ (nF : Int) ∧ (nF : Int) ≤ 9223372036854775807 := by omega
      have k3 := aq.ev.c3
      go_wp2_with fail
      refine (encNum_any B l' (nF : Int) wr aq.bx hxF hlq).mono ?_
      rintro e w7 ⟨l7, H7, rfl, bx, gg⟩
      have a7 := aq.step bx gg
      have k3' := a7.ev.c3
      have H8 : Hid (l7 = txt ev.s ++ txt ev.t ++ enc (ev.tags.length : Int) ++ txts ev.tags ++ (enc (ev.fs.length : Int) ++ fldsE (ev.fs.take 0))) := Go.Lib.hid (by
        rw [H7.out, HQ.out, List.take_of_length_le (by rw [LT.out]; exact Nat.le_refl _), LF.out]
        simp [fldsE, List.append_assoc])
      clear k3 hxF hlq HQ aq bx gg
      go_wp2_with fail
      go_loopw [9, 44] (fun _ i wq => ∃ (k : Nat) (l' : List UInt8), k ≤ nF ∧ i = .int .i64 k ∧ Hid (l' = txt ev.s ++ txt ev.t ++ enc (ev.tags.length : Int) ++ txts ev.tags ++ (enc (ev.fs.length : Int) ++ fldsE (ev.fs.take k))) ∧ EncAt wq w B ev.s ev.t (.slice T nT cT) (.slice F nF cF) l') (fun _ i _ => nF - (intOf i).toNat)
      case atStart => exact ⟨0, l7, Nat.zero_le _, rfl, H8, a7⟩
      case round =>
        obtain ⟨k, l', hk, rfl, HQ, aq⟩ := hrel
        clear a7 k3'
        have hlq : l'.length ≤ 1100000 := by
          have h1 := head_le SM.out ev.tags.length
          have h2 := tail_le SM.out k
          rw [List.take_of_length_le (Nat.le_refl _)] at h1
          rw [HQ.out, List.length_append]
          omega
        by_cases hlt : k < nF
        · obtain ⟨bf, of, rfl, _, kf⟩ := RdF.at_ (RdC.below hF aq.be) (by omega)
          obtain ⟨y1, y2⟩ := kf k hlt
          have i1 : (k : Int) < nF := by omega
          have hkl : k < ev.fs.length := by rw [LF.out]; exact hlt
          have ta := fs_take ev.fs k hkl
          have hy := SM.out.names _ (fs_mem ev.fs k hkl)
          have hz := SM.out.nums _ (fs_mem ev.fs k hkl)
          have TA := Go.Lib.hid ta
          clear kf ta hkl
          generalize ev.fs.getD k (ByteArray.empty, 0) = f at *
          obtain ⟨nm, nz⟩ := f
          simp only at y1 y2 hy hz
          have hy' : nm.size ≤ 1000 := by omega
          have hz' : -9223372036854775808 ≤ nz ∧ nz ≤ 9223372036854775807 := by omega
          have hl2 : l'.length ≤ 10000000 := by omega
          go_upto_region 16 with (fail)
          have al : Below wr.heap.size wr (wr.alloc (.cells #[.string nm, .int .i64 nz] 64)) := (Below.refl _ _).alloc (Nat.le_refl _) _
          have ar := aq.below al
          have fa : FldAt (wr.alloc (.cells #[.string nm, .int .i64 nz] 64)) wr.heap.size (nm, nz) := heap_alloc_new wr _
          have hBr : B < wr.heap.size := aq.bx.lt
          generalize wr.alloc (.cells #[.string nm, .int .i64 nz] 64) = w8 at *
          generalize wr.heap.size = g8 at *
          have q0 := fa.c0
          clear y1 y2 al aq
          go_wp2_with fail
          refine (encText_any B l' nm w8 ar.bx hy' hl2).mono ?_
          rintro e w9 ⟨l9, H9, rfl, bx, gg⟩
          have a9 := ar.step bx gg
          have f9 : FldAt w9 g8 (nm, nz) := (gg.block g8 fa.lt (fun e => by injection e with e; omega)).trans fa
          have q1 := f9.c1
          have hl9 : l9.length ≤ 10000000 := by have h1 := txt_le hy'; rw [H9.out, List.length_append]; omega
          clear q0 ar bx gg fa
          go_wp2_with fail
          refine (encNum_any B l9 nz w9 a9.bx hz' hl9).mono ?_
          rintro e w10 ⟨l10, H10, rfl, bx, gg⟩
          have a10 := a9.step bx gg
          have H11 : Hid (l10 = txt ev.s ++ txt ev.t ++ enc (ev.tags.length : Int) ++ txts ev.tags ++ (enc (ev.fs.length : Int) ++ fldsE (ev.fs.take (k + 1)))) := Go.Lib.hid (by rw [H10.out, H9.out, HQ.out, TA.out, fldsE_snoc, fldE]; simp only [List.append_assoc])
          clear q1 a9 bx gg f9
          go_wp2_with fail
          go_roundw
          case rel => exact ⟨k + 1, l10, by omega, by go_num, H11, a10⟩
          case measure => simp [intOf]; omega
        · obtain rfl : nF = k := by omega
          have HF2 : l' = encE ev := by
            rw [HQ.out, List.take_of_length_le (by rw [LF.out]; exact Nat.le_refl _), encE]
            simp only [List.append_assoc]
          have HH := Go.Lib.hid HF2
          obtain ⟨A, c, hh, hr⟩ := aq.bx
          have k0 := cell_of_one hh
          have be := aq.be
          clear HF2 hh HQ aq
          go_wp2_with fail
          go_ret
          exact ⟨A, c, l', HH, rfl, hr, be⟩

end Go.Proofs.Ytjoifkmcfenhpaa.EdWalk

/-
  Contract of layer 5: Put.
-/
namespace Go.Proofs.Ytjoifkmcfenhpaa.EdWalk
open Go.RowKit Go.Proofs.Ytjoifkmcfenhpaa.MemRow Go.Proofs.Ytjoifkmcfenhpaa.Ev Go.Proofs.Ytjoifkmcfenhpaa.NameMath Go.Proofs.Ytjoifkmcfenhpaa.NameWalk Go.Proofs.Ytjoifkmcfenhpaa.EvWalk Go.Proofs.Ytjoifkmcfenhpaa.NumMath Go.Proofs.Ytjoifkmcfenhpaa.NumMem Go.Proofs.Ytjoifkmcfenhpaa.NumWalk Go.Proofs.Ytjoifkmcfenhpaa.EcWalk

theorem encE_le {ev : Ev} (sm : Small ev) : (encE ev).length ≤ 20000 := by
  have h1 := head_le sm ev.tags.length
  have h2 := tail_le sm ev.fs.length
  rw [List.take_of_length_le (Nat.le_refl _)] at h1 h2
  simp only [encE, List.length_append] at h1 h2 ⊢
  omega
theorem encE_pos (e : Ev) : 1 ≤ (encE e).length := by
  have h := enc_pos (e.s.size : Int)
  unfold encE txt
  simp only [List.length_append]
  omega

set_option maxHeartbeats 4000000 in
set_option maxRecDepth 100000 in
theorem putE_any (A : Option Addr) (n cap : Nat) (l : List UInt8) (v : Value) (ev : Ev) (w : World) (h : Rd w A n cap l) (hl : l.length ≤ 1000000) (hv : IsEv w v ev) (hok : EvOk ev) :
    Calls Try.prog 19 #[.slice A n cap, v] w fun e w' => PutE l ev w e w' ∧ Below w.heap.size w w' := by
  have hv0 := hv
  obtain ⟨T, nT, cT, F, nF, cF, rfl, hT, hF⟩ := hv
  have LL := Go.Lib.hid h.len
  have B1 : Below w.heap.size w (w.alloc (.cells #[.string ev.s, .string ev.t, .slice T nT cT, .slice F nF cF] 44)) := (Below.refl _ _).alloc (Nat.le_refl _) _
  have E1 := EvAt.new w (.string ev.s) (.string ev.t) (.slice T nT cT) (.slice F nF cF)
  go_enter Try.func19, Try.ntmps19
  go_upto_region 1 with (fail)
  generalize w.alloc (.cells #[.string ev.s, .string ev.t, .slice T nT cT, .slice F nF cF] 44) = w1 at *
  have k0 := E1.c0
  have k1 := E1.c1
  have k2 := E1.c2
  have k3 := E1.c3
  go_wp2_with fail
  refine (evMay_any _ ev w1 (hv0.below B1) hok).mono ?_
  rintro e w2 ⟨rfl, b2⟩
  have E2 := E1.below b2 E1.lt
  have B2 := below_chain B1 b2
  clear k0 k1 k2 k3 E1 B1 b2
  by_cases h0 : mayE ev = 0
  case neg =>
    have m0 : (mayE ev != 0) = true := by rw [bne_iff_ne]; exact h0
    go_wp2_with fail
    go_ret2
    exact ⟨.inr ⟨h0, rfl⟩, B2⟩
  rw [h0]
  have H0 := Go.Lib.hid h0
  have sm := may_smallE h0
  have SM := Go.Lib.hid sm
  clear h0 sm
  have k0 := E2.c0
  have k1 := E2.c1
  have k2 := E2.c2
  have k3 := E2.c3
  go_wp2_with fail
  refine (encode_any _ ev w2 (hv0.below B2) SM.out).mono ?_
  rintro e w3 ⟨A3, c3, l3, H3, rfl, r3, b3⟩
  have B3 := below_chain B2 b3
  have r0 := h.below B3
  have h30 : 0 < n + l3.length := by rw [H3.out]; have := encE_pos ev; omega
  have h31 : n + l3.length ≤ 1000000000 := by rw [H3.out]; have := encE_le SM.out; have := LL.out; omega
  clear k0 k1 k2 k3 E2 B2 b3
  go_wp2_with fail
  have al : Below w3.heap.size w3 (w3.alloc (.cells #[.slice A n cap, .slice A3 l3.length c3] 27)) := (Below.refl _ _).alloc (Nat.le_refl _) _
  have q0 : (w3.alloc (.cells #[.slice A n cap, .slice A3 l3.length c3] 27)).cell? ⟨w3.heap.size, 0, none⟩ = some (.slice A n cap) := by rw [cell_of_row _ w3.heap.size 0 _ _ _ (heap_alloc_new w3 _)]; rfl
  have q1 : (w3.alloc (.cells #[.slice A n cap, .slice A3 l3.length c3] 27)).cell? ⟨w3.heap.size, 1, none⟩ = some (.slice A3 l3.length c3) := by rw [cell_of_row _ w3.heap.size 1 _ _ _ (heap_alloc_new w3 _)]; rfl
  refine (concat_any w3.heap.size A A3 n cap l3.length c3 l l3 _ q0 q1 (r0.below al) (r3.below al) h30 h31).mono ?_
  rintro e w4 ⟨A4, c4, rfl, o4, b4⟩
  have B4 := below_chain (below_chain B3 al) b4
  have hlen : n + l3.length = (l ++ encE ev).length := by rw [H3.out, List.length_append, LL.out]
  have hle := (below_chain B3 al).size
  have HL := Go.Lib.hid hlen
  have O4 := Go.Lib.hid o4
  clear q0 q1 r0 r3 hlen al
  go_wp2_with fail
  go_ret2
  refine ⟨.inl ⟨H0.out, _, rfl, ?_⟩, B4⟩
  have ho := O4.out
  have hx : l ++ l3 = l ++ encE ev := by rw [H3.out]
  rw [HL.out, hx] at ho
  rw [HL.out]
  exact Laid.lower ⟨A4, c4, rfl, ho⟩ hle

end Go.Proofs.Ytjoifkmcfenhpaa.EdWalk

/-
  Contract of the document's answer of layer 4 on lists of events: SameAll.
-/
namespace Go.Proofs.Ytjoifkmcfenhpaa.EcWalk
open Go.RowKit Go.Proofs.Ytjoifkmcfenhpaa.MemRow Go.Proofs.Ytjoifkmcfenhpaa.Ev Go.Proofs.Ytjoifkmcfenhpaa.NameMath Go.Proofs.Ytjoifkmcfenhpaa.NameWalk Go.Proofs.Ytjoifkmcfenhpaa.EvWalk

theorem sameB_eq {a b : Ev} : sameB a b = true ↔ a = b := by
  obtain ⟨s1, t1, g1, f1⟩ := a
  obtain ⟨s2, t2, g2, f2⟩ := b
  simp [sameB]
theorem ev_take (l : List Ev) (j : Nat) (h : j < l.length) : l.take (j + 1) = l.take j ++ [l.getD j noEv] := by
  rw [List.take_succ_eq_append_getElem h]
  simp [List.getD, List.getElem?_eq_getElem h]
theorem ev_get {l : List Ev} {j : Nat} (h : j < l.length) : l.getD j noEv ∈ l := by
  simp only [List.getD, List.getElem?_eq_getElem h, Option.getD_some]
  exact List.getElem_mem h

set_option maxHeartbeats 8000000 in
set_option maxRecDepth 100000 in
theorem refSameAll_any (A B : Option Addr) (n m ca cb : Nat) (es fs : List Ev) (w : World) (ha : RdE w A n ca es) (hb : RdE w B m cb fs) :
    Calls Try.prog 30 #[.slice A n ca, .slice B m cb] w fun e w' => ∃ R : Bool, (R = true ↔ es = fs) ∧ e = .returned (.bool R) ∧ Below w.heap.size w w' := by
  have hn := ha.le
  have hm := hb.le
  unfold maxLen at hn hm
  have la := ha.len
  have lb := hb.len
  by_cases hnm : n = m
  · subst hnm
    have LA := Go.Lib.hid la
    have LB := Go.Lib.hid lb
    clear la lb
    go_enter Try.func30, Try.ntmps30
    go_wp2_with fail
    go_loopw [5, 6] (fun i _ wr => ∃ j : Nat, j ≤ n ∧ i = .int .i64 j ∧ es.take j = fs.take j ∧ Below w.heap.size w wr) (fun i _ _ => n - (intOf i).toNat)
    case atStart => exact ⟨0, Nat.zero_le _, rfl, rfl, Below.refl _ _⟩
    case round =>
      obtain ⟨j, hj, rfl, hq, hw⟩ := hrel
      have HQ := Go.Lib.hid hq
      clear hq
      by_cases hlt : j < n
      · obtain ⟨ba, oa, rfl, _, ka⟩ := RdE.at_ (ha.below hw) (by omega)
        obtain ⟨bb, ob, rfl, _, kb⟩ := RdE.at_ (hb.below hw) (by omega)
        have ta := ev_take es j (by rw [LA.out]; exact hlt)
        have tb := ev_take fs j (by rw [LB.out]; exact hlt)
        have hxe : es = fs → es.getD j noEv = fs.getD j noEv := fun h => by rw [h]
        have i1 : (j : Int) < n := by omega
        have kx := ka j hlt
        have ky := kb j hlt
        have TA := Go.Lib.hid ta
        have TB := Go.Lib.hid tb
        have HXE := Go.Lib.hid hxe
        clear ka kb ta tb hxe
        generalize es.getD j noEv = x at *
        generalize fs.getD j noEv = y at *
        obtain ⟨A1, n1, k1, B1, m1, q1, x0, x1, x2, x3, rx1, rx2⟩ := kx
        obtain ⟨A2, n2, k2, B2, m2, q2, y0, y1, y2, y3, ry1, ry2⟩ := ky
        have b0 : Below wr.heap.size wr wr.drew := bel_drew (Below.refl _ _)
        have vx : IsEv wr.drew (.agg #[.string x.s, .string x.t, .slice A1 n1 k1, .slice B1 m1 q1]) x := ⟨_, _, _, _, _, _, rfl, RdC.below rx1 b0, RdC.below rx2 b0⟩
        have vy : IsEv wr.drew (.agg #[.string y.s, .string y.t, .slice A2 n2 k2, .slice B2 m2 q2]) y := ⟨_, _, _, _, _, _, rfl, RdC.below ry1 b0, RdC.below ry2 b0⟩
        clear rx1 rx2 ry1 ry2
        generalize hT : sameB x y = T
        have HT := Go.Lib.hid hT
        clear hT
        go_wp2_with fail
        go_region_held (fun w' => w'.cell? ⟨ba, oa + j * 4, none⟩ = some (.string x.s) ∧ w'.cell? ⟨ba, oa + j * 4 + 1, none⟩ = some (.string x.t) ∧ w'.cell? ⟨ba, oa + j * 4 + 2, none⟩ = some (.slice A1 n1 k1) ∧ w'.cell? ⟨ba, oa + j * 4 + 3, none⟩ = some (.slice B1 m1 q1) ∧ w'.cell? ⟨bb, ob + j * 4, none⟩ = some (.string y.s) ∧ w'.cell? ⟨bb, ob + j * 4 + 1, none⟩ = some (.string y.t) ∧ w'.cell? ⟨bb, ob + j * 4 + 2, none⟩ = some (.slice A2 n2 k2) ∧ w'.cell? ⟨bb, ob + j * 4 + 3, none⟩ = some (.slice B2 m2 q2))
          (first | exact ⟨x0, x1, x2, x3, y0, y1, y2, y3⟩ | exact ⟨bcell b8 x0, bcell b8 x1, bcell b8 x2, bcell b8 x3, bcell b8 y0, bcell b8 y1, bcell b8 y2, bcell b8 y3⟩)
          (first | (go_at_call 54; refine (refSame_any _ _ x y _ vx vy).mono ?_; rintro e w8 ⟨rfl, bb⟩; rw [HT.out]; have b8 := below_chain b0 bb; clear bb))
        cases T with
        | true =>
          have hxy : x = y := sameB_eq.1 HT.out
          have HXY := Go.Lib.hid hxy
          clear hxy
          go_wp2_with fail
          go_roundw
          case rel => exact ⟨j + 1, by omega, by go_num, by rw [TA.out, TB.out, HQ.out, HXY.out], below_chain hw b8⟩
          case measure => simp [intOf]; omega
        | false =>
          go_wp2_with fail
          go_ret
          refine ⟨false, ⟨(fun h => by cases h), fun h => ?_⟩, rfl, below_chain hw b8⟩
          have := sameB_eq.2 (HXE.out h)
          rw [HT.out] at this
          exact this
      · obtain rfl : n = j := by omega
        go_wp2_with fail
        go_ret
        have h1 := HQ.out
        rw [List.take_of_length_le (by rw [LA.out]; exact Nat.le_refl _), List.take_of_length_le (by rw [LB.out]; exact Nat.le_refl _)] at h1
        exact ⟨true, ⟨fun _ => h1, fun _ => rfl⟩, rfl, hw⟩
  · have i1 : ((n : Int) != (m : Int)) = true := by rw [bne_iff_ne]; omega
    have hne : es ≠ fs := fun h => hnm (by rw [← la, ← lb, h])
    have HNE := Go.Lib.hid hne
    clear la lb hne
    go_enter Try.func30, Try.ntmps30
    go_wp2_with fail
    go_ret
    exact ⟨false, ⟨(fun h => by cases h), fun h => absurd h HNE.out⟩, rfl, Below.refl _ _⟩

end Go.Proofs.Ytjoifkmcfenhpaa.EcWalk

/-
  Mathematics of layer 10: batches.
-/
namespace Go.Proofs.Ytjoifkmcfenhpaa.BtWalk
open Go.RowKit Go.Proofs.Ytjoifkmcfenhpaa.MemRow Go.Proofs.Ytjoifkmcfenhpaa.Ev Go.Proofs.Ytjoifkmcfenhpaa.NameMath Go.Proofs.Ytjoifkmcfenhpaa.NameWalk Go.Proofs.Ytjoifkmcfenhpaa.EvWalk Go.Proofs.Ytjoifkmcfenhpaa.NumMath Go.Proofs.Ytjoifkmcfenhpaa.NumMem Go.Proofs.Ytjoifkmcfenhpaa.NumWalk Go.Proofs.Ytjoifkmcfenhpaa.EcWalk Go.Proofs.Ytjoifkmcfenhpaa.EdWalk Go.Proofs.Ytjoifkmcfenhpaa.EeLaw

/-- A batch as data. -/
structure Bat where
  a : Int
  es : List Ev
def noBat : Bat := ⟨0, []⟩
/-- The first error that an event has. -/
def mayEs : List Ev → Int
  | [] => 0
  | e :: es => if mayE e = 0 then mayEs es else mayE e
def mayX (x : Bat) : Int :=
  if x.es.length = 0 then 22 else if 16 < x.es.length then 3 else if mayEs x.es ≠ 0 then mayEs x.es
  else if x.a < 0 ∨ 1048576 - (x.es.length : Int) < x.a then 1 else 0
def evsE (es : List Ev) : List UInt8 := es.flatMap encE
def encX (x : Bat) : List UInt8 := enc x.a ++ enc (x.es.length : Int) ++ evsE x.es

theorem mayEs_zero (es : List Ev) : mayEs es = 0 ↔ ∀ e ∈ es, mayE e = 0 := by
  induction es with
  | nil => simp [mayEs]
  | cons e es ih =>
    rw [mayEs]
    by_cases h : mayE e = 0
    · rw [if_pos h, ih]
      simp [h]
    · rw [if_neg h]
      simp [h]
theorem mayEs_take (es : List Ev) (j : Nat) (h : mayEs (es.take j) = 0) (hj : j < es.length) : mayE (es.getD j noEv) = 0 → mayEs (es.take (j + 1)) = 0 := by
  intro h1
  rw [mayEs_zero] at h ⊢
  rw [ev_take es j hj]
  intro e he
  rw [List.mem_append, List.mem_singleton] at he
  rcases he with he | rfl
  · exact h e he
  · exact h1
theorem mayEs_at (es : List Ev) : ∀ (j : Nat), mayEs (es.take j) = 0 → j < es.length → mayE (es.getD j noEv) ≠ 0 → mayEs es = mayE (es.getD j noEv) := by
  induction es with
  | nil => intro j _ h; simp at h
  | cons e es ih =>
    intro j h hj hne
    cases j with
    | zero =>
      rw [mayEs, if_neg (by simpa using hne)]
      rfl
    | succ j =>
      rw [List.take_succ_cons, mayEs] at h
      by_cases he : mayE e = 0
      · rw [if_pos he] at h
        rw [mayEs, if_pos he, ih j h (by simpa using hj) (by simpa using hne)]
        rfl
      · rw [if_neg he] at h
        exact absurd h he
theorem mayX_zero (x : Bat) : mayX x = 0 ↔ (1 ≤ x.es.length ∧ x.es.length ≤ 16 ∧ (∀ e ∈ x.es, mayE e = 0) ∧ 0 ≤ x.a ∧ x.a + x.es.length ≤ 1048576) := by
  unfold mayX
  rw [← mayEs_zero]
  by_cases h1 : x.es.length = 0
  · rw [if_pos h1]
    constructor
    · intro h; cases h
    · intro h; omega
  · rw [if_neg h1]
    by_cases h2 : 16 < x.es.length
    · rw [if_pos h2]
      constructor
      · intro h; cases h
      · intro h; omega
    · rw [if_neg h2]
      by_cases h3 : mayEs x.es = 0
      · rw [if_neg (by simpa using h3)]
        split
        · constructor
          · intro h; cases h
          · intro h; omega
        · constructor
          · intro _
            exact ⟨by omega, by omega, h3, by omega, by omega⟩
          · intro _; rfl
      · rw [if_pos h3]
        constructor
        · intro h; exact absurd h h3
        · intro h; exact absurd h.2.2.1 h3
theorem evsE_le {es : List Ev} (h : ∀ e ∈ es, mayE e = 0) : (evsE es).length ≤ 20000 * es.length := by
  induction es with
  | nil => simp [evsE]
  | cons e es ih =>
    have h1 := encE_le (may_smallE (h e (by simp)))
    have h2 := ih fun x hx => h x (by simp [hx])
    have e1 : evsE (e :: es) = encE e ++ evsE es := by simp [evsE]
    rw [e1, List.length_append, List.length_cons]
    omega
theorem evsE_snoc (es : List Ev) (e : Ev) : evsE (es ++ [e]) = evsE es ++ encE e := by simp [evsE]

/-- k events, taken from bytes. -/
def takeEs : Nat → List UInt8 → Bool → Option (List Ev × List UInt8)
  | 0, l, _ => some ([], l)
  | k + 1, l, b => match takeE l b with
    | none => none
    | some p => (takeEs k p.2 false).map fun q => (p.1 :: q.1, q.2)
theorem takeEs_go {k : Nat} {l l' : List UInt8} {b : Bool} {e : Ev} (h : takeE l b = some (e, l')) : takeEs (k + 1) l b = (takeEs k l' false).map fun q => (e :: q.1, q.2) := by
  rw [takeEs, h]
theorem takeEs_none {k : Nat} {l : List UInt8} {b : Bool} (h : takeE l b = none) : takeEs (k + 1) l b = none := by
  rw [takeEs, h]
theorem takeEs_enc (es : List Ev) (h : ∀ e ∈ es, mayE e = 0) (r : List UInt8) : takeEs es.length (evsE es ++ r) false = some (es, r) := by
  induction es with
  | nil => rfl
  | cons e es ih =>
    have e1 : evsE (e :: es) ++ r = encE e ++ (evsE es ++ r) := by simp [evsE]
    rw [List.length_cons, e1, takeEs_go (takeE_encE (h e (by simp)) _), ih fun x hx => h x (by simp [hx])]
    rfl
theorem takeEs_canon : ∀ (k : Nat) (l : List UInt8) (b : Bool) (es : List Ev) (r : List UInt8), takeEs k l b = some (es, r) → (b = true → k = 0) ∧ es.length = k ∧ (∀ e ∈ es, mayE e = 0) ∧ l = evsE es ++ r
  | 0, l, b, es, r, h => by
    simp only [takeEs, Option.some.injEq, Prod.mk.injEq] at h
    obtain ⟨rfl, rfl⟩ := h
    exact ⟨fun _ => rfl, rfl, by simp, by simp [evsE]⟩
  | k + 1, l, b, es, r, h => by
    cases ht : takeE l b with
    | none =>
      rw [takeEs_none ht] at h
      cases h
    | some p =>
      obtain ⟨e, l'⟩ := p
      rw [takeEs_go ht] at h
      obtain ⟨h1, h2, h3⟩ := takeE_canon ht
      cases hq : takeEs k l' false with
      | none =>
        rw [hq] at h
        cases h
      | some q =>
        obtain ⟨fs, r'⟩ := q
        rw [hq] at h
        simp only [Option.map_some, Option.some.injEq, Prod.mk.injEq] at h
        obtain ⟨rfl, rfl⟩ := h
        obtain ⟨_, k2, k3, k4⟩ := takeEs_canon k l' false fs r' hq
        refine ⟨(fun hb => by rw [h1] at hb; cases hb), (by rw [List.length_cons, k2]), ?_, ?_⟩
        · intro x hx
          rw [List.mem_cons] at hx
          rcases hx with rfl | hx
          · exact h2
          · exact k3 x hx
        · have e1 : evsE (e :: fs) ++ r' = encE e ++ (evsE fs ++ r') := by simp [evsE]
          rw [e1, ← k4]
          exact h3

/-- The batch that bytes are the encoding of; none, if there is none. -/
def takeX (l : List UInt8) : Option Bat :=
  match takeEs (min (numV (numL l)) 17).toNat (numL (numL l)) (numB (numL l) (numB l false)) with
  | none => none
  | some p => if mayX ⟨numV l, p.1⟩ = 0 ∧ encX ⟨numV l, p.1⟩ = l then some ⟨numV l, p.1⟩ else none
/-- What is read of the encoding of a batch. -/
theorem encX_read {x : Bat} (h : mayX x = 0) (r : List UInt8) : numV (encX x ++ r) = x.a ∧ numB (encX x ++ r) false = false ∧ numV (numL (encX x ++ r)) = x.es.length ∧ numB (numL (encX x ++ r)) false = false ∧ takeEs x.es.length (numL (numL (encX x ++ r))) false = some (x.es, r) := by
  obtain ⟨h1, h2, h3, h4, h5⟩ := (mayX_zero x).1 h
  have e1 : encX x ++ r = enc x.a ++ (enc (x.es.length : Int) ++ (evsE x.es ++ r)) := by simp only [encX, List.append_assoc]
  obtain ⟨a1, a2, a3⟩ := num_enc x.a (by omega) (enc (x.es.length : Int) ++ (evsE x.es ++ r)) false
  obtain ⟨b1, b2, b3⟩ := num_enc (x.es.length : Int) (by omega) (evsE x.es ++ r) false
  rw [e1, a2, b2]
  exact ⟨a1, a3, b1, b3, takeEs_enc x.es h3 r⟩
theorem takeX_iff (l : List UInt8) (x : Bat) : takeX l = some x ↔ mayX x = 0 ∧ encX x = l := by
  constructor
  · intro h
    unfold takeX at h
    split at h
    · cases h
    · split at h
      · next hc =>
        simp only [Option.some.injEq] at h
        subst h
        exact hc
      · cases h
  · rintro ⟨h, he⟩
    obtain ⟨a1, a2, a3, a4, a5⟩ := encX_read h []
    have hz := (mayX_zero x).1 h
    rw [List.append_nil, he] at a1 a2 a3 a4 a5
    unfold takeX
    have hk : (min (numV (numL l)) 17).toNat = x.es.length := by rw [a3]; omega
    rw [hk, a2, a4, a5]
    simp only
    have e : (⟨numV l, x.es⟩ : Bat) = x := by rw [a1]
    rw [e, if_pos ⟨h, he⟩]
/-- What is read, if there is a batch. -/
theorem takeX_read {l : List UInt8} {x : Bat} (h : takeX l = some x) : numV l = x.a ∧ numB l false = false ∧ numV (numL l) = x.es.length ∧ numB (numL l) false = false ∧ takeEs x.es.length (numL (numL l)) false = some (x.es, []) ∧ mayX x = 0 := by
  obtain ⟨h1, h2⟩ := (takeX_iff l x).1 h
  obtain ⟨a1, a2, a3, a4, a5⟩ := encX_read h1 []
  rw [List.append_nil, h2] at a1 a2 a3 a4 a5
  exact ⟨a1, a2, a3, a4, a5, h1⟩
/-- What is read so is a batch's encoding. -/
theorem takeX_of {l : List UInt8} {es : List Ev} (hn : numV (numL l) = es.length) (ht : takeEs es.length (numL (numL l)) (numB (numL l) (numB l false)) = some (es, [])) (hm : mayX ⟨numV l, es⟩ = 0) : takeX l = some ⟨numV l, es⟩ := by
  refine (takeX_iff _ _).2 ⟨hm, ?_⟩
  obtain ⟨k1, _, _, k4⟩ := takeEs_canon _ _ _ _ _ ht
  have hz := (mayX_zero _).1 hm
  simp only at hz
  have hb : numB (numL l) (numB l false) = false := by
    cases hc : numB (numL l) (numB l false) with
    | false => rfl
    | true =>
      have := k1 hc
      omega
  obtain ⟨h1, h2⟩ := num_canon hb
  obtain ⟨_, h3⟩ := num_canon h1
  rw [List.append_nil] at k4
  unfold encX
  simp only
  rw [← hn, ← k4, List.append_assoc, ← h2, ← h3]
theorem encX_le {x : Bat} (h : mayX x = 0) : (encX x).length ≤ 400000 := by
  obtain ⟨h1, h2, h3, h4, h5⟩ := (mayX_zero x).1 h
  have e1 := enc_le x.a (by omega) (by omega)
  have e2 := enc_le (x.es.length : Int) (by omega) (by omega)
  have e3 := evsE_le h3
  unfold encX
  simp only [List.length_append]
  omega
theorem encX_pos (x : Bat) : 1 ≤ (encX x).length := by
  have e1 := enc_pos x.a
  unfold encX
  simp only [List.length_append]
  omega
theorem takeX_encX {x : Bat} (h : mayX x = 0) : takeX (encX x) = some x := (takeX_iff _ _).2 ⟨h, rfl⟩
theorem encX_inj {x y : Bat} (hx : mayX x = 0) (hy : mayX y = 0) (h : encX x = encX y) : x = y := by
  have h1 := takeX_encX hx
  rw [h, takeX_encX hy] at h1
  simpa using h1.symm
/-- With more behind it, it is none. -/
theorem takeX_more {x : Bat} (h : mayX x = 0) {r : List UInt8} (hr : r ≠ []) : takeX (encX x ++ r) = none := by
  cases ht : takeX (encX x ++ r) with
  | none => rfl
  | some y =>
    exfalso
    obtain ⟨a1, _, a3, _, a5⟩ := encX_read h r
    obtain ⟨b1, _, b3, _, b5, _⟩ := takeX_read ht
    have e : x.es.length = y.es.length := by
      rw [a3] at b3
      omega
    rw [← e, a5] at b5
    simp only [Option.some.injEq, Prod.mk.injEq] at b5
    exact hr b5.2
theorem takeEs_more (r : List UInt8) : ∀ (k : Nat) (l l' : List UInt8) (es : List Ev), takeEs k l false = some (es, l') → takeEs k (l ++ r) false = some (es, l' ++ r)
  | 0, l, l', es, h => by
    simp only [takeEs, Option.some.injEq, Prod.mk.injEq] at h ⊢
    exact ⟨h.1, by rw [h.2]⟩
  | k + 1, l, l', es, h => by
    cases ht : takeE l false with
    | none =>
      rw [takeEs_none ht] at h
      cases h
    | some p =>
      obtain ⟨e, l1⟩ := p
      rw [takeEs_go ht] at h
      rw [takeEs_go (takeE_more ht r)]
      cases hq : takeEs k l1 false with
      | none =>
        rw [hq] at h
        cases h
      | some q =>
        obtain ⟨fs, l2⟩ := q
        rw [hq] at h
        simp only [Option.map_some, Option.some.injEq, Prod.mk.injEq] at h
        obtain ⟨rfl, rfl⟩ := h
        rw [takeEs_more r k l1 l2 fs hq]
        rfl
/-- Cut, it is none. -/
theorem takeX_cut {x : Bat} (h : mayX x = 0) {p r : List UInt8} (hp : p ++ r = encX x) (hr : r ≠ []) : takeX p = none := by
  cases ht : takeX p with
  | none => rfl
  | some y =>
    exfalso
    obtain ⟨h1, h2⟩ := (takeX_iff p y).1 ht
    have h3 := takeX_more h1 hr
    rw [h2, hp, takeX_encX h] at h3
    cases h3

end Go.Proofs.Ytjoifkmcfenhpaa.BtWalk

/-
  The laws' words of layer 5: few, shown.
-/
namespace Go.Proofs.Ytjoifkmcfenhpaa.EdWalk
open Go.RowKit Go.Proofs.Ytjoifkmcfenhpaa.MemRow Go.Proofs.Ytjoifkmcfenhpaa.Ev Go.Proofs.Ytjoifkmcfenhpaa.NameMath Go.Proofs.Ytjoifkmcfenhpaa.NameWalk Go.Proofs.Ytjoifkmcfenhpaa.EvWalk Go.Proofs.Ytjoifkmcfenhpaa.NumMath Go.Proofs.Ytjoifkmcfenhpaa.NumMem Go.Proofs.Ytjoifkmcfenhpaa.NumWalk Go.Proofs.Ytjoifkmcfenhpaa.EcWalk

theorem field_size : (Try.prog.info? 64).map (·.size) = some 2 := by kernel_rfl
theorem elem_flds : Try.prog.elem 42 = 64 := by kernel_rfl

/-- At most twelve tags and fields. -/
def fewE (e : Ev) : Ev := ⟨e.s, e.t, e.tags.take 12, e.fs.take 12⟩
theorem fewE_ok {e : Ev} (h : EvOk e) : EvOk (fewE e) :=
  ⟨h.s, h.t, fun x hx => h.tags x (List.mem_of_mem_take hx), fun f hf => h.names f (List.mem_of_mem_take hf), fun f hf => h.nums f (List.mem_of_mem_take hf)⟩
theorem fewE_tags (e : Ev) : (fewE e).tags.length ≤ 12 := by simp only [fewE, List.length_take]; omega
theorem fewE_fs (e : Ev) : (fewE e).fs.length ≤ 12 := by simp only [fewE, List.length_take]; omega

theorem small_ok {e : Ev} (h1 : e.s.size ≤ 100) (h2 : e.t.size ≤ 100) (h3 : ∀ x ∈ e.tags, x.size ≤ 100) (h4 : ∀ f ∈ e.fs, f.1.size ≤ 100) (h5 : ∀ f ∈ e.fs, 0 ≤ f.2 ∧ f.2 ≤ 100) : EvOk e := by
  have hm : 100 ≤ maxLen := by unfold maxLen; omega
  exact ⟨Nat.le_trans h1 hm, Nat.le_trans h2 hm, fun x hx => Nat.le_trans (h3 x hx) hm, fun f hf => Nat.le_trans (h4 f hf) hm, fun f hf => by have := h5 f hf; omega⟩
/-- The document's example. -/
def exE : Ev := ⟨⟨#[115]⟩, ⟨#[116]⟩, [], []⟩
theorem exE_may : mayE exE = 0 := by kernel_rfl
theorem exE_ok : EvOk exE := small_ok (by decide) (by decide) (by decide) (by decide) (by decide)
theorem enc_small {x : Int} (h0 : 0 ≤ x) (h : x < 64) : enc x = [(2 * x).toNat.toUInt8] := by
  have hz : Go.Lib.zigzag x = (2 * x).toNat := by
    obtain ⟨k, rfl⟩ := Int.eq_ofNat_of_zero_le h0
    unfold Go.Lib.zigzag
    split <;> omega
  show Go.Lib.uvarint (Go.Lib.zigzag x) = _
  rw [hz, Go.Lib.uvarint_small (by omega)]
theorem exE_enc : ([] : List UInt8) ++ encE exE = [2, 115, 2, 116, 0, 0] := by
  have e1 : enc ((⟨#[115]⟩ : ByteArray).size : Int) = [2] := by rw [enc_small (by decide) (by decide)]; rfl
  have e2 : enc ((⟨#[116]⟩ : ByteArray).size : Int) = [2] := by rw [enc_small (by decide) (by decide)]; rfl
  have e3 : enc ((([] : List ByteArray).length : Nat) : Int) = [0] := by rw [enc_small (by decide) (by decide)]; rfl
  have e4 : enc ((([] : List (ByteArray × Int)).length : Nat) : Int) = [0] := by rw [enc_small (by decide) (by decide)]; rfl
  unfold encE exE txt
  simp only
  rw [e1, e2, e3, e4]
  rfl

end Go.Proofs.Ytjoifkmcfenhpaa.EdWalk

/-
  Words of the walks of layer 5's statements.
-/
namespace Go.Proofs.Ytjoifkmcfenhpaa.EeLaw
open Go.RowKit Go.WideShapes Go.ChangeShapes Go.Proofs.Ytjoifkmcfenhpaa.MemRow Go.Proofs.Ytjoifkmcfenhpaa.Ev Go.Proofs.Ytjoifkmcfenhpaa.NameMath Go.Proofs.Ytjoifkmcfenhpaa.NameWalk Go.Proofs.Ytjoifkmcfenhpaa.EvWalk Go.Proofs.Ytjoifkmcfenhpaa.NumMath Go.Proofs.Ytjoifkmcfenhpaa.NumMem Go.Proofs.Ytjoifkmcfenhpaa.NumWalk Go.Proofs.Ytjoifkmcfenhpaa.EcWalk Go.Proofs.Ytjoifkmcfenhpaa.EdWalk Go.Proofs.Ytjoifkmcfenhpaa.Open

theorem evAway {w : World} {g g' : Nat} {v0 v1 v2 v3 : Value} (h : EvAt w g v0 v1 v2 v3) (hne : g ≠ g') (x0 x1 x2 x3 : Value) : EvAt ((((w.setCell ⟨g', 0, none⟩ x0).setCell ⟨g', 1, none⟩ x1).setCell ⟨g', 2, none⟩ x2).setCell ⟨g', 3, none⟩ x3) g v0 v1 v2 v3 :=
  (((h.far hne x0).far hne x1).far hne x2).far hne x3
theorem bel_all {w a : World} (h : Below a.heap.size a w) {g : Nat} (hg : a.heap.size ≤ g) (x0 x1 x2 x3 : Value) : Below a.heap.size a ((((w.setCell ⟨g, 0, none⟩ x0).setCell ⟨g, 1, none⟩ x1).setCell ⟨g, 2, none⟩ x2).setCell ⟨g, 3, none⟩ x3) :=
  (((h.setCell hg _).setCell hg _).setCell hg _).setCell hg _
/-- The boxes of two events. -/
structure TwoAt (wr w : World) (a0 a1 a2 a3 b0 b1 b2 b3 : Value) : Prop where
  e0 : EvAt wr w.heap.size a0 a1 a2 a3
  e1 : EvAt wr (w.heap.size + 1) b0 b1 b2 b3
  bel : Below w.heap.size w wr
section
variable {wr w w' : World} {a0 a1 a2 a3 b0 b1 b2 b3 : Value}
theorem TwoAt.below (h : TwoAt wr w a0 a1 a2 a3 b0 b1 b2 b3) (hb : Below wr.heap.size wr w') : TwoAt w' w a0 a1 a2 a3 b0 b1 b2 b3 := ⟨h.e0.below hb h.e0.lt, h.e1.below hb h.e1.lt, below_chain h.bel hb⟩
theorem TwoAt.new (w : World) (a0 a1 a2 a3 b0 b1 b2 b3 : Value) :
    TwoAt ((w.alloc (.cells #[a0, a1, a2, a3] 44)).alloc (.cells #[b0, b1, b2, b3] 44)) w a0 a1 a2 a3 b0 b1 b2 b3 := by
  have e1 := EvAt.new w a0 a1 a2 a3
  have b1' : Below w.heap.size w (w.alloc (.cells #[a0, a1, a2, a3] 44)) := (Below.refl _ _).alloc (Nat.le_refl _) _
  generalize hw1 : w.alloc (.cells #[a0, a1, a2, a3] 44) = w1 at *
  have s1 : w1.heap.size = w.heap.size + 1 := by rw [← hw1]; simp
  have e2 := EvAt.new w1 b0 b1 b2 b3
  have b2' : Below w1.heap.size w1 (w1.alloc (.cells #[b0, b1, b2, b3] 44)) := (Below.refl _ _).alloc (Nat.le_refl _) _
  rw [s1] at e2
  exact ⟨e1.below b2' e1.lt, e2, below_chain b1' b2'⟩
theorem TwoAt.far (h : TwoAt wr w a0 a1 a2 a3 b0 b1 b2 b3) {g : Nat} (hg : w.heap.size + 1 < g) (i : Nat) (x : Value) : TwoAt (wr.setCell ⟨g, i, none⟩ x) w a0 a1 a2 a3 b0 b1 b2 b3 :=
  ⟨h.e0.far (by omega) x, h.e1.far (by omega) x, h.bel.setCell (by show w.heap.size ≤ g; omega) x⟩
theorem TwoAt.set0 (h : TwoAt wr w a0 a1 a2 a3 b0 b1 b2 b3) (x0 x1 x2 x3 : Value) : TwoAt ((((wr.setCell ⟨w.heap.size, 0, none⟩ x0).setCell ⟨w.heap.size, 1, none⟩ x1).setCell ⟨w.heap.size, 2, none⟩ x2).setCell ⟨w.heap.size, 3, none⟩ x3) w x0 x1 x2 x3 b0 b1 b2 b3 :=
  ⟨h.e0.all x0 x1 x2 x3, evAway h.e1 (by omega) x0 x1 x2 x3, bel_all h.bel (Nat.le_refl _) x0 x1 x2 x3⟩
theorem TwoAt.set1 (h : TwoAt wr w a0 a1 a2 a3 b0 b1 b2 b3) (x0 x1 x2 x3 : Value) : TwoAt ((((wr.setCell ⟨w.heap.size + 1, 0, none⟩ x0).setCell ⟨w.heap.size + 1, 1, none⟩ x1).setCell ⟨w.heap.size + 1, 2, none⟩ x2).setCell ⟨w.heap.size + 1, 3, none⟩ x3) w a0 a1 a2 a3 x0 x1 x2 x3 :=
  ⟨evAway h.e0 (by omega) x0 x1 x2 x3, h.e1.all x0 x1 x2 x3, bel_all h.bel (by omega) x0 x1 x2 x3⟩
end

theorem elem_bytes : Try.prog.elem 27 = 5 := by kernel_rfl
theorem run_size_u8 (W : World) : (sizeOf 5).run Try.prog W = .ok 1 W := by
  have hi := u8_size
  cases hq : Try.prog.info? 5 with
  | none => simp [hq] at hi
  | some i =>
    have hs : i.size = 1 := by simpa [hq] using hi
    simp [sizeOf, typeInfo, hq, hs]
set_option maxRecDepth 100000 in
/-- v[:m] of bytes. -/
theorem slice_upto (A : Option Addr) (n cap m : Nat) (hc : m ≤ cap) (W : World) :
    (Instr.slice 27 (.slice A n cap) none (some (.int .i64 (m : Int))) none).run Try.prog W = .ok (.slice A m cap) W := by
  have hu : Try.prog.underlying 27 = some (.slice (Try.prog.elem 27)) := by rw [elem_bytes]; exact Try.underlying27
  have e : A.map (·.add 0) = A := by cases A <;> simp [Addr.add]
  rw [run_slice_h (P := Try.prog) W 27 _ n cap hu .i64 (m : Int) (by omega) (by omega), elem_bytes, run_size_u8]
  simp only [Result.andThen, sliced, Int.toNat_natCast, Nat.zero_mul, e, Nat.sub_zero]
  congr 2
  split <;> rfl


theorem rd_str {w : World} {A : Option Addr} {n cap : Nat} {l : List UInt8} (h : Rd w A n cap l) : (convert 27 9 (.slice A n cap)).run Try.prog w = .ok (.string ⟨l.toArray⟩) w :=
  h.string (P := Try.prog) 27 9 5 Try.underlying27 Try.underlying5 Try.underlying9
theorem bytes_ne {a b : List UInt8} (h : a ≠ b) : (a == b) = false := by rw [beq_eq_false_iff_ne]; exact h
theorem bel_drewN {B : Nat} {a w : World} (h : Below B a w) (n : Nat) : Below B a (w.drewN n) := ⟨h.os, h.tape, h.output, h.size, h.block⟩
/-- A contract that leaves the world alone, inside a region that only reads. -/
theorem still {P : Program} {f : FuncId} {args : Array Value} {w : World} {n : Nat} {v : Value} (h : Calls P f args (w.drewN n) fun e w' => e = .returned v ∧ w.drewN n = w') : Calls P f args (w.drewN n) fun e w' => e = .returned v ∧ ∃ m, w' = w.drewN m :=
  h.mono fun _ _ hh => ⟨hh.1, n, hh.2.symm⟩

/-- Bytes that begin with an event's are that event's. -/
theorem encE_begin {a b : Ev} (ha : mayE a = 0) (hb : mayE b = 0) {r : List UInt8} (h : encE b = encE a ++ r) : a = b ∧ r = [] := by
  have h1 := takeE_encE hb []
  rw [List.append_nil, h, takeE_encE ha r] at h1
  simp only [Option.some.injEq, Prod.mk.injEq] at h1
  exact h1

section
variable {H : Type} {enc : TypeId × Value → H}
set_option maxRecDepth 100000 in
theorem op_events {W : World} {base : Nat} {v : Value} {d : DataW H} {p : List MemPlace} (ho : Value.okWide Try.prog W .any base 22 v) (h : DataW.Trod enc Try.prog W 0 (fun _ => true) true 22 v d p) :
    ∃ A n ca es, v = .slice A n ca ∧ RdE W A n ca es ∧ ∀ x ∈ es, EvOk x := by
  obtain ⟨a, len, cap, rfl⟩ := okWide_slice Try.underlying22 ho
  obtain ⟨fuel, hf⟩ := h
  exact tr_events Try.underlying22 Try.underlying44 (by kernel_rfl) (by kernel_rfl) Try.underlying9 Try.underlying9 Try.underlying41 Try.underlying9 (by kernel_rfl) Try.underlying42 Try.underlying64 (by kernel_rfl) rfl rfl (by kernel_rfl) (by kernel_rfl) Try.underlying9 Try.underlying3 hf
end

end Go.Proofs.Ytjoifkmcfenhpaa.EeLaw

/-
  Layer 10's readings: batches; an argument that is one; a box that holds one; rows of events whose own rows are older.
-/
namespace Go.Proofs.Ytjoifkmcfenhpaa.BtWalk
open Go.RowKit Go.WideShapes Go.ChangeShapes Go.Joins Go.Deep Go.Proofs.Ytjoifkmcfenhpaa.MemRow Go.Proofs.Ytjoifkmcfenhpaa.Ev Go.Proofs.Ytjoifkmcfenhpaa.NameMath Go.Proofs.Ytjoifkmcfenhpaa.NameWalk Go.Proofs.Ytjoifkmcfenhpaa.EvWalk Go.Proofs.Ytjoifkmcfenhpaa.NumMath Go.Proofs.Ytjoifkmcfenhpaa.NumMem Go.Proofs.Ytjoifkmcfenhpaa.NumWalk Go.Proofs.Ytjoifkmcfenhpaa.EcWalk Go.Proofs.Ytjoifkmcfenhpaa.EdWalk Go.Proofs.Ytjoifkmcfenhpaa.EeLaw Go.Proofs.Ytjoifkmcfenhpaa.Open

/-- The value v is the batch x. -/
def IsB (w : World) (v : Value) (x : Bat) : Prop := ∃ A n ca, v = .agg #[.int .i64 x.a, .slice A n ca] ∧ RdE w A n ca x.es
theorem IsB.below {w w' : World} {v : Value} {x : Bat} (h : IsB w v x) (hb : Below w.heap.size w w') : IsB w' v x := by
  obtain ⟨A, n, ca, rfl, h1⟩ := h
  exact ⟨A, n, ca, rfl, h1.below hb⟩
/-- All of it is of a size that a machine has. -/
structure BOk (x : Bat) : Prop where
  evs : ∀ e ∈ x.es, EvOk e
  a : -9223372036854775808 ≤ x.a ∧ x.a ≤ 9223372036854775807

section
variable {H : Type} {enc : TypeId × Value → H}
set_option maxRecDepth 100000 in
/-- A batch that came in. -/
theorem op_batch {W : World} {base : Nat} {v : Value} {d : DataW H} {p : List MemPlace} (ho : Value.okWide Try.prog W .any base 24 v) (h : DataW.Trod enc Try.prog W 0 (fun _ => true) true 24 v d p) :
    ∃ x, IsB W v x ∧ BOk x := by
  obtain ⟨v0, v1, y0, y1, n, rfl, _, _, h0, h1⟩ := open_agg2 Try.underlying24 (by kernel_rfl) (by kernel_rfl) ho h
  obtain ⟨z, e0, _, wz⟩ := DataW.trod_int Try.underlying3 h0
  have b := bounds_i64 wz
  injection e0 with e0
  obtain ⟨A, m, ca, es, rfl, r, ok⟩ := tr_events Try.underlying22 Try.underlying44 (by kernel_rfl) (by kernel_rfl) Try.underlying9 Try.underlying9 Try.underlying41 Try.underlying9 (by kernel_rfl) Try.underlying42 Try.underlying64 (by kernel_rfl) rfl rfl (by kernel_rfl) (by kernel_rfl) Try.underlying9 Try.underlying3 h1
  subst e0
  exact ⟨⟨z, es⟩, ⟨A, m, ca, rfl, r⟩, ok, b.1, b.2⟩
end

/-! ### A block that holds a batch -/
def BxAt (w : World) (g : Nat) (v0 v1 : Value) : Prop := w.heap[g]? = some (.cells #[v0, v1] 24 (0, 0))
theorem BxAt.new (w : World) (v0 v1 : Value) : BxAt (w.alloc (.cells #[v0, v1] 24)) w.heap.size v0 v1 := heap_alloc_new w _
section
variable {w w' : World} {g : Nat} {v0 v1 : Value}
theorem BxAt.lt (h : BxAt w g v0 v1) : g < w.heap.size := (Array.getElem?_eq_some_iff.1 h).1
theorem BxAt.below (h : BxAt w g v0 v1) (hb : Below w.heap.size w w') : BxAt w' g v0 v1 := (hb.block g h.lt).trans h
theorem BxAt.c0 (h : BxAt w g v0 v1) : w.cell? ⟨g, 0, none⟩ = some v0 := by rw [cell_of_row w g 0 _ _ _ h]; rfl
theorem BxAt.c1 (h : BxAt w g v0 v1) : w.cell? ⟨g, 1, none⟩ = some v1 := by rw [cell_of_row w g 1 _ _ _ h]; rfl
theorem BxAt.frozen (h : BxAt w g v0 v1) (i : Nat) : w.frozen? ⟨g, i, none⟩ = false := by
  unfold BxAt at h
  simp [World.frozen?, h]
theorem BxAt.grown {row : Option Nat} (h : BxAt w g v0 v1) (hg : w.grownBy w' row) (hne : some g ≠ row) : BxAt w' g v0 v1 := (hg.block g h.lt hne).trans h
theorem BxAt.set0 (h : BxAt w g v0 v1) (x : Value) : BxAt (w.setCell ⟨g, 0, none⟩ x) g x v1 := by
  unfold BxAt at h ⊢
  simp only [World.setCell, Array.getElem?_modify, h]
  rfl
theorem BxAt.set1 (h : BxAt w g v0 v1) (x : Value) : BxAt (w.setCell ⟨g, 1, none⟩ x) g v0 x := by
  unfold BxAt at h ⊢
  simp only [World.setCell, Array.getElem?_modify, h]
  rfl
theorem BxAt.all (h : BxAt w g v0 v1) (x y : Value) : BxAt ((w.setCell ⟨g, 0, none⟩ x).setCell ⟨g, 1, none⟩ y) g x y := (h.set0 x).set1 y
theorem BxAt.far {b i : Nat} (h : BxAt w g v0 v1) (hne : g ≠ b) (x : Value) : BxAt (w.setCell ⟨b, i, none⟩ x) g v0 v1 := by
  unfold BxAt at h ⊢
  simp only [World.setCell, Array.getElem?_modify]
  rw [if_neg (fun e => hne e.symm)]
  exact h
end
theorem batch_bel (w : World) (v0 v1 : Value) : Below w.heap.size w (w.alloc (.cells #[v0, v1] 24)) := (Below.refl _ _).alloc (Nat.le_refl _) _

/-- A box of the call's own, and what is older. -/
structure BoxB (wr w : World) (v0 v1 : Value) : Prop where
  eq : BxAt wr w.heap.size v0 v1
  bel : Below w.heap.size w wr
section
variable {wr w w' : World} {v0 v1 : Value}
theorem BoxB.new (w : World) (v0 v1 : Value) : BoxB (w.alloc (.cells #[v0, v1] 24)) w v0 v1 := ⟨BxAt.new w v0 v1, batch_bel w v0 v1⟩
theorem BoxB.below (h : BoxB wr w v0 v1) (hb : Below wr.heap.size wr w') : BoxB w' w v0 v1 := ⟨h.eq.below hb, below_chain h.bel hb⟩
theorem BoxB.drewN (h : BoxB wr w v0 v1) (k : Nat) : BoxB (wr.drewN k) w v0 v1 := ⟨h.eq, EeLaw.bel_drewN h.bel k⟩
theorem BoxB.drew (h : BoxB wr w v0 v1) : BoxB wr.drew w v0 v1 := ⟨h.eq, bel_drew h.bel⟩
theorem BoxB.all (h : BoxB wr w v0 v1) (x y : Value) : BoxB ((wr.setCell ⟨w.heap.size, 0, none⟩ x).setCell ⟨w.heap.size, 1, none⟩ y) w x y := ⟨h.eq.all x y, (h.bel.setCell (Nat.le_refl _) _).setCell (Nat.le_refl _) _⟩
end

/-! ### A row of the call's own that holds events whose rows are older -/
def EvsO (w0 : World) : List Ev → List Value → Prop
  | [], cs => cs = []
  | e :: es, cs => ∃ T nT cT F nF cF cs', cs = .string e.s :: .string e.t :: .slice T nT cT :: .slice F nF cF :: cs' ∧ RdS w0 T nT cT e.tags ∧ RdF w0 F nF cF e.fs ∧ EvsO w0 es cs'
theorem EvsO.snoc {w : World} {e : Ev} {T F : Option Addr} {nT cT nF cF : Nat} (o1 : RdS w T nT cT e.tags) (o2 : RdF w F nF cF e.fs) :
    ∀ (es : List Ev) (cs : List Value), EvsO w es cs → EvsO w (es ++ [e]) (cs ++ [.string e.s, .string e.t, .slice T nT cT, .slice F nF cF])
  | [], cs, h => by
    obtain rfl : cs = [] := h
    exact ⟨T, nT, cT, F, nF, cF, [], rfl, o1, o2, rfl⟩
  | x :: es, cs, ⟨T1, n1, c1, F1, m1, d1, cs', hc, p1, p2, h⟩ => by
    subst hc
    exact ⟨T1, n1, c1, F1, m1, d1, cs' ++ [.string e.s, .string e.t, .slice T nT cT, .slice F nF cF], rfl, p1, p2, EvsO.snoc o1 o2 es cs' h⟩
theorem EvsO.at_ {w : World} : ∀ (es : List Ev) (cs : List Value), EvsO w es cs → ∀ i, i < es.length →
    ∃ T nT cT F nF cF, cs[i * 4]? = some (.string (es.getD i noEv).s) ∧ cs[i * 4 + 1]? = some (.string (es.getD i noEv).t) ∧ cs[i * 4 + 2]? = some (.slice T nT cT) ∧ cs[i * 4 + 3]? = some (.slice F nF cF) ∧ RdS w T nT cT (es.getD i noEv).tags ∧ RdF w F nF cF (es.getD i noEv).fs
  | [], _, _, i, hi => by simp at hi
  | e :: es, cs, ⟨T, nT, cT, F, nF, cF, cs', hc, o1, o2, h⟩, i, hi => by
    subst hc
    cases i with
    | zero => exact ⟨T, nT, cT, F, nF, cF, rfl, rfl, rfl, rfl, o1, o2⟩
    | succ i =>
      obtain ⟨T1, n1, c1, F1, m1, d1, q0, q1, q2, q3, p1, p2⟩ := EvsO.at_ es cs' h i (by simpa using hi)
      have e4 : (i + 1) * 4 = i * 4 + 4 := by omega
      rw [e4]
      exact ⟨T1, n1, c1, F1, m1, d1, by simpa using q0, by simpa using q1, by simpa using q2, by simpa using q3, by simpa using p1, by simpa using p2⟩
theorem EvsO.one {w : World} : ∀ (es : List Ev) (cs : List Value), EvsO w es cs → ∀ v ∈ cs, v.oneCell' = true
  | [], cs, h, v, hv => by
    obtain rfl : cs = [] := h
    simp at hv
  | _ :: es, cs, ⟨T, nT, cT, Y, nY, cY, cs', e, _, _, h⟩, v, hv => by
    subst e
    simp only [List.mem_cons] at hv
    rcases hv with rfl | rfl | rfl | rfl | hv
    · rfl
    · rfl
    · rfl
    · rfl
    · exact EvsO.one es cs' h v hv
theorem EvsO.take {w : World} : ∀ (es : List Ev) (cs : List Value) (i : Nat), EvsO w es cs → EvsO w (es.take i) (cs.take (i * 4))
  | [], cs, i, h => by
    obtain rfl : cs = [] := h
    simp only [List.take_nil]
    rfl
  | _ :: _, _, 0, _ => by
    simp only [List.take_zero, Nat.zero_mul]
    rfl
  | _ :: es, _, i + 1, ⟨T, nT, cT, Y, nY, cY, cs', rfl, o1, o2, h⟩ => by
    have e2 : (i + 1) * 4 = i * 4 + 1 + 1 + 1 + 1 := by omega
    rw [e2]
    exact ⟨T, nT, cT, Y, nY, cY, cs'.take (i * 4), rfl, o1, o2, EvsO.take es cs' i h⟩
theorem EvsO.drop {w : World} : ∀ (es : List Ev) (cs : List Value) (i : Nat), EvsO w es cs → EvsO w (es.drop i) (cs.drop (i * 4))
  | [], cs, i, h => by
    obtain rfl : cs = [] := h
    simp only [List.drop_nil]
    rfl
  | _ :: _, _, 0, h => by
    simp only [List.drop_zero, Nat.zero_mul]
    exact h
  | _ :: es, _, i + 1, ⟨_, _, _, _, _, _, cs', rfl, _, _, h⟩ => by
    have e2 : (i + 1) * 4 = i * 4 + 1 + 1 + 1 + 1 := by omega
    rw [e2]
    exact EvsO.drop es cs' i h
theorem EvsO.append {w : World} : ∀ (es fs : List Ev) (cs ds : List Value), EvsO w es cs → EvsO w fs ds → EvsO w (es ++ fs) (cs ++ ds)
  | [], _, cs, _, h, h2 => by
    obtain rfl : cs = [] := h
    exact h2
  | _ :: es, fs, _, ds, ⟨T, nT, cT, Y, nY, cY, cs', rfl, o1, o2, h⟩, h2 => ⟨T, nT, cT, Y, nY, cY, cs' ++ ds, rfl, o1, o2, EvsO.append es fs cs' ds h h2⟩
/-- A slice of a call's own that holds events, their rows as world w0 has them. -/
def OwnO (w0 w : World) (base : Nat) (A : Option Addr) (n cap : Nat) (es : List Ev) : Prop := ∃ cs, OwnC 4 w base 44 A n cap cs ∧ es.length = n ∧ EvsO w0 es cs
section
variable {w0 w w' : World} {base n cap : Nat} {A : Option Addr} {es : List Ev}
theorem OwnO.nil (w0 w : World) (base : Nat) : OwnO w0 w base none 0 0 [] := ⟨[], OwnC.nil _ _, rfl, rfl⟩
theorem OwnO.len (h : OwnO w0 w base A n cap es) : es.length = n := by
  obtain ⟨_, _, h, _⟩ := h
  exact h
theorem OwnO.below (h : OwnO w0 w base A n cap es) (hb : Below w.heap.size w w') : OwnO w0 w' base A n cap es := by
  obtain ⟨cs, o, hl, hc⟩ := h
  exact ⟨cs, OwnC.below o hb, hl, hc⟩
theorem OwnO.grown {g : Nat} (h : OwnO w0 w base A n cap es) (hg : w.grownBy w' (some g)) (hb : g < base) : OwnO w0 w' base A n cap es := by
  obtain ⟨cs, o, hl, hc⟩ := h
  exact ⟨cs, OwnC.grown o hg fun a hA e => by
    have := (OwnC.lt o a hA).1
    injection e with e
    omega, hl, hc⟩
theorem OwnO.rd (h : OwnO w0 w base A n cap es) (hb : Below w0.heap.size w0 w) : RdE w A n cap es := by
  obtain ⟨cs, o, hl, hc⟩ := h
  have r := OwnC.rd o
  refine ⟨hl, r.2.1, r.2.2.1, fun hn => ?_⟩
  obtain ⟨b, a, hA, hlt, hcell⟩ := RdC.at_ r (by omega) hn
  refine ⟨b, a, hA, hlt, fun i hi => ?_⟩
  obtain ⟨T, nT, cT, F, nF, cF, q0, q1, q2, q3, p1, p2⟩ := EvsO.at_ es cs hc i (by omega)
  exact ⟨T, nT, cT, F, nF, cF, hcell _ _ q0, by rw [Nat.add_assoc]; exact hcell _ _ q1, by rw [Nat.add_assoc]; exact hcell _ _ q2, by rw [Nat.add_assoc]; exact hcell _ _ q3, RdC.below p1 hb, RdC.below p2 hb⟩
theorem OwnO.isb {a : Int} (h : OwnO w0 w base A n cap es) (hb : Below w0.heap.size w0 w) : IsB w (.agg #[.int .i64 a, .slice A n cap]) ⟨a, es⟩ := ⟨_, _, _, rfl, h.rd hb⟩
theorem OwnO.setB (h : OwnO w0 w base A n cap es) {g : Nat} (hg : g < base) (x y : Value) : OwnO w0 ((w.setCell ⟨g, 0, none⟩ x).setCell ⟨g, 1, none⟩ y) base A n cap es :=
  (h.grown (grown_set w g 0 x) hg).grown (grown_set _ g 1 y) hg
end

/-! ### What calls come to -/
def PutXOut (x : Bat) (w : World) (e : Ending) (w' : World) : Prop :=
  Below w.heap.size w w' ∧ ((mayX x = 0 ∧ ∃ A c, e = .returned (.tuple #[.slice A (encX x).length c, .int .i64 0]) ∧ Rd w' A (encX x).length c (encX x)) ∨ (mayX x ≠ 0 ∧ e = .returned (.tuple #[.slice none 0 0, .int .i64 (mayX x)])))
def pX (x : Bat) : List UInt8 := if mayX x = 0 then encX x else []
theorem putX_one {x : Bat} {w w' : World} {e : Ending} (h : PutXOut x w e w') : ∃ A m c, e = .returned (.tuple #[.slice A m c, .int .i64 (mayX x)]) ∧ Rd w' A m c (pX x) ∧ Below w.heap.size w w' := by
  obtain ⟨hb, h⟩ := h
  unfold pX
  rcases h with ⟨h0, A, c, rfl, o⟩ | ⟨h0, rfl⟩
  · rw [if_pos h0, h0]
    exact ⟨A, _, c, rfl, o, hb⟩
  · rw [if_neg h0]
    exact ⟨none, 0, 0, rfl, Rd.nil _, hb⟩
def TakeXOut (l : List UInt8) (w : World) (e : Ending) (w' : World) : Prop :=
  Below w.heap.size w w' ∧ ((∃ x A n c, takeX l = some x ∧ e = .returned (.tuple #[.agg #[.int .i64 x.a, .slice A n c], .int .i64 0]) ∧ RdE w' A n c x.es) ∨ (takeX l = none ∧ e = .returned (.tuple #[.agg #[.int .i64 0, .slice none 0 0], .int .i64 2])))
def tkX (l : List UInt8) : Bat := (takeX l).getD noBat
def tkN (l : List UInt8) : Int := match takeX l with | some _ => 0 | none => 2
theorem takeX_one {l : List UInt8} {w w' : World} {e : Ending} (h : TakeXOut l w e w') : ∃ A m c, e = .returned (.tuple #[.agg #[.int .i64 (tkX l).a, .slice A m c], .int .i64 (tkN l)]) ∧ RdE w' A m c (tkX l).es ∧ Below w.heap.size w w' := by
  obtain ⟨hb, h⟩ := h
  unfold tkX tkN
  rcases h with ⟨x, A, n, c, h1, rfl, hr⟩ | ⟨h1, rfl⟩
  · rw [h1]
    exact ⟨A, n, c, rfl, hr, hb⟩
  · rw [h1]
    exact ⟨none, 0, 0, rfl, RdE.nil _, hb⟩
theorem tk_yes {l : List UInt8} {x : Bat} (h : takeX l = some x) : tkX l = x ∧ tkN l = 0 := by
  unfold tkX tkN
  rw [h]
  exact ⟨rfl, rfl⟩
theorem tk_no {l : List UInt8} (h : takeX l = none) : tkX l = noBat ∧ tkN l = 2 := by
  unfold tkX tkN
  rw [h]
  exact ⟨rfl, rfl⟩

end Go.Proofs.Ytjoifkmcfenhpaa.BtWalk

/-
  Contracts of the document's answers of layer 10: May, Put, Same.
-/
namespace Go.Proofs.Ytjoifkmcfenhpaa.BtWalk
open Go.RowKit Go.Proofs.Ytjoifkmcfenhpaa.MemRow Go.Proofs.Ytjoifkmcfenhpaa.Ev Go.Proofs.Ytjoifkmcfenhpaa.NameMath Go.Proofs.Ytjoifkmcfenhpaa.NameWalk Go.Proofs.Ytjoifkmcfenhpaa.EvWalk Go.Proofs.Ytjoifkmcfenhpaa.NumMath Go.Proofs.Ytjoifkmcfenhpaa.NumMem Go.Proofs.Ytjoifkmcfenhpaa.NumWalk Go.Proofs.Ytjoifkmcfenhpaa.EcWalk Go.Proofs.Ytjoifkmcfenhpaa.EdWalk Go.Proofs.Ytjoifkmcfenhpaa.EeLaw

theorem mayX_none {a : Int} {es : List Ev} (h : es.length = 0) : mayX ⟨a, es⟩ = 22 := by unfold mayX; rw [if_pos h]
theorem mayX_big {a : Int} {es : List Ev} (h : 16 < es.length) : mayX ⟨a, es⟩ = 3 := by unfold mayX; simp only; rw [if_neg (by omega), if_pos h]
theorem mayX_ev {a : Int} {es : List Ev} (h0 : es.length ≠ 0) (h : ¬ 16 < es.length) (hm : mayEs es ≠ 0) : mayX ⟨a, es⟩ = mayEs es := by unfold mayX; simp only; rw [if_neg h0, if_neg h, if_pos hm]
theorem mayX_pos {a : Int} {es : List Ev} {n : Nat} (hl : es.length = n) (h0 : n ≠ 0) (h : ¬ 16 < n) (hm : mayEs es = 0) : mayX ⟨a, es⟩ = if a < 0 ∨ 1048576 - (n : Int) < a then 1 else 0 := by
  unfold mayX
  simp only
  rw [hl, if_neg h0, if_neg h, if_neg (by simpa using hm)]

set_option maxHeartbeats 4000000 in
set_option maxRecDepth 100000 in
theorem refMayX_any (v : Value) (x : Bat) (w : World) (hv : IsB w v x) (hok : BOk x) :
    Calls Try.prog 14 #[v] w fun e w' => e = .returned (.int .i64 (mayX x)) ∧ Below w.heap.size w w' := by
  obtain ⟨A, n, ca, rfl, rE⟩ := hv
  obtain ⟨a, es⟩ := x
  simp only at rE
  have oke := hok.evs
  have oka := hok.a
  simp only at oke oka
  have LE := Go.Lib.hid rE.len
  have hn := rE.le
  unfold maxLen at hn
  have s1 := BoxB.new w (.int .i64 a) (.slice A n ca)
  have H1 := Go.Lib.hid (fun h => mayX_none (a := a) (es := es) h)
  have H2 := Go.Lib.hid (fun h => mayX_big (a := a) (es := es) h)
  have HX := Go.Lib.hid (fun h0 h16 hm => mayX_pos (a := a) LE.out h0 h16 hm)
  have HE := Go.Lib.hid (fun h0 h16 hm => mayX_ev (a := a) (es := es) h0 h16 hm)
  clear hok
  generalize mayX ⟨a, es⟩ = M at *
  go_enter Try.func14, Try.ntmps14
  go_upto_region 1 with (fail)
  generalize w.alloc (.cells #[.int .i64 a, .slice A n ca] 24) = w1 at *
  have k1 := s1.eq.c1
  by_cases h0 : n = 0
  · subst h0
    obtain rfl : M = 22 := H1.out LE.out
    clear H1 H2 HX HE
    go_wp2_with fail
    go_ret
    exact ⟨rfl, s1.bel⟩
  have i0 : ((n : Int) == 0) = false := by rw [beq_eq_false_iff_ne]; omega
  by_cases h16 : 16 < n
  · obtain rfl : M = 3 := H2.out (by rw [LE.out]; exact h16)
    clear H1 H2 HX HE
    have i1 : (16 : Int) < n := by omega
    go_wp2_with fail
    go_ret
    exact ⟨rfl, s1.bel⟩
  have i1 : ¬ (16 : Int) < n := by omega
  have H0 := Go.Lib.hid h0
  replace HX := Go.Lib.hid (fun hm => HX.out h0 h16 hm)
  replace HE := Go.Lib.hid (fun hm => HE.out (by rw [LE.out]; exact h0) (by rw [LE.out]; exact h16) hm)
  clear h0 H1 H2
  go_wp2_with fail
  go_loopw [3, 4] (fun i _ wr => ∃ j : Nat, j ≤ n ∧ i = .int .i64 j ∧ Hid (mayEs (es.take j) = 0) ∧ BoxB wr w (.int .i64 a) (.slice A n ca)) (fun i _ _ => n - (intOf i).toNat)
  case atStart => exact ⟨0, Nat.zero_le _, rfl, Go.Lib.hid (by simp [mayEs]), s1⟩
  case round =>
    obtain ⟨j, hj, rfl, HJ, sr⟩ := hrel
    clear s1 k1
    have k0 := sr.eq.c0
    have k1 := sr.eq.c1
    by_cases hlt : j < n
    · obtain ⟨b, o, rfl, _, kt⟩ := rE.at_ (by omega)
      obtain ⟨A1, n1, c1, B1, m1, d1, x0, x1, x2, x3, r1, r2⟩ := (kt j hlt).below sr.bel
      have i2 : (j : Int) < n := by omega
      have hjl : j < es.length := by rw [LE.out]; exact hlt
      have hoe := oke _ (ev_get hjl)
      have HA := Go.Lib.hid (mayEs_at es j HJ.out hjl)
      have HT := Go.Lib.hid (mayEs_take es j HJ.out hjl)
      clear kt hjl
      generalize es.getD j noEv = ev at *
      have iv : IsEv wr (.agg #[.string ev.s, .string ev.t, .slice A1 n1 c1, .slice B1 m1 d1]) ev := ⟨_, _, _, _, _, _, rfl, r1, r2⟩
      go_wp2_with fail
      refine (refMayE_any _ ev wr iv hoe).mono ?_
      rintro e w6 ⟨rfl, b6⟩
      have s6 := sr.below b6
      clear x0 x1 x2 x3 r1 r2 iv k0 k1 sr b6
      by_cases he : mayE ev = 0
      · have HT2 := Go.Lib.hid (HT.out he)
        rw [he]
        clear he HT HA
        go_wp2_with fail
        go_roundw
        case rel => exact ⟨j + 1, by omega, by go_num, HT2, s6⟩
        case measure => simp [intOf]; omega
      · have hb : (mayE ev != 0) = true := by rw [bne_iff_ne]; exact he
        have hme := HA.out he
        have hM : M = mayE ev := by rw [HE.out (by rw [hme]; exact he), hme]
        rw [← hM] at hb ⊢
        clear HA HT HE HX hme he hM
        go_wp2_with fail
        go_ret
        exact ⟨rfl, s6.bel⟩
    · obtain rfl : n = j := by omega
      have hes : es.take n = es := List.take_of_length_le (by rw [LE.out]; exact Nat.le_refl _)
      have HM := Go.Lib.hid (HX.out (by rw [← hes]; exact HJ.out))
      clear hes HX HE HJ
      by_cases ha : a < 0
      · obtain rfl : M = 1 := by rw [HM.out, if_pos (.inl ha)]
        clear HM
        go_wp2_with fail
        go_ret
        exact ⟨rfl, sr.bel⟩
      · by_cases hb : 1048576 - (n : Int) < a
        · obtain rfl : M = 1 := by rw [HM.out, if_pos (.inr hb)]
          clear HM
          go_wp2_with fail
          go_ret
          exact ⟨rfl, sr.bel⟩
        · obtain rfl : M = 0 := by rw [HM.out, if_neg (by omega)]
          clear HM
          go_wp2_with fail
          go_ret
          exact ⟨rfl, sr.bel⟩

set_option maxHeartbeats 4000000 in
set_option maxRecDepth 100000 in
theorem refPutX_any (v : Value) (x : Bat) (w : World) (hv : IsB w v x) (hok : BOk x) :
    Calls Try.prog 12 #[v] w (PutXOut x w) := by
  have hv0 := hv
  obtain ⟨A, n, ca, rfl, rE⟩ := hv
  have LE := Go.Lib.hid rE.len
  have hn := rE.le
  unfold maxLen at hn
  have s1 := BoxB.new w (.int .i64 x.a) (.slice A n ca)
  have oke := hok.evs
  go_enter Try.func12, Try.ntmps12
  go_upto_region 1 with (fail)
  generalize w.alloc (.cells #[.int .i64 x.a, .slice A n ca] 24) = w1 at *
  have k0 := s1.eq.c0
  have k1 := s1.eq.c1
  go_wp2_with fail
  refine (refMayX_any _ x w1 (hv0.below s1.bel) hok).mono ?_
  rintro e w2 ⟨rfl, b2⟩
  have s2 := s1.below b2
  clear k0 k1 s1 b2
  by_cases h0 : mayX x = 0
  case neg =>
    have m0 : (mayX x != 0) = true := by rw [bne_iff_ne]; exact h0
    have H0 := Go.Lib.hid h0
    clear h0
    go_wp2_with fail
    go_ret2
    exact ⟨s2.bel, .inr ⟨H0.out, rfl⟩⟩
  rw [h0]
  have H0 := Go.Lib.hid h0
  obtain ⟨z1, z2, z3, z4, z5⟩ := (mayX_zero x).1 h0
  have Z3 := Go.Lib.hid z3
  rw [rE.len] at z1 z2 z5
  have hx0 : -9223372036854775808 ≤ x.a ∧ x.a ≤ 9223372036854775807 := hok.a
  have hxn : -9223372036854775808 ≤ (n : Int) ∧ (n : Int) ≤ 9223372036854775807 := by omega
  clear h0 z3 z4 z5 hok
  have k0 := s2.eq.c0
  have k1 := s2.eq.c1
  have b0 : Below w2.heap.size w2 w2.drew := bel_drew (Below.refl _ _)
  have hz : ([] : List UInt8).length ≤ 10000000 := by simp
  go_wp2_with fail
  go_region_held (fun w' => w'.cell? ⟨w.heap.size, 0, none⟩ = some (.int .i64 x.a) ∧ w'.cell? ⟨w.heap.size, 1, none⟩ = some (.slice A n ca))
    (first | exact ⟨k0, k1⟩ | exact ⟨bcell b3 k0, bcell b3 k1⟩ | exact ⟨bcell b4 k0, bcell b4 k1⟩)
    (first
      | (go_at_call 18; refine (refPut_laid A3 l3.length c3 l3 (n : Int) w3 o3.rd hxn hl3).mono ?_; rintro e w4 ⟨u4, l4, H4, rfl, ⟨A4, c4, rfl, o4⟩, bb⟩; have b4 := below_chain b3 bb; clear bb)
      | (go_at_call 18; refine (refPut_laid none 0 0 [] x.a w2.drew (Rd.nil _) hx0 hz).mono ?_; rintro e w3 ⟨u3, l3, H3, rfl, ⟨A3, c3, rfl, o3⟩, bb⟩; have b3 := below_chain b0 bb; have hl3 : l3.length ≤ 10000000 := (by rw [H3.out, List.nil_append]; have := enc_le x.a hx0.1 hx0.2; omega); clear bb))
  have s4 := s2.below b4
  have L4 := Laid.lower (base' := w.heap.size) ⟨A4, c4, rfl, o4⟩ (Nat.le_trans s2.bel.size b3.size)
  have H5 : Hid (l4 = enc x.a ++ enc (x.es.length : Int) ++ evsE (x.es.take 0)) := Go.Lib.hid (by rw [H4.out, H3.out, LE.out]; simp [evsE])
  clear k0 k1 b0 b3 b4 o3 o4 hl3 s2
  generalize hv4 : Value.slice A4 l4.length c4 = v4 at *
  obtain ⟨A5, c5, rfl, o5⟩ := L4
  clear hv4
  go_wp2_with fail
  go_loopw [5, 6] (fun o i wr => ∃ (j : Nat) (A' : Option Addr) (c' : Nat) (l' : List UInt8), j ≤ n ∧ o = .slice A' l'.length c' ∧ i = .int .i64 j ∧ Hid (l' = enc x.a ++ enc (x.es.length : Int) ++ evsE (x.es.take j)) ∧ Own wr w.heap.size 5 A' l'.length c' l' ∧ BoxB wr w (.int .i64 x.a) (.slice A n ca)) (fun _ i _ => n - (intOf i).toNat)
  case atStart => exact ⟨0, A5, c5, l4, Nat.zero_le _, rfl, rfl, H5, o5, s4⟩
  case round =>
    obtain ⟨j, A', c', l', hj, rfl, rfl, HQ, oq, sq⟩ := hrel
    clear s4 o5 H5 H4 H3
    have k1 := sq.eq.c1
    by_cases hlt : j < n
    · obtain ⟨b, o, rfl, _, kt⟩ := rE.at_ (by omega)
      obtain ⟨A1, n1, c1, B1, m1, d1, x0, x1, x2, x3, r1, r2⟩ := (kt j hlt).below sq.bel
      have i2 : (j : Int) < n := by omega
      have hjl : j < x.es.length := by rw [LE.out]; exact hlt
      have hoe := oke _ (ev_get hjl)
      have HE0 := Go.Lib.hid (Z3.out _ (ev_get hjl))
      have HT := Go.Lib.hid (ev_take x.es j hjl)
      have hlq : l'.length ≤ 1000000 := by
        have h1 := evsE_le (es := x.es.take j) fun e he => Z3.out e (List.mem_of_mem_take he)
        have h2 : (x.es.take j).length ≤ 16 := by rw [List.length_take]; omega
        have h3 := enc_le x.a hx0.1 hx0.2
        have h4 := enc_le (x.es.length : Int) (by omega) (by rw [LE.out]; omega)
        rw [HQ.out]
        simp only [List.length_append]
        omega
      clear kt hjl
      generalize x.es.getD j noEv = ev at *
      have iv : IsEv wr (.agg #[.string ev.s, .string ev.t, .slice A1 n1 c1, .slice B1 m1 d1]) ev := ⟨_, _, _, _, _, _, rfl, r1, r2⟩
      go_wp2_with fail
      refine (refPutE_any A' l'.length c' l' _ ev wr oq.rd hlq iv hoe).mono ?_
      rintro e w6 ⟨hp, b6⟩
      have s6 := sq.below b6
      rcases hp with ⟨_, v7, rfl, L7⟩ | ⟨hne, _⟩
      · obtain ⟨A7, c7, rfl, o7⟩ := Laid.lower L7 sq.bel.size
        have H7 : Hid (l' ++ encE ev = enc x.a ++ enc (x.es.length : Int) ++ evsE (x.es.take (j + 1))) := Go.Lib.hid (by rw [HT.out, evsE_snoc, HQ.out]; simp only [List.append_assoc])
        clear x0 x1 x2 x3 r1 r2 iv k1 sq b6 HT HQ L7 oq
        generalize l' ++ encE ev = l7 at *
        go_wp2_with fail
        go_roundw
        case rel => exact ⟨j + 1, A7, c7, l7, by omega, rfl, by go_num, H7, o7, s6⟩
        case measure => simp [intOf]; omega
      · exact absurd HE0.out hne
    · obtain rfl : n = j := by omega
      have hes : l' = encX x := by rw [HQ.out, List.take_of_length_le (by rw [LE.out]; exact Nat.le_refl _)]; rfl
      have HP := Go.Lib.hid (fun (W : World) (e : Ending) (hb : Below w.heap.size w W) (A : Option Addr) (c : Nat) (he : e = .returned (.tuple #[.slice A l'.length c, .int .i64 0])) (hr : Rd W A l'.length c l') => (show PutXOut x w e W from ⟨hb, .inl ⟨H0.out, A, c, by rw [← hes]; exact he, by rw [← hes]; exact hr⟩⟩))
      clear hes
      go_wp2_with fail
      go_ret2
      exact HP.out _ _ sq.bel _ _ rfl oq.rd

/-- The boxes of two batches. -/
structure TwoB (wr w : World) (a0 a1 b0 b1 : Value) : Prop where
  e0 : BxAt wr w.heap.size a0 a1
  e1 : BxAt wr (w.heap.size + 1) b0 b1
  bel : Below w.heap.size w wr
theorem TwoB.below {wr w w' : World} {a0 a1 b0 b1 : Value} (h : TwoB wr w a0 a1 b0 b1) (hb : Below wr.heap.size wr w') : TwoB w' w a0 a1 b0 b1 := ⟨h.e0.below hb, h.e1.below hb, below_chain h.bel hb⟩
theorem TwoB.new (w : World) (a0 a1 b0 b1 : Value) : TwoB ((w.alloc (.cells #[a0, a1] 24)).alloc (.cells #[b0, b1] 24)) w a0 a1 b0 b1 := by
  have e1 := BxAt.new w a0 a1
  have c1 := batch_bel w a0 a1
  generalize hw1 : w.alloc (.cells #[a0, a1] 24) = w1 at *
  have s1 : w1.heap.size = w.heap.size + 1 := by rw [← hw1]; simp
  have e2 := BxAt.new w1 b0 b1
  have c2 := batch_bel w1 b0 b1
  rw [s1] at e2
  exact ⟨e1.below c2, e2, below_chain c1 c2⟩
theorem bat_eq {a b : Bat} : a = b ↔ a.a = b.a ∧ a.es = b.es := by
  obtain ⟨x, l⟩ := a
  obtain ⟨y, m⟩ := b
  simp

set_option maxHeartbeats 4000000 in
set_option maxRecDepth 100000 in
theorem refSameX_any (v u : Value) (x y : Bat) (w : World) (hv : IsB w v x) (hu : IsB w u y) :
    Calls Try.prog 17 #[v, u] w fun e w' => ∃ R : Bool, (R = true ↔ x = y) ∧ e = .returned (.bool R) ∧ Below w.heap.size w w' := by
  obtain ⟨A, n, ca, rfl, rA⟩ := hv
  obtain ⟨B, m, cb, rfl, rB⟩ := hu
  obtain ⟨a, es⟩ := x
  obtain ⟨b, fs⟩ := y
  simp only at rA rB
  have hbe := @bat_eq ⟨a, es⟩ ⟨b, fs⟩
  simp only at hbe
  have HB := Go.Lib.hid hbe
  have s1 := TwoB.new w (.int .i64 a) (.slice A n ca) (.int .i64 b) (.slice B m cb)
  clear hbe
  go_enter Try.func17, Try.ntmps17
  go_upto_region 1 with (fail)
  generalize (w.alloc (.cells #[.int .i64 a, .slice A n ca] 24)).alloc (.cells #[.int .i64 b, .slice B m cb] 24) = w1 at *
  have k1 := s1.e0.c1
  have j1 := s1.e1.c1
  go_wp2_with fail
  refine (refSameAll_any A B n m ca cb es fs w1 (rA.below s1.bel) (rB.below s1.bel)).mono ?_
  rintro e w2 ⟨R, hR, rfl, b2⟩
  have s2 := s1.below b2
  have HR := Go.Lib.hid hR
  clear hR k1 j1 s1 b2
  have k0 := s2.e0.c0
  have j0 := s2.e1.c0
  by_cases hab : a = b
  · subst hab
    go_wp2_with fail
    go_ret
    exact ⟨R, by rw [HB.out, HR.out]; simp, rfl, s2.bel⟩
  · have i1 : (a == b) = false := by rw [beq_eq_false_iff_ne]; exact hab
    have HN := Go.Lib.hid hab
    clear hab
    go_wp2_with fail
    go_ret
    exact ⟨false, ⟨(fun h => by cases h), fun h => absurd (HB.out.1 h).1 HN.out⟩, rfl, s2.bel⟩

end Go.Proofs.Ytjoifkmcfenhpaa.BtWalk

