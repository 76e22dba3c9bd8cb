/-
  What the walks of layer 10's statements have in common: what is asked of the landed batch; few; the document's example.
-/
import Derived.Deep.DeepCutAuto
import Derived.Deep.CutBlock
import Derived.Deep.QuietTactic
import Derived.BigQuiet
import Derived.Deep.RegionHeldLaw
import Derived.Test.YtjoifkmcfenhpaaMg3
namespace Go.Proofs.Ytjoifkmcfenhpaa.BtWalk
open Go.RowKit Go.Proofs.Ytjoifkmcfenhpaa.MemRow Go.Proofs.Ytjoifkmcfenhpaa.Ev Go.Proofs.Ytjoifkmcfenhpaa.NameMath Go.Proofs.Ytjoifkmcfenhpaa.NameWalk Go.Proofs.Ytjoifkmcfenhpaa.EvWalk Go.Proofs.Ytjoifkmcfenhpaa.NumMath Go.Proofs.Ytjoifkmcfenhpaa.NumMem Go.Proofs.Ytjoifkmcfenhpaa.NumWalk Go.Proofs.Ytjoifkmcfenhpaa.EcWalk Go.Proofs.Ytjoifkmcfenhpaa.EdWalk Go.Proofs.Ytjoifkmcfenhpaa.EeLaw

/-- What is asked of the landed batch. -/
structure BApi : Prop where
  may : ∀ (v : Value) (x : Bat) (w : World), IsB w v x → BOk x → Calls Try.prog 13 #[v] w fun e w' => e = .returned (.int .i64 (mayX x)) ∧ Below w.heap.size w w'
  put : ∀ (v : Value) (x : Bat) (w : World), IsB w v x → BOk x → Calls Try.prog 11 #[v] w (PutXOut x w)
  take : ∀ (A : Option Addr) (n cap : Nat) (l : List UInt8) (w : World), Rd w A n cap l → l.length ≤ 1000000 → Calls Try.prog 15 #[.slice A n cap] w (TakeXOut l w)

/-! ### few -/
/-- At most twenty events, of twelve tags and fields each. -/
def fewEs (es : List Ev) : List Ev := (es.take 20).map fewE
def fewX (x : Bat) : Bat := ⟨x.a, fewEs x.es⟩
theorem fewX_ok {x : Bat} (h : BOk x) : BOk (fewX x) := ⟨fun e he => by
  obtain ⟨d, hd, rfl⟩ := List.mem_map.1 he
  exact fewE_ok (h.evs d (List.mem_of_mem_take hd)), h.a⟩
theorem fewEs_len (es : List Ev) : (fewEs es).length ≤ 20 := by simp only [fewEs, List.length_map, List.length_take]; omega
theorem fewEs_snoc (es : List Ev) (j : Nat) (h : j < es.length) (h20 : j < 20) : fewEs (es.take (j + 1)) = fewEs (es.take j) ++ [fewE (es.getD j noEv)] := by
  unfold fewEs
  rw [List.take_take, List.take_take, Nat.min_eq_right (by omega), Nat.min_eq_right (by omega), ev_take es j h, List.map_append]
  rfl
theorem fewEs_take (es : List Ev) (j : Nat) (h : es.length ≤ j ∨ 20 ≤ j) : fewEs (es.take j) = fewEs es := by
  unfold fewEs
  rw [List.take_take]
  rcases h with h | h
  · congr 1
    rcases Nat.le_total 20 j with h8 | h8
    · rw [Nat.min_eq_left h8]
    · rw [Nat.min_eq_right h8, List.take_of_length_le h, List.take_of_length_le (by omega)]
  · rw [Nat.min_eq_left h]

/-- What stands while a batch is made of another one: the argument's box, the result's cell, the batch that is made. -/
structure MkB (w0 wr w : World) (a : Int) (vs : Value) (A : Option Addr) (n cap : Nat) (es : List Ev) : Prop where
  eq : BxAt wr w.heap.size (.int .i64 a) vs
  res : BxAt wr (w.heap.size + 1) (.int .i64 0) (.slice none 0 0)
  out : BxAt wr (w.heap.size + 1 + 1) (.int .i64 a) (.slice A n cap)
  own : OwnO w0 wr (w.heap.size + 1 + 1 + 1) A n cap es
  bel : Below w.heap.size w wr
section
variable {w0 wr w w' : World} {a : Int} {vs : Value} {A : Option Addr} {n cap : Nat} {es : List Ev}
theorem MkB.below (h : MkB w0 wr w a vs A n cap es) (hb : Below wr.heap.size wr w') : MkB w0 w' w a vs A n cap es := ⟨h.eq.below hb, h.res.below hb, h.out.below hb, h.own.below hb, below_chain h.bel hb⟩
theorem MkB.far (h : MkB w0 wr w a vs A n cap es) {g : Nat} (hg : w.heap.size + 1 + 1 < g) (hA : ∀ a, A = some a → a.block ≠ g) (i : Nat) (x : Value) : MkB w0 (wr.setCell ⟨g, i, none⟩ x) w a vs A n cap es := by
  obtain ⟨cs, o, hl, hc⟩ := h.own
  exact ⟨h.eq.far (by omega) x, h.res.far (by omega) x, h.out.far (by omega) x, ⟨cs, OwnC.grown o (grown_set wr g i x) (fun a ha e => hA a ha (by injection e)), hl, hc⟩, h.bel.setCell (by show w.heap.size ≤ g; omega) x⟩
theorem MkB.new (w0 w : World) (a : Int) (vs : Value) : MkB w0 (((w.alloc (.cells #[.int .i64 a, vs] 24)).alloc (.cells #[.int .i64 0, .slice none 0 0] 24)).alloc (.cells #[.int .i64 a, .slice none 0 0] 24)) w a vs none 0 0 [] := by
  have a1 := BxAt.new w (.int .i64 a) vs
  have b1 := batch_bel w (.int .i64 a) vs
  generalize hw1 : w.alloc (.cells #[.int .i64 a, vs] 24) = w1 at *
  have s1 : w1.heap.size = w.heap.size + 1 := by rw [← hw1]; simp
  have a2 := BxAt.new w1 (.int .i64 0) (.slice none 0 0)
  have b2 := batch_bel w1 (.int .i64 0) (.slice none 0 0)
  generalize hw2 : w1.alloc (.cells #[.int .i64 0, .slice none 0 0] 24) = w2 at *
  have s2 : w2.heap.size = w.heap.size + 1 + 1 := by rw [← hw2]; simp [s1]
  have a3 := BxAt.new w2 (.int .i64 a) (.slice none 0 0)
  have b3 := batch_bel w2 (.int .i64 a) (.slice none 0 0)
  rw [s1] at a2
  rw [s2] at a3
  exact ⟨(a1.below b2).below b3, a2.below b3, a3, OwnO.nil _ _ _, below_chain (below_chain b1 b2) b3⟩
/-- An event is appended, and the batch's cell is written. -/
theorem MkB.more {cs : List Value} {e : Ev} {T F : Option Addr} {nT cT nF cF : Nat} {A' : Option Addr} {cap' : Nat} {w8 : World} (h : MkB w0 wr w a vs A n cap es) (ho : OwnC 4 wr (w.heap.size + 1 + 1 + 1) 44 A n cap cs) (hc : EvsO w0 es cs) (o1 : RdS w0 T nT cT e.tags) (o2 : RdF w0 F nF cF e.fs)
    (ho8 : OwnC 4 w8 (w.heap.size + 1 + 1 + 1) 44 A' (n + 1) cap' (cs ++ [.string e.s, .string e.t, .slice T nT cT, .slice F nF cF])) (hg : wr.grownBy w8 (A.map (·.block))) :
    w8.frozen? ⟨w.heap.size + 1 + 1, 1, none⟩ = false ∧ w8.cell? ⟨w.heap.size + 1 + 1, 1, none⟩ = some (.slice A n cap) ∧ MkB w0 (w8.setCell ⟨w.heap.size + 1 + 1, 1, none⟩ (.slice A' (n + 1) cap')) w a vs A' (n + 1) cap' (es ++ [e]) := by
  have low := fun r e => row_low ho (r := r) e
  have hF : ∀ k, k < w.heap.size + 1 + 1 + 1 → some k ≠ A.map (·.block) := fun k hk e => by have := low k e.symm; omega
  have e8 := h.out.grown hg (hF _ (by omega))
  have hs := grown_set w8 (w.heap.size + 1 + 1) 1 (.slice A' (n + 1) cap')
  have o8 : OwnO w0 w8 (w.heap.size + 1 + 1 + 1) A' (n + 1) cap' (es ++ [e]) := ⟨_, ho8, by rw [List.length_append, h.own.len]; rfl, EvsO.snoc o1 o2 es cs hc⟩
  refine ⟨e8.frozen 1, e8.c1, (h.eq.grown hg (hF _ (by omega))).far (by omega) _, (h.res.grown hg (hF _ (by omega))).far (by omega) _, e8.set1 _, o8.grown hs (by omega), ?_⟩
  have b8 := h.bel.grown hg h.bel.size (fun r e => by have := low r e; omega)
  exact b8.setCell (by show w.heap.size ≤ w.heap.size + 1 + 1; omega) _
end
theorem ev_one (e : Ev) (T F : Option Addr) (nT cT nF cF : Nat) : ∀ v ∈ ([.string e.s, .string e.t, .slice T nT cT, .slice F nF cF] : List Value), v.oneCell' = true := by
  intro v hv
  simp only [List.mem_cons, List.not_mem_nil, or_false] at hv
  rcases hv with rfl | rfl | rfl | rfl <;> rfl

set_option maxHeartbeats 8000000 in
set_option maxRecDepth 100000 in
theorem few10_any (v : Value) (x : Bat) (w0 w : World) (hv : IsB w0 v x) (hb0 : Below w0.heap.size w0 w) :
    Calls Try.prog 10 #[v] w fun e w' => ∃ A n ca, e = .returned (.agg #[.int .i64 x.a, .slice A n ca]) ∧ OwnO w0 w' (w.heap.size + 1 + 1 + 1) A n ca (fewEs x.es) ∧ Below w.heap.size w w' := by
  obtain ⟨C, n, cap, rfl, rC⟩ := hv
  obtain ⟨a, es⟩ := x
  simp only at rC
  have LC := Go.Lib.hid rC.len
  have hn := rC.le
  unfold maxLen at hn
  have s1 := MkB.new w0 w a (.slice C n cap)
  go_enter Try.func10, Try.ntmps10
  go_upto_region 2 with (fail)
  generalize ((w.alloc (.cells #[.int .i64 a, .slice C n cap] 24)).alloc (.cells #[.int .i64 0, .slice none 0 0] 24)).alloc (.cells #[.int .i64 a, .slice none 0 0] 24) = w1 at *
  go_wp2_with fail
  go_loopw [4, 5] (fun i _ wr => ∃ (j : Nat) (A : Option Addr) (ca : Nat), j ≤ n ∧ j ≤ 20 ∧ i = .int .i64 j ∧ MkB w0 wr w a (.slice C n cap) A j ca (fewEs (es.take j))) (fun i _ _ => n - (intOf i).toNat)
  case atStart => exact ⟨0, none, 0, Nat.zero_le _, by omega, rfl, s1⟩
  case round =>
    obtain ⟨j, A, ca, hjn, hj20, rfl, sr⟩ := hrel
    clear s1
    have k0 := sr.eq.c0
    have k1 := sr.eq.c1
    by_cases hlt : j < n ∧ j < 20
    · obtain ⟨h1, h2⟩ := hlt
      obtain ⟨bt, ot, rfl, _, kt⟩ := rC.at_ (by omega)
      obtain ⟨T, nT, cT, Y, nY, cY, x0', x1', x2', x3', rT, rY⟩ := kt j h1
      have bb := below_chain hb0 sr.bel
      have x0 := bcell bb x0'
      have x1 := bcell bb x1'
      have x2 := bcell bb x2'
      have x3 := bcell bb x3'
      have i1 : (j : Int) < n := by omega
      have i2 : (j : Int) < 20 := by omega
      have HS := Go.Lib.hid (fewEs_snoc es j (by rw [LC.out]; exact h1) h2)
      clear kt x0' x1' x2' x3' bb
      generalize es.getD j noEv = ev at *
      go_upto_region 6 with (fail)
      have al : Below wr.heap.size wr (wr.alloc (.cells #[.string ev.s, .string ev.t, .slice T nT cT, .slice Y nY cY] 44)) := (Below.refl _ _).alloc (Nat.le_refl _) _
      have c5 := EvAt.new wr (.string ev.s) (.string ev.t) (.slice T nT cT) (.slice Y nY cY)
      have s5 := sr.below al
      have glt : w.heap.size + 1 + 1 < wr.heap.size := sr.out.lt
      have gA : ∀ a, A = some a → a.block ≠ wr.heap.size := fun a hA => by
        obtain ⟨cs, o, _, _⟩ := sr.own
        have := (OwnC.lt o a hA).2
        omega
      have GA := Go.Lib.hid gA
      generalize wr.alloc (.cells #[.string ev.s, .string ev.t, .slice T nT cT, .slice Y nY cY] 44) = w5 at *
      generalize wr.heap.size = g at *
      have LT := Go.Lib.hid rT.len
      have LY := Go.Lib.hid rY.len
      have hnT := RdC.le rT
      have hnY := RdC.le rY
      unfold maxLen at hnT hnY
      clear sr k0 k1 x0 x1 x2 x3 al gA
      have k2 := c5.c2
      go_upto_if 28 with (fail)
      go_cut [5] (fun p wx => p = .pointer (some ⟨g, 0, none⟩) ∧ ∃ nT', EvAt wx g (.string ev.s) (.string ev.t) (.slice T nT' cT) (.slice Y nY cY) ∧ RdS w0 T nT' cT (ev.tags.take 12) ∧ MkB w0 wx w a (.slice (some ⟨bt, ot, none⟩) n cap) A j ca (fewEs (es.take j)))
      case first =>
        by_cases h8 : 12 < nT
        · obtain ⟨q1, d1⟩ := slice_hi (P := Try.prog) 41 9 Try.underlying41 elem_strs string_size rT (m := 12) (by omega)
          rw [strs_take] at d1
          have q1' : ∀ W, (Instr.slice 41 (.slice T nT cT) none (some (.int .i64 12)) none).run Try.prog W = .ok (.slice T 12 cT) W := q1
          have i3 : (12 : Int) < nT := by omega
          have z5 := c5.frozen 2
          have c6 := c5.set2 (.slice T 12 cT)
          have s6 := s5.far glt GA.out 2 (.slice T 12 cT)
          have C6 := Go.Lib.hid c6
          have S6 := Go.Lib.hid s6
          clear q1 c6 s6
          go_wp2_with fail
          go_meet
          exact ⟨rfl, 12, C6.out, d1, S6.out⟩
        · have i3 : ¬ (12 : Int) < nT := by omega
          have d1 : RdS w0 T nT cT (ev.tags.take 12) := by rw [List.take_of_length_le (by rw [LT.out]; omega)]; exact rT
          go_wp2_with fail
          go_meet
          exact ⟨rfl, nT, c5, d1, s5⟩
      case rest =>
        obtain ⟨rfl, nT', c6, d6, s6⟩ := hcut
        clear k2 c5 s5
        have k3 := c6.c3
        go_upto_if 36 with (fail)
        go_cut [5] (fun p wx => p = .pointer (some ⟨g, 0, none⟩) ∧ ∃ nY', EvAt wx g (.string ev.s) (.string ev.t) (.slice T nT' cT) (.slice Y nY' cY) ∧ RdF w0 Y nY' cY (ev.fs.take 12) ∧ MkB w0 wx w a (.slice (some ⟨bt, ot, none⟩) n cap) A j ca (fewEs (es.take j)))
        case first =>
          by_cases h8 : 12 < nY
          · obtain ⟨q1, d1⟩ := slice_hi (P := Try.prog) 42 64 Try.underlying42 elem_flds field_size rY (m := 12) (by omega)
            rw [flds_take] at d1
            have q1' : ∀ W, (Instr.slice 42 (.slice Y nY cY) none (some (.int .i64 12)) none).run Try.prog W = .ok (.slice Y 12 cY) W := q1
            have i3 : (12 : Int) < nY := by omega
            have z5 := c6.frozen 3
            have c7 := c6.set3 (.slice Y 12 cY)
            have s7 := s6.far glt GA.out 3 (.slice Y 12 cY)
            have C7 := Go.Lib.hid c7
            have S7 := Go.Lib.hid s7
            clear q1 c7 s7
            go_wp2_with fail
            go_meet
            exact ⟨rfl, 12, C7.out, d1, S7.out⟩
          · have i3 : ¬ (12 : Int) < nY := by omega
            have d1 : RdF w0 Y nY cY (ev.fs.take 12) := by rw [List.take_of_length_le (by rw [LY.out]; omega)]; exact rY
            go_wp2_with fail
            go_meet
            exact ⟨rfl, nY, c6, d1, s6⟩
        case rest =>
          obtain ⟨rfl, nY', c7, d7, s7⟩ := hcut
          clear k3 c6 s6
          have k0 := c7.c0
          have k1 := c7.c1
          have k2 := c7.c2
          have k3 := c7.c3
          have o1 := s7.out.c1
          have al : Below wc.heap.size wc (wc.alloc (.cells #[.string ev.s, .string ev.t, .slice T nT' cT, .slice Y nY' cY] 44)) := (Below.refl _ _).alloc (Nat.le_refl _) _
          have s8 := s7.below al
          have d8 : RdC 4 (wc.alloc (.cells #[.string ev.s, .string ev.t, .slice T nT' cT, .slice Y nY' cY] 44)) (some ⟨wc.heap.size, 0, none⟩) 1 1 [.string ev.s, .string ev.t, .slice T nT' cT, .slice Y nY' cY] := RdC.new wc 44 [.string ev.s, .string ev.t, .slice T nT' cT, .slice Y nY' cY] rfl (by decide)
          have big : w.heap.size + 1 + 1 + 1 ≤ (wc.alloc (.cells #[.string ev.s, .string ev.t, .slice T nT' cT, .slice Y nY' cY] 44)).heap.size := s8.out.lt
          have h63 : j + 1 ≤ maxLen := by unfold maxLen; omega
          have hsz : (j + 1) * 80 ≤ 140737488355328 := by omega
          obtain ⟨cs, oc, hcl, hcs⟩ := s8.own
          clear s7 c7 GA al LT LY hnT hnY
          go_wp2_with (at_builtin; refine wpList_append_cells rfl (.tmp 42) (.tmp 44) 22 rfl 44 (.agg #[.string ⟨#[]⟩, .string ⟨#[]⟩, .slice none 0 0, .slice none 0 0]) 80 Try.underlying22 event_info rfl (by decide) rfl rfl oc d8 (ev_one ev _ _ _ _ _ _) h63 hsz big ?_; intro A9 c9 w9 o9 g9 _; obtain ⟨z9, k9, n9⟩ := s8.more (e := fewE ev) oc hcs d6 d7 o9 g9)
          go_roundw
          case rel => exact ⟨j + 1, A9, c9, by omega, by omega, by go_num, by rw [HS.out]; exact n9⟩
          case measure => simp [intOf]; omega
    · have hq : fewEs (es.take j) = fewEs es := fewEs_take es j (by rw [LC.out]; omega)
      rw [hq] at sr
      have HQ := Go.Lib.hid hq
      have o0 := sr.out.c0
      have o1 := sr.out.c1
      have r0 := sr.res.c0
      have r1 := sr.res.c1
      have z0 := sr.res.frozen 0
      have z1 := sr.res.frozen 1
      have E9 := Go.Lib.hid (sr.res.all (.int .i64 a) (.slice A j ca))
      have RQ := Go.Lib.hid (sr.own.setB (g := w.heap.size + 1) (by omega) (.int .i64 a) (.slice A j ca))
      have bq0 : Below w.heap.size w (wr.setCell ⟨w.heap.size + 1, 0, none⟩ (.int .i64 a)) := sr.bel.setCell (by show w.heap.size ≤ w.heap.size + 1; omega) _
      have bq1 : Below w.heap.size w ((wr.setCell ⟨w.heap.size + 1, 0, none⟩ (.int .i64 a)).setCell ⟨w.heap.size + 1, 1, none⟩ (.slice A j ca)) := bq0.setCell (by show w.heap.size ≤ w.heap.size + 1; omega) _
      have BQ := Go.Lib.hid bq1
      clear bq0 bq1
      clear hq
      by_cases h1 : j < n
      · have i2 : ¬ (j : Int) < 20 := by omega
        have i1 : (j : Int) < n := by omega
        clear hlt
        go_wp2_with fail
        have e9 := E9.out
        have rq9 := RQ.out
        have b9 := BQ.out
        generalize (wr.setCell ⟨w.heap.size + 1, 0, none⟩ (.int .i64 a)).setCell ⟨w.heap.size + 1, 1, none⟩ (.slice A j ca) = w9 at *
        have q0 := e9.c0
        have q1 := e9.c1
        exact bodyPost_ret (v := .agg #[.int .i64 a, .slice A j ca]) (by simp [results, Try.results10, go_sem, q0, q1]) rfl ⟨_, _, _, rfl, rq9, b9⟩
      · have i1 : ¬ (j : Int) < n := by omega
        clear hlt
        go_wp2_with fail
        have e9 := E9.out
        have rq9 := RQ.out
        have b9 := BQ.out
        generalize (wr.setCell ⟨w.heap.size + 1, 0, none⟩ (.int .i64 a)).setCell ⟨w.heap.size + 1, 1, none⟩ (.slice A j ca) = w9 at *
        have q0 := e9.c0
        have q1 := e9.c1
        exact bodyPost_ret (v := .agg #[.int .i64 a, .slice A j ca]) (by simp [results, Try.results10, go_sem, q0, q1]) rfl ⟨_, _, _, rfl, rq9, b9⟩

/-! ### The document's example -/
def exX : Bat := ⟨5, [exE]⟩
theorem exX_may : mayX exX = 0 := (mayX_zero _).2 ⟨by decide, by decide, by intro e he; rw [exX, List.mem_singleton] at he; subst he; exact exE_may, by decide, by decide⟩
theorem exX_ok : BOk exX := ⟨by intro e he; rw [exX, List.mem_singleton] at he; subst he; exact exE_ok, by decide, by decide⟩
theorem exX_enc : encX exX = [10, 2, 2, 115, 2, 116, 0, 0] := by
  have e0 := exE_enc
  rw [List.nil_append] at e0
  have e1 : enc (5 : Int) = [10] := by rw [enc_small (by decide) (by decide)]; rfl
  have e2 : enc ((([exE] : List Ev).length : Nat) : Int) = [2] := by rw [enc_small (by decide) (by decide)]; rfl
  unfold encX exX evsE
  simp only [List.flatMap_cons, List.flatMap_nil]
  rw [e0, e1, e2]
  rfl

set_option maxHeartbeats 8000000 in
set_option maxRecDepth 100000 in
theorem shown10_any (F : BApi) (w : World) :
    Calls Try.prog 9 #[] w fun e w' => e = .returned (.bool true) ∧ Below w.heap.size w w' := by
  have al : Below w.heap.size w (w.alloc (.cells #[.string ⟨#[115]⟩, .string ⟨#[116]⟩, .slice none 0 0, .slice none 0 0] 44)) := (Below.refl _ _).alloc (Nat.le_refl _) _
  have e1 := EvAt.new w (.string ⟨#[115]⟩) (.string ⟨#[116]⟩) (.slice none 0 0) (.slice none 0 0)
  have r1 : RdE (w.alloc (.cells #[.string ⟨#[115]⟩, .string ⟨#[116]⟩, .slice none 0 0, .slice none 0 0] 44)) (some ⟨w.heap.size, 0, none⟩) 1 1 [exE] :=
    ⟨rfl, Nat.le_refl _, by decide, fun _ => ⟨w.heap.size, 0, rfl, e1.lt, fun i hi => by
      obtain rfl : i = 0 := by omega
      exact ⟨none, 0, 0, none, 0, 0, e1.c0, e1.c1, e1.c2, e1.c3, RdC.nil _, RdC.nil _⟩⟩⟩
  have iv : IsB (w.alloc (.cells #[.string ⟨#[115]⟩, .string ⟨#[116]⟩, .slice none 0 0, .slice none 0 0] 44)) (.agg #[.int .i64 5, .slice (some ⟨w.heap.size, 0, none⟩) 1 1]) exX := ⟨_, _, _, rfl, r1⟩
  clear e1 r1
  go_enter Try.func9, Try.ntmps9
  go_wp2_with fail
  refine (F.put _ exX _ iv exX_ok).mono ?_
  rintro e w1 hp
  obtain ⟨A, m, c, rfl, r, b1⟩ := putX_one hp
  rw [exX_may]
  unfold pX at r
  rw [if_pos exX_may, exX_enc] at r
  obtain rfl : m = 8 := r.len.symm
  have est := rd_str r
  have est' : (convert 27 9 (.slice A 8 c)).run Try.prog w1 = .ok (.string ⟨#[10, 2, 2, 115, 2, 116, 0, 0]⟩) w1 := est
  have B1 := below_chain al b1
  clear r est hp iv al b1
  go_wp2_with fail
  go_ret
  exact ⟨rfl, B1⟩

end Go.Proofs.Ytjoifkmcfenhpaa.BtWalk

/-
  Contracts of layer 10: May, Put.
-/
namespace Go.Proofs.Ytjoifkmcfenhpaa.BtWalk
open Go.RowKit Go.Proofs.Ytjoifkmcfenhpaa.MemRow Go.Proofs.Ytjoifkmcfenhpaa.Ev Go.Proofs.Ytjoifkmcfenhpaa.NameMath Go.Proofs.Ytjoifkmcfenhpaa.NameWalk Go.Proofs.Ytjoifkmcfenhpaa.EvWalk Go.Proofs.Ytjoifkmcfenhpaa.NumMath Go.Proofs.Ytjoifkmcfenhpaa.NumMem Go.Proofs.Ytjoifkmcfenhpaa.NumWalk Go.Proofs.Ytjoifkmcfenhpaa.EcWalk Go.Proofs.Ytjoifkmcfenhpaa.EdWalk Go.Proofs.Ytjoifkmcfenhpaa.EeLaw

set_option maxHeartbeats 4000000 in
set_option maxRecDepth 100000 in
theorem may10_any (v : Value) (x : Bat) (w : World) (hv : IsB w v x) (hok : BOk x) :
    Calls Try.prog 13 #[v] w fun e w' => e = .returned (.int .i64 (mayX x)) ∧ Below w.heap.size w w' := by
  obtain ⟨A, n, ca, rfl, rE⟩ := hv
  obtain ⟨a, es⟩ := x
  simp only at rE
  have oke := hok.evs
  have oka := hok.a
  simp only at oke oka
  have LE := Go.Lib.hid rE.len
  have hn := rE.le
  unfold maxLen at hn
  have s1 := BoxB.new w (.int .i64 a) (.slice A n ca)
  have H1 := Go.Lib.hid (fun h => mayX_none (a := a) (es := es) h)
  have H2 := Go.Lib.hid (fun h => mayX_big (a := a) (es := es) h)
  have HX := Go.Lib.hid (fun h0 h16 hm => mayX_pos (a := a) LE.out h0 h16 hm)
  have HE := Go.Lib.hid (fun h0 h16 hm => mayX_ev (a := a) (es := es) h0 h16 hm)
  clear hok
  generalize mayX ⟨a, es⟩ = M at *
  go_enter Try.func13, Try.ntmps13
  go_upto_region 1 with (fail)
  generalize w.alloc (.cells #[.int .i64 a, .slice A n ca] 24) = w1 at *
  have k1 := s1.eq.c1
  by_cases h0 : n = 0
  · subst h0
    obtain rfl : M = 22 := H1.out LE.out
    clear H1 H2 HX HE
    go_wp2_with fail
    go_ret
    exact ⟨rfl, s1.bel⟩
  have i0 : ((n : Int) == 0) = false := by rw [beq_eq_false_iff_ne]; omega
  by_cases h16 : 16 < n
  · obtain rfl : M = 3 := H2.out (by rw [LE.out]; exact h16)
    clear H1 H2 HX HE
    have i1 : (16 : Int) < n := by omega
    go_wp2_with fail
    go_ret
    exact ⟨rfl, s1.bel⟩
  have i1 : ¬ (16 : Int) < n := by omega
  have H0 := Go.Lib.hid h0
  replace HX := Go.Lib.hid (fun hm => HX.out h0 h16 hm)
  replace HE := Go.Lib.hid (fun hm => HE.out (by rw [LE.out]; exact h0) (by rw [LE.out]; exact h16) hm)
  clear h0 H1 H2
  go_wp2_with fail
  go_loopw [5, 6, 19] (fun _ _ i wr => ∃ j : Nat, j ≤ n ∧ i = .int .i64 j ∧ Hid (mayEs (es.take j) = 0) ∧ BoxB wr w (.int .i64 a) (.slice A n ca)) (fun _ _ i _ => n - (intOf i).toNat)
  case atStart => exact ⟨0, Nat.zero_le _, rfl, Go.Lib.hid (by simp [mayEs]), s1⟩
  case round =>
    obtain ⟨j, hj, rfl, HJ, sr⟩ := hrel
    clear s1 k1
    have k0 := sr.eq.c0
    by_cases hlt : j < n
    · obtain ⟨b, o, rfl, _, kt⟩ := rE.at_ (by omega)
      obtain ⟨A1, n1, c1, B1, m1, d1, x0, x1, x2, x3, r1, r2⟩ := (kt j hlt).below sr.bel
      have i2 : (j : Int) < n := by omega
      have hjl : j < es.length := by rw [LE.out]; exact hlt
      have hoe := oke _ (ev_get hjl)
      have HA := Go.Lib.hid (mayEs_at es j HJ.out hjl)
      have HT := Go.Lib.hid (mayEs_take es j HJ.out hjl)
      clear kt hjl
      generalize es.getD j noEv = ev at *
      go_upto_region 9 with (fail)
      have al : Below wr.heap.size wr (wr.alloc (.cells #[.string ev.s, .string ev.t, .slice A1 n1 c1, .slice B1 m1 d1] 44)) := (Below.refl _ _).alloc (Nat.le_refl _) _
      have e3 := EvAt.new wr (.string ev.s) (.string ev.t) (.slice A1 n1 c1) (.slice B1 m1 d1)
      have s3 := sr.below al
      have iv : IsEv (wr.alloc (.cells #[.string ev.s, .string ev.t, .slice A1 n1 c1, .slice B1 m1 d1] 44)) (.agg #[.string ev.s, .string ev.t, .slice A1 n1 c1, .slice B1 m1 d1]) ev := ⟨_, _, _, _, _, _, rfl, RdC.below r1 al, RdC.below r2 al⟩
      generalize wr.alloc (.cells #[.string ev.s, .string ev.t, .slice A1 n1 c1, .slice B1 m1 d1] 44) = w3 at *
      have q0 := e3.c0
      have q1 := e3.c1
      have q2 := e3.c2
      have q3 := e3.c3
      clear x0 x1 x2 x3 r1 r2 k0 sr al e3
      go_wp2_with fail
      refine (evMay_any _ ev w3 iv hoe).mono ?_
      rintro e w6 ⟨rfl, b6⟩
      have s6 := s3.below b6
      clear q0 q1 q2 q3 iv s3 b6
      by_cases he : mayE ev = 0
      · have HT2 := Go.Lib.hid (HT.out he)
        rw [he]
        clear he HT HA
        go_wp2_with fail
        go_roundw
        case rel => exact ⟨j + 1, by omega, by go_num, HT2, s6⟩
        case measure => simp [intOf]; omega
      · have hb : (mayE ev != 0) = true := by rw [bne_iff_ne]; exact he
        have hme := HA.out he
        have hM : M = mayE ev := by rw [HE.out (by rw [hme]; exact he), hme]
        rw [← hM] at hb ⊢
        clear HA HT HE HX hme he hM
        go_wp2_with fail
        go_ret
        exact ⟨rfl, s6.bel⟩
    · obtain rfl : n = j := by omega
      have hes : es.take n = es := List.take_of_length_le (by rw [LE.out]; exact Nat.le_refl _)
      have HM := Go.Lib.hid (HX.out (by rw [← hes]; exact HJ.out))
      clear hes HX HE HJ
      by_cases ha : a < 0
      · obtain rfl : M = 1 := by rw [HM.out, if_pos (.inl ha)]
        clear HM
        go_wp2_with fail
        go_ret
        exact ⟨rfl, sr.bel⟩
      · by_cases hb : 1048576 - (n : Int) < a
        · obtain rfl : M = 1 := by rw [HM.out, if_pos (.inr hb)]
          clear HM
          go_wp2_with fail
          go_ret
          exact ⟨rfl, sr.bel⟩
        · obtain rfl : M = 0 := by rw [HM.out, if_neg (by omega)]
          clear HM
          go_wp2_with fail
          go_ret
          exact ⟨rfl, sr.bel⟩

theorem put10_rd (A : Option Addr) (n cap : Nat) (l : List UInt8) (x : Int) (w : World) (h : Rd w A n cap l) (hx : -9223372036854775808 ≤ x ∧ x ≤ 9223372036854775807) (hn : l.length ≤ 10000000) :
    Calls Try.prog 20 #[.slice A n cap, .int .i64 x] w fun e w' => ∃ (A' : Option Addr) (c : Nat) (l' : List UInt8), Hid (l' = l ++ enc x) ∧ e = .returned (.slice A' l'.length c) ∧ Rd w' A' l'.length c l' ∧ Below w.heap.size w w' := by
  have hl := h.len
  have hel := enc_le x hx.1 hx.2
  refine (put_any A n cap l x w h hx.1 hx.2 (by omega)).mono ?_
  rintro e w' ⟨rfl, hr, hb⟩
  have e1 : n + (enc x).length = (l ++ enc x).length := by rw [List.length_append, hl]
  rw [e1]
  exact ⟨_, _, _, Go.Lib.hid rfl, rfl, hr.rd (by rw [List.length_append]; unfold maxLen; omega), hb⟩

set_option maxHeartbeats 4000000 in
set_option maxRecDepth 100000 in
theorem put10_any (v : Value) (x : Bat) (w : World) (hv : IsB w v x) (hok : BOk x) :
    Calls Try.prog 11 #[v] w (PutXOut x w) := by
  have hv0 := hv
  obtain ⟨A, n, ca, rfl, rE⟩ := hv
  have LE := Go.Lib.hid rE.len
  have hn := rE.le
  unfold maxLen at hn
  have s1 := BoxB.new w (.int .i64 x.a) (.slice A n ca)
  have oke := hok.evs
  go_enter Try.func11, Try.ntmps11
  go_upto_region 1 with (fail)
  generalize w.alloc (.cells #[.int .i64 x.a, .slice A n ca] 24) = w1 at *
  have k0 := s1.eq.c0
  have k1 := s1.eq.c1
  go_wp2_with fail
  refine (may10_any _ x w1 (hv0.below s1.bel) hok).mono ?_
  rintro e w2 ⟨rfl, b2⟩
  have s2 := s1.below b2
  clear k0 k1 s1 b2
  by_cases h0 : mayX x = 0
  case neg =>
    have m0 : (mayX x != 0) = true := by rw [bne_iff_ne]; exact h0
    have H0 := Go.Lib.hid h0
    clear h0
    go_wp2_with fail
    go_ret2
    exact ⟨s2.bel, .inr ⟨H0.out, rfl⟩⟩
  rw [h0]
  have H0 := Go.Lib.hid h0
  obtain ⟨z1, z2, z3, z4, z5⟩ := (mayX_zero x).1 h0
  have Z3 := Go.Lib.hid z3
  rw [rE.len] at z1 z2 z5
  have hx0 : -9223372036854775808 ≤ x.a ∧ x.a ≤ 9223372036854775807 := hok.a
  have hxn : -9223372036854775808 ≤ (n : Int) ∧ (n : Int) ≤ 9223372036854775807 := by omega
  clear h0 z3 z4 z5 hok
  have k0 := s2.eq.c0
  have k1 := s2.eq.c1
  have b0 : Below w2.heap.size w2 w2.drew := bel_drew (Below.refl _ _)
  have hz : ([] : List UInt8).length ≤ 10000000 := by simp
  go_wp2_with fail
  go_region_held (fun w' => w'.cell? ⟨w.heap.size, 0, none⟩ = some (.int .i64 x.a) ∧ w'.cell? ⟨w.heap.size, 1, none⟩ = some (.slice A n ca))
    (first | exact ⟨k0, k1⟩ | exact ⟨bcell b3 k0, bcell b3 k1⟩ | exact ⟨bcell b4 k0, bcell b4 k1⟩)
    (first
      | (go_at_call 20; refine (put10_rd A3 l3.length c3 l3 (n : Int) w3 o3 hxn hl3).mono ?_; rintro e w4 ⟨A4, c4, l4, H4, rfl, o4, bb⟩; have b4 := below_chain b3 bb; clear bb)
      | (go_at_call 20; refine (put10_rd none 0 0 [] x.a w2.drew (Rd.nil _) hx0 hz).mono ?_; rintro e w3 ⟨A3, c3, l3, H3, rfl, o3, bb⟩; have b3 := below_chain b0 bb; have hl3 : l3.length ≤ 10000000 := (by rw [H3.out, List.nil_append]; have := enc_le x.a hx0.1 hx0.2; omega); clear bb))
  have s4 := s2.below b4
  have H5 : Hid (l4 = enc x.a ++ enc (x.es.length : Int) ++ evsE (x.es.take 0)) := Go.Lib.hid (by rw [H4.out, H3.out, LE.out]; simp [evsE])
  clear k0 k1 b0 b3 b4 o3 hl3 s2
  have k1 := s4.eq.c1
  go_wp2_with fail
  go_loopw [5, 7, 23] (fun o _ i wr => ∃ (j : Nat) (A' : Option Addr) (c' : Nat) (l' : List UInt8), j ≤ n ∧ o = .slice A' l'.length c' ∧ i = .int .i64 j ∧ Hid (l' = enc x.a ++ enc (x.es.length : Int) ++ evsE (x.es.take j)) ∧ Rd wr A' l'.length c' l' ∧ Below w.heap.size w wr) (fun _ _ i _ => n - (intOf i).toNat)
  case atStart => exact ⟨0, A4, c4, l4, Nat.zero_le _, rfl, rfl, H5, o4, s4.bel⟩
  case round =>
    obtain ⟨j, A', c', l', hj, rfl, rfl, HQ, oq, sq⟩ := hrel
    clear s4 o4 H5 H4 H3 k1
    by_cases hlt : j < n
    · obtain ⟨b, o, rfl, _, kt⟩ := rE.at_ (by omega)
      obtain ⟨A1, n1, c1, B1, m1, d1, x0, x1, x2, x3, r1, r2⟩ := (kt j hlt).below sq
      have i2 : (j : Int) < n := by omega
      have hjl : j < x.es.length := by rw [LE.out]; exact hlt
      have hoe := oke _ (ev_get hjl)
      have HE0 := Go.Lib.hid (Z3.out _ (ev_get hjl))
      have HT := Go.Lib.hid (ev_take x.es j hjl)
      have hlq : l'.length ≤ 1000000 := by
        have h1 := evsE_le (es := x.es.take j) fun e he => Z3.out e (List.mem_of_mem_take he)
        have h2 : (x.es.take j).length ≤ 16 := by rw [List.length_take]; omega
        have h3 := enc_le x.a hx0.1 hx0.2
        have h4 := enc_le (x.es.length : Int) (by omega) (by rw [LE.out]; omega)
        rw [HQ.out]
        simp only [List.length_append]
        omega
      clear kt hjl
      generalize x.es.getD j noEv = ev at *
      go_upto_region 8 with (fail)
      have al : Below wr.heap.size wr (wr.alloc (.cells #[.string ev.s, .string ev.t, .slice A1 n1 c1, .slice B1 m1 d1] 44)) := (Below.refl _ _).alloc (Nat.le_refl _) _
      have e3 := EvAt.new wr (.string ev.s) (.string ev.t) (.slice A1 n1 c1) (.slice B1 m1 d1)
      have s3 := below_chain sq al
      have o3 := oq.below al
      have iv : IsEv (wr.alloc (.cells #[.string ev.s, .string ev.t, .slice A1 n1 c1, .slice B1 m1 d1] 44)) (.agg #[.string ev.s, .string ev.t, .slice A1 n1 c1, .slice B1 m1 d1]) ev := ⟨_, _, _, _, _, _, rfl, RdC.below r1 al, RdC.below r2 al⟩
      generalize wr.alloc (.cells #[.string ev.s, .string ev.t, .slice A1 n1 c1, .slice B1 m1 d1] 44) = w3 at *
      have q0 := e3.c0
      have q1 := e3.c1
      have q2 := e3.c2
      have q3 := e3.c3
      clear x0 x1 x2 x3 r1 r2 sq al e3 oq
      go_wp2_with fail
      refine (putE_any A' l'.length c' l' _ ev w3 o3 hlq iv hoe).mono ?_
      rintro e w6 ⟨hp, b6⟩
      have s6 := below_chain s3 b6
      rcases hp with ⟨_, v7, rfl, L7⟩ | ⟨hne, _⟩
      · obtain ⟨A7, c7, rfl, o7⟩ := L7
        have r7 := o7.rd
        have H7 : Hid (l' ++ encE ev = enc x.a ++ enc (x.es.length : Int) ++ evsE (x.es.take (j + 1))) := Go.Lib.hid (by rw [HT.out, evsE_snoc, HQ.out]; simp only [List.append_assoc])
        clear q0 q1 q2 q3 iv s3 b6 HT HQ o3 o7
        generalize l' ++ encE ev = l7 at *
        go_wp2_with fail
        go_roundw
        case rel => exact ⟨j + 1, A7, c7, l7, by omega, rfl, by go_num, H7, r7, s6⟩
        case measure => simp [intOf]; omega
      · exact absurd HE0.out hne
    · obtain rfl : n = j := by omega
      have hes : l' = encX x := by rw [HQ.out, List.take_of_length_le (by rw [LE.out]; exact Nat.le_refl _)]; rfl
      have HP := Go.Lib.hid (fun (W : World) (e : Ending) (hb : Below w.heap.size w W) (A : Option Addr) (c : Nat) (he : e = .returned (.tuple #[.slice A l'.length c, .int .i64 0])) (hr : Rd W A l'.length c l') => (show PutXOut x w e W from ⟨hb, .inl ⟨H0.out, A, c, by rw [← hes]; exact he, by rw [← hes]; exact hr⟩⟩))
      clear hes
      go_wp2_with fail
      go_ret2
      exact HP.out _ _ sq _ _ rfl oq

end Go.Proofs.Ytjoifkmcfenhpaa.BtWalk

/-
  Contract of the document's answer of layer 10: Take.
-/
namespace Go.Proofs.Ytjoifkmcfenhpaa.BtWalk
open Go.RowKit Go.Proofs.Ytjoifkmcfenhpaa.MemRow Go.Proofs.Ytjoifkmcfenhpaa.Ev Go.Proofs.Ytjoifkmcfenhpaa.NameMath Go.Proofs.Ytjoifkmcfenhpaa.NameWalk Go.Proofs.Ytjoifkmcfenhpaa.EvWalk Go.Proofs.Ytjoifkmcfenhpaa.NumMath Go.Proofs.Ytjoifkmcfenhpaa.NumMem Go.Proofs.Ytjoifkmcfenhpaa.NumWalk Go.Proofs.Ytjoifkmcfenhpaa.EcWalk Go.Proofs.Ytjoifkmcfenhpaa.EdWalk Go.Proofs.Ytjoifkmcfenhpaa.EeLaw

/-- What stands while a batch is taken: the reader, the result's cell, the batch that is made. -/
structure RtAt (R : TypeId) (wr w : World) (g : Nat) (l : List UInt8) (b : Bool) (gx : Nat) (a : Int) (A : Option Addr) (n c : Nat) (es : List Ev) : Prop where
  rd : Rdr wr R g l b
  res : BxAt wr w.heap.size (.int .i64 0) (.slice none 0 0)
  bx : BxAt wr gx (.int .i64 a) (.slice A n c)
  own : OwnE wr (gx + 1) A n c es
  bel : Below w.heap.size w wr
  hw : w.heap.size < g
  hg : g < gx
section
variable {R : TypeId} {wr w w' : World} {g gx n c : Nat} {l l' : List UInt8} {b b' : Bool} {a : Int} {A : Option Addr} {es : List Ev}
theorem RtAt.read (h : RtAt R wr w g l b gx a A n c es) (hr : Rdr w' R g l' b') (hg : wr.grownBy w' (some g)) : RtAt R w' w g l' b' gx a A n c es := by
  have h1 := h.hw
  have h2 := h.hg
  exact ⟨hr, h.res.grown hg (by simp; omega), h.bx.grown hg (by simp; omega), h.own.off hg (by omega), h.bel.grown hg h.bel.size (by rintro q ⟨rfl⟩; omega), h1, h2⟩
theorem RtAt.below (h : RtAt R wr w g l b gx a A n c es) (hb : Below wr.heap.size wr w') : RtAt R w' w g l b gx a A n c es :=
  ⟨h.rd.below hb, h.res.below hb, h.bx.below hb, h.own.below hb, below_chain h.bel hb, h.hw, h.hg⟩
theorem RtAt.drew (h : RtAt R wr w g l b gx a A n c es) : RtAt R wr.drew w g l b gx a A n c es := h.below (bel_drew (Below.refl _ _))
/-- An event is appended, and the batch's cell is written. -/
theorem RtAt.more {cs : List Value} {e : Ev} {T F : Option Addr} {nT cT nF cF : Nat} {A' : Option Addr} {c' : Nat} {w8 : World} (h : RtAt R wr w g l b gx a A n c es) (ho : OwnC 4 wr (gx + 1) 44 A n c cs) (hl : es.length = n) (hc : EvsC wr (gx + 1) es cs)
    (o1 : OwnC 1 wr (gx + 1) 9 T nT cT (MemRow.strs e.tags)) (o2 : OwnC 2 wr (gx + 1) 64 F nF cF (flds e.fs))
    (ho8 : OwnC 4 w8 (gx + 1) 44 A' (n + 1) c' (cs ++ [.string e.s, .string e.t, .slice T nT cT, .slice F nF cF])) (hg : wr.grownBy w8 (A.map (·.block))) :
    w8.frozen? ⟨gx, 1, none⟩ = false ∧ w8.cell? ⟨gx, 1, none⟩ = some (.slice A n c) ∧ RtAt R (w8.setCell ⟨gx, 1, none⟩ (.slice A' (n + 1) c')) w g l b gx a A' (n + 1) c' (es ++ [e]) := by
  have h1 := h.hw
  have h2 := h.hg
  have low := fun r e => row_low ho (r := r) e
  have hF : ∀ k, k < gx + 1 → some k ≠ A.map (·.block) := fun k hk e => by have := low k e.symm; omega
  have e8 := h.bx.grown hg (hF _ (by omega))
  have hs := grown_set w8 gx 1 (.slice A' (n + 1) c')
  have oe := OwnE.more ho hl hc o1 o2 ho8 hg
  refine ⟨e8.frozen 1, e8.c1, rdr_apart (rdr_apart h.rd hg fun r e => by have := low r e; omega) hs (fun r e => by injection e; omega), (h.res.grown hg (hF _ (by omega))).far (by omega) _, e8.set1 _, oe.off hs (by omega), ?_, h1, h2⟩
  exact (h.bel.grown hg h.bel.size (fun r e => by have := low r e; omega)).setCell (by show w.heap.size ≤ gx; omega) _
/-- The result's cell is written. -/
theorem RtAt.fin (h : RtAt R wr w g l b gx a A n c es) (x y : Value) (w9 : World) (h9 : w9 = (wr.setCell ⟨w.heap.size, 0, none⟩ x).setCell ⟨w.heap.size, 1, none⟩ y) : BxAt w9 w.heap.size x y ∧ OwnE w9 (gx + 1) A n c es ∧ Below w.heap.size w w9 := by
  subst h9
  have h1 := h.hw
  have h2 := h.hg
  exact ⟨h.res.all x y, (h.own.off (grown_set wr _ 0 x) (by omega)).off (grown_set _ _ 1 y) (by omega), (h.bel.setCell (Nat.le_refl _) x).setCell (Nat.le_refl _) y⟩
end
theorem evOk_may {e : Ev} (h : mayE e = 0) : EvOk e := by
  have sm := may_smallE h
  have hm : 100 ≤ maxLen := by unfold maxLen; omega
  exact ⟨Nat.le_trans (by have := sm.s; omega) hm, Nat.le_trans (by have := sm.t; omega) hm, fun x hx => Nat.le_trans (by have := sm.tags x hx; omega) hm, fun f hf => Nat.le_trans (by have := sm.names f hf; omega) hm, fun f hf => by have := sm.nums f hf; omega⟩

set_option maxHeartbeats 8000000 in
set_option maxRecDepth 100000 in
theorem refTakeX_any (A0 : Option Addr) (n0 cap0 : Nat) (l : List UInt8) (w : World) (h : Rd w A0 n0 cap0 l) (hl : l.length ≤ 1000000) :
    Calls Try.prog 16 #[.slice A0 n0 cap0] w (TakeXOut l w) := by
  have HL := Go.Lib.hid h.len
  have hn0 : n0 ≤ 1000000 := by rw [← HL.out]; exact hl
  have e1 := BxAt.new w (.int .i64 0) (.slice none 0 0)
  have b1 := batch_bel w (.int .i64 0) (.slice none 0 0)
  have s1 : (w.alloc (.cells #[.int .i64 0, .slice none 0 0] 24)).heap.size = w.heap.size + 1 := by simp
  go_enter Try.func16, Try.ntmps16
  go_upto_region 1 with (fail)
  generalize w.alloc (.cells #[.int .i64 0, .slice none 0 0] 24) = w1 at *
  have h1 := h.below b1
  have S1 := Go.Lib.hid s1
  clear s1
  have bc : Below w1.heap.size w1 (w1.alloc (.cells #[] 5)) := (Below.refl _ _).alloc (Nat.le_refl _) _
  have r9 := h1.below bc
  go_upto_region 2 with (at_builtin; refine wpList_append_fresh rfl (.tmp 12) (.tmp 13) 27 rfl 5 Try.underlying27 u8_info rfl rfl (Own.empty w1 5 (Nat.le_refl _)) r9 (by omega) bc.size w1 bc ?_; intro A9 c9 w9 o9 b9)
  have be : Below w9.heap.size w9 (w9.alloc (.cells #[.slice A9 n0 c9, .bool false] 52)) := (Below.refl _ _).alloc (Nat.le_refl _) _
  have hy : Rdr (w9.alloc (.cells #[.slice A9 n0 c9, .bool false] 52)) 52 w9.heap.size l false := ⟨_, _, _, heap_alloc_new w9 _, o9.rd.below be, fun a h => by subst h; exact (World.ownsRow.lt o9 a.block rfl).2⟩
  have b10 := below_chain b9 be
  have s89 := b9.size
  have s10 : w9.heap.size < (w9.alloc (.cells #[.slice A9 n0 c9, .bool false] 52)).heap.size := by simp
  generalize w9.alloc (.cells #[.slice A9 n0 c9, .bool false] 52) = w10 at *
  generalize w9.heap.size = g at *
  have hwg : w.heap.size < g := by have := S1.out; omega
  have e10 := e1.below b10
  have B10 := below_chain b1 b10
  clear o9 b9 r9 bc be h1 e1 b1 S1 b10 s89
  go_wp2_with fail
  refine (refNum_any g l false w10 hy).mono ?_
  rintro e w11 ⟨rfl, r11, g11⟩
  have e11 := e10.grown g11 (by simp; omega)
  have B11 := B10.grown g11 B10.size (by rintro q ⟨rfl⟩; omega)
  have s11 : g < w11.heap.size := Nat.lt_of_lt_of_le s10 g11.size
  clear hy e10 B10 g11 s10
  have bx := batch_bel w11 (.int .i64 (numV l)) (.slice none 0 0)
  have t12 : RtAt 52 (w11.alloc (.cells #[.int .i64 (numV l), .slice none 0 0] 24)) w g (numL l) (numB l false) w11.heap.size (numV l) none 0 0 [] :=
    ⟨r11.below bx, e11.below bx, BxAt.new w11 _ _, OwnE.nil _ _, below_chain B11 bx, hwg, s11⟩
  clear bx r11 e11 B11
  have hA0 := numV_range l
  go_upto_region 3 with (fail)
  generalize w11.alloc (.cells #[.int .i64 (numV l), .slice none 0 0] 24) = w12 at *
  generalize w11.heap.size = gx at *
  go_wp2_with fail
  refine (refNum_any g (numL l) (numB l false) w12 t12.rd).mono ?_
  rintro e w13 ⟨rfl, r13, g13⟩
  have t13 := t12.read r13 g13
  clear t12 r13 g13
  have hN := numV_range (numL l)
  have HT : Hid (∀ es r, takeEs (min (numV (numL l)) 17).toNat (numL (numL l)) (numB (numL l) (numB l false)) = some (es, r) → takeX l = if mayX ⟨numV l, es⟩ = 0 ∧ encX ⟨numV l, es⟩ = l then some ⟨numV l, es⟩ else none) := Go.Lib.hid fun es r h => by unfold takeX; rw [h]
  have HN : Hid (takeEs (min (numV (numL l)) 17).toNat (numL (numL l)) (numB (numL l) (numB l false)) = none → takeX l = none) := Go.Lib.hid fun h => by unfold takeX; rw [h]
  generalize numV l = a at *
  generalize numV (numL l) = n at *
  generalize hl2 : numL (numL l) = l2 at *
  generalize hb2 : numB (numL l) (numB l false) = b2 at *
  generalize hK : (min n 17).toNat = K at *
  clear hl2 hb2
  go_upto_block 0 with (fail)
  go_cut [7, 8, 9] (fun _ _ _ wx => ∃ (A : Option Addr) (c : Nat) (es : List Ev) (l' : List UInt8) (b' : Bool), Hid (takeEs K l2 b2 = some (es, l')) ∧ RtAt 52 wx w g l' b' gx a A K c es)
  case first =>
    go_wp2_with fail
    go_loopw [7, 8, 9] (fun i _ _ wr => ∃ (j : Nat) (A : Option Addr) (c : Nat) (es : List Ev) (l' : List UInt8) (b' : Bool), j ≤ K ∧ i = .int .i64 j ∧ Hid (takeEs K l2 b2 = (takeEs (K - j) l' b').map fun q => (es ++ q.1, q.2)) ∧ RtAt 52 wr w g l' b' gx a A j c es) (fun i _ _ _ => K - (intOf i).toNat)
    case atStart => exact ⟨0, none, 0, [], l2, b2, Nat.zero_le _, rfl, Go.Lib.hid (by simp), t13⟩
    case round =>
      obtain ⟨j, A, c, es, l', b', hj, rfl, HQ, tr⟩ := hrel
      clear t13
      by_cases hlt : j < K
      · have i1 : (j : Int) < n := by omega
        have i2 : (j : Int) ≤ 16 := by omega
        obtain ⟨k, hk⟩ : ∃ k, K - j = k + 1 := ⟨K - j - 1, by omega⟩
        have hk' : K - (j + 1) = k := by omega
        rw [hk] at HQ
        have HK := Go.Lib.hid hk'
        clear hk hk'
        go_wp2_with fail
        refine (refTake_any g l' b' wr tr.rd).mono ?_
        rintro e w2 ⟨gg, hT⟩
        rcases hT with ⟨ev, l'', htk, v, rfl, hv, r2⟩ | ⟨htk, hno, l'', b'', r2⟩
        · obtain ⟨T, nT, cT, F, nF, cF, rfl, o1, o2⟩ := hv
          have hq : takeEs K l2 b2 = (takeEs (K - (j + 1)) l'' false).map fun q => ((es ++ [ev]) ++ q.1, q.2) := by
            rw [HQ.out, takeEs_go htk, HK.out]
            simp [Option.map_map, Function.comp_def]
          have HQ2 := Go.Lib.hid hq
          have t2 := tr.read r2 gg
          have hgx : gx + 1 ≤ wr.heap.size := tr.bx.lt
          have al : Below w2.heap.size w2 (w2.alloc (.cells #[.string ev.s, .string ev.t, .slice T nT cT, .slice F nF cF] 44)) := (Below.refl _ _).alloc (Nat.le_refl _) _
          have e3 := EvAt.new w2 (.string ev.s) (.string ev.t) (.slice T nT cT) (.slice F nF cF)
          have t3 := t2.below al
          have o1' := own_lower (OwnC.below o1 al) (base' := gx + 1) hgx
          have o2' := own_lower (OwnC.below o2 al) (base' := gx + 1) hgx
          clear tr t2 r2 gg o1 o2 al hq htk HQ
          go_upto_region 8 with (fail)
          generalize w2.alloc (.cells #[.string ev.s, .string ev.t, .slice T nT cT, .slice F nF cF] 44) = w3 at *
          have k0 := e3.c0
          have k1 := e3.c1
          have k2 := e3.c2
          have k3 := e3.c3
          have q1 := t3.bx.c1
          have al4 : Below w3.heap.size w3 (w3.alloc (.cells #[.string ev.s, .string ev.t, .slice T nT cT, .slice F nF cF] 44)) := (Below.refl _ _).alloc (Nat.le_refl _) _
          have t4 := t3.below al4
          obtain ⟨cs, oc, hlen, hc⟩ := t4.own
          have p1 := OwnC.below o1' al4
          have p2 := OwnC.below o2' al4
          have big : gx + 1 ≤ (w3.alloc (.cells #[.string ev.s, .string ev.t, .slice T nT cT, .slice F nF cF] 44)).heap.size := t4.bx.lt
          have d4 : RdC 4 (w3.alloc (.cells #[.string ev.s, .string ev.t, .slice T nT cT, .slice F nF cF] 44)) (some ⟨w3.heap.size, 0, none⟩) 1 1 [.string ev.s, .string ev.t, .slice T nT cT, .slice F nF cF] := RdC.new w3 44 [.string ev.s, .string ev.t, .slice T nT cT, .slice F nF cF] rfl (by decide)
          have one : ∀ v ∈ ([.string ev.s, .string ev.t, .slice T nT cT, .slice F nF cF] : List Value), v.oneCell' = true := by
            intro v hv
            simp only [List.mem_cons, List.not_mem_nil, or_false] at hv
            rcases hv with rfl | rfl | rfl | rfl <;> rfl
          have h63 : j + 1 ≤ maxLen := by unfold maxLen; omega
          have hsz : (j + 1) * 80 ≤ 140737488355328 := by omega
          clear t3 o1' o2' al4 e3
          go_wp2_with (at_builtin; refine wpList_append_cells rfl (.tmp 40) (.tmp 42) 22 rfl 44 (.agg #[.string ⟨#[]⟩, .string ⟨#[]⟩, .slice none 0 0, .slice none 0 0]) 80 Try.underlying22 event_info rfl (by decide) rfl rfl oc d4 one h63 hsz big ?_; intro A8 c8 w8 o8 g8 _; obtain ⟨z8, y8, n8⟩ := t4.more oc hlen hc p1 p2 o8 g8)
          go_roundw
          case rel => exact ⟨j + 1, A8, c8, es ++ [ev], l'', false, by omega, by go_num, HQ2, n8⟩
          case measure => simp [intOf]; omega
        · obtain rfl := hno
          have hnone : takeX l = none := HN.out (by rw [HQ.out, takeEs_none htk]; rfl)
          have HNONE := Go.Lib.hid hnone
          have t2 := tr.read r2 gg
          have al : Below w2.heap.size w2 (w2.alloc (.cells #[.string ⟨#[]⟩, .string ⟨#[]⟩, .slice none 0 0, .slice none 0 0] 44)) := (Below.refl _ _).alloc (Nat.le_refl _) _
          have t3 := t2.below al
          clear tr t2 r2 gg al htk HQ hnone
          go_upto_region 8 with (fail)
          generalize w2.alloc (.cells #[.string ⟨#[]⟩, .string ⟨#[]⟩, .slice none 0 0, .slice none 0 0] 44) = w3 at *
          have q0 := t3.res.c0
          have q1 := t3.res.c1
          have z0 := t3.res.frozen 0
          have z1 := t3.res.frozen 1
          have HFIN := Go.Lib.hid (t3.fin (.int .i64 0) (.slice none 0 0) _ rfl)
          go_wp2_with fail
          obtain ⟨E9, _, B9⟩ := HFIN.out
          generalize ((w3.setCell ⟨w.heap.size, 0, none⟩ (.int .i64 0)).setCell ⟨w.heap.size, 1, none⟩ (.slice none 0 0)) = w9 at *
          have y0 := E9.c0
          have y1 := E9.c1
          exact bodyPost_ret (v := .tuple #[.agg #[.int .i64 0, .slice none 0 0], .int .i64 2]) (by simp [results, Try.results16, go_sem, y0, y1]) rfl ⟨B9, .inr ⟨HNONE.out, rfl⟩⟩
      · obtain rfl : K = j := by omega
        have hq : takeEs K l2 b2 = some (es, l') := by
          rw [HQ.out, Nat.sub_self]
          simp [takeEs]
        have HQQ := Go.Lib.hid hq
        clear hq HQ HT HN
        by_cases hjn : (K : Int) < n
        · have i2 : ¬ (K : Int) ≤ 16 := by omega
          go_wp2_with fail
          go_meet
          exact ⟨A, c, es, l', b', HQQ, tr⟩
        · go_wp2_with fail
          go_meet
          exact ⟨A, c, es, l', b', HQQ, tr⟩
  case rest =>
    obtain ⟨A, c, es, l', b', HQ, tr⟩ := hcut
    clear t13
    have HX := Go.Lib.hid (HT.out es l' HQ.out)
    have hev := (takeEs_canon _ _ _ _ _ HQ.out).2.2.1
    have hbk : BOk ⟨a, es⟩ := ⟨fun e he => evOk_may (hev e he), hA0⟩
    have y0 := tr.bx.c0
    have y1 := tr.bx.c1
    have iv : IsB wc (.agg #[.int .i64 a, .slice A K c]) ⟨a, es⟩ := ⟨_, _, _, rfl, tr.own.rd⟩
    clear hev HQ HT HN
    go_wp2_with fail
    refine (refPutX_any _ ⟨a, es⟩ wc iv hbk).mono ?_
    rintro e w2 ⟨b2', hp⟩
    have t2 := tr.below b2'
    have r2 := h.below t2.bel
    clear y0 y1 iv tr b2'
    rcases hp with ⟨h0, A7, c7, rfl, o7⟩ | ⟨h0, rfl⟩
    · have rc := rd_str o7
      have rb := rd_str r2
      have y0 := t2.bx.c0
      have y1 := t2.bx.c1
      have q0 := t2.res.c0
      have q1 := t2.res.c1
      have z0 := t2.res.frozen 0
      have z1 := t2.res.frozen 1
      by_cases hx : encX ⟨a, es⟩ = l
      · have HY := Go.Lib.hid ((HX.out).trans (if_pos ⟨h0, hx⟩))
        rw [hx] at rc ⊢
        have HFIN := Go.Lib.hid (t2.fin (.int .i64 a) (.slice A K c) _ rfl)
        clear hx HX h0 t2 r2 o7
        go_wp2_with fail
        obtain ⟨E9, O9, B9⟩ := HFIN.out
        generalize ((w2.setCell ⟨w.heap.size, 0, none⟩ (.int .i64 a)).setCell ⟨w.heap.size, 1, none⟩ (.slice A K c)) = w9 at *
        have y0 := E9.c0
        have y1 := E9.c1
        exact bodyPost_ret (v := .tuple #[.agg #[.int .i64 a, .slice A K c], .int .i64 0]) (by simp [results, Try.results16, go_sem, y0, y1]) rfl ⟨B9, .inl ⟨_, _, _, _, HY.out, rfl, O9.rd⟩⟩
      · have HY := Go.Lib.hid ((HX.out).trans (if_neg (fun hc => hx hc.2)))
        have hne := bytes_ne hx
        have HFIN := Go.Lib.hid (t2.fin (.int .i64 0) (.slice none 0 0) _ rfl)
        clear hx HX h0 t2 r2 o7
        generalize encX ⟨a, es⟩ = le at *
        go_wp2_with fail
        obtain ⟨E9, _, B9⟩ := HFIN.out
        generalize ((w2.setCell ⟨w.heap.size, 0, none⟩ (.int .i64 0)).setCell ⟨w.heap.size, 1, none⟩ (.slice none 0 0)) = w9 at *
        have y0 := E9.c0
        have y1 := E9.c1
        exact bodyPost_ret (v := .tuple #[.agg #[.int .i64 0, .slice none 0 0], .int .i64 2]) (by simp [results, Try.results16, go_sem, y0, y1]) rfl ⟨B9, .inr ⟨HY.out, rfl⟩⟩
    · have HY := Go.Lib.hid ((HX.out).trans (if_neg (fun hc => h0 hc.1)))
      have hne : (mayX ⟨a, es⟩ != 0) = true := by rw [bne_iff_ne]; exact h0
      have q0 := t2.res.c0
      have q1 := t2.res.c1
      have z0 := t2.res.frozen 0
      have z1 := t2.res.frozen 1
      have HFIN := Go.Lib.hid (t2.fin (.int .i64 0) (.slice none 0 0) _ rfl)
      clear HX h0 t2 r2
      generalize mayX ⟨a, es⟩ = M at *
      go_wp2_with fail
      obtain ⟨E9, _, B9⟩ := HFIN.out
      generalize ((w2.setCell ⟨w.heap.size, 0, none⟩ (.int .i64 0)).setCell ⟨w.heap.size, 1, none⟩ (.slice none 0 0)) = w9 at *
      have y0 := E9.c0
      have y1 := E9.c1
      exact bodyPost_ret (v := .tuple #[.agg #[.int .i64 0, .slice none 0 0], .int .i64 2]) (by simp [results, Try.results16, go_sem, y0, y1]) rfl ⟨B9, .inr ⟨HY.out, rfl⟩⟩

end Go.Proofs.Ytjoifkmcfenhpaa.BtWalk

/-
  Contracts of layer 5: list, of texts; what it comes to.
-/
namespace Go.Proofs.Ytjoifkmcfenhpaa.EdWalk
open Go.RowKit Go.Proofs.Ytjoifkmcfenhpaa.MemRow Go.Proofs.Ytjoifkmcfenhpaa.Ev Go.Proofs.Ytjoifkmcfenhpaa.NameMath Go.Proofs.Ytjoifkmcfenhpaa.NameWalk Go.Proofs.Ytjoifkmcfenhpaa.EvWalk Go.Proofs.Ytjoifkmcfenhpaa.NumMath Go.Proofs.Ytjoifkmcfenhpaa.NumMem Go.Proofs.Ytjoifkmcfenhpaa.NumWalk Go.Proofs.Ytjoifkmcfenhpaa.EcWalk

/-- A reader that is bad has nothing left. -/
def Dry (l : List UInt8) (b : Bool) : Prop := b = true → l = []
theorem Dry.num {l : List UInt8} {b : Bool} (h : Dry l b) : Dry (numL l) (numB l b) := by
  intro hb
  unfold numB at hb
  unfold numL
  split at hb
  · next h0 => rw [if_pos h0]
  · next h0 =>
    obtain rfl := h hb
    exact absurd rfl h0
theorem Dry.text {l : List UInt8} {b : Bool} (h : Dry l b) : Dry (textL l) (textB l b) := by
  intro hb
  unfold textB at hb
  unfold textL
  split at hb
  · next h0 =>
    rw [if_pos h0, h.num hb]
    simp
  · next h0 => rw [if_neg h0]
/-- A number was read: the reader is good. -/
theorem Dry.good {l : List UInt8} {b : Bool} (h : Dry l b) (hn : 0 < numV l) : numB l b = false := by
  cases hb : numB l b with
  | false => rfl
  | true =>
    exfalso
    unfold numB at hb
    split at hb
    · next h0 =>
      unfold numV at hn
      rw [if_pos h0] at hn
      omega
    · next h0 =>
      obtain rfl := h hb
      exact h0 rfl

theorem own_off {k : Nat} {w w' : World} {base : Nat} {t : TypeId} {A : Option Addr} {n cap : Nat} {cs : List Value} {g : Nat} (h : OwnC k w base t A n cap cs) (hg : w.grownBy w' (some g)) (hb : g < base) : OwnC k w' base t A n cap cs :=
  OwnC.grown h hg fun a hA e => by
    have := (OwnC.lt h a hA).1
    injection e with e
    omega

/-- What a list of texts comes to. -/
def ListS (n : Int) (K : Nat) (l0 : List UInt8) (b0 : Bool) (g : Nat) (w : World) (e : Ending) (w' : World) : Prop :=
  w.grownBy w' (some g) ∧ ∃ (ts : List ByteArray) (l' : List UInt8) (b' : Bool) (A : Option Addr) (m cap : Nat) (us : List ByteArray) (ok : Bool), Hid (takeTags K l0 b0 = (ts, l', b')) ∧ Hid (ok = (decide (0 ≤ n) && !b')) ∧ e = .returned (.tuple #[.slice A m cap, .bool ok]) ∧ Rdr w' 69 g l' b' ∧ OwnC 1 w' w.heap.size 9 A m cap (MemRow.strs us) ∧ Hid (b' = false → us = ts.take 7) ∧ Hid (∀ x ∈ us, x.size ≤ maxLen)

set_option maxHeartbeats 4000000 in
set_option maxRecDepth 100000 in
theorem listS_any (g : Nat) (l : List UInt8) (b : Bool) (w : World) (h : Rdr w 69 g l b) (hd : Dry l b) :
    Calls Try.prog 85 #[.pointer (some ⟨g, 0, none⟩), .int .i64 6, .func (.func 84) #[.pointer (some ⟨g, 0, none⟩)] #[]] w fun e w' => ListS (numV l) (numV l).toNat (numL l) (numB l b) g w e w' := by
  have gw := h.lt
  have hgood := hd.good
  have hrange := numV_range l
  generalize hn : numV l = n at *
  generalize hl0 : numL l = l0 at *
  generalize hb0 : numB l b = b0 at *
  obtain ⟨K, hK⟩ : ∃ K, K = n.toNat := ⟨_, rfl⟩
  rw [← hK]
  have HK := Go.Lib.hid hK
  have HN := Go.Lib.hid hn
  have HL0 := Go.Lib.hid hl0
  have HB0 := Go.Lib.hid hb0
  clear hK hn hl0 hb0
  go_enter Try.func85, Try.ntmps85
  go_wp2_with fail
  refine (num_any g l b w h).mono ?_
  rintro e w1 ⟨rfl, r1, g1⟩
  clear h
  rw [HN.out]
  rw [HL0.out, HB0.out] at r1
  go_wp2_with fail
  go_loopw [8, 10, 14] (fun lv _ i wr => ∃ (j : Nat) (A : Option Addr) (m cap : Nat) (ts : List ByteArray) (l' : List UInt8), j ≤ K ∧ i = .int .i64 j ∧ lv = .slice A m cap ∧ Hid (takeTags K l0 b0 = (ts ++ (takeTags (K - j) l' b0).1, (takeTags (K - j) l' b0).2) ∧ ts.length = j) ∧ Hid (m = min j 7) ∧ OwnC 1 wr w.heap.size 9 A m cap (MemRow.strs (ts.take 7)) ∧ Rdr wr 69 g l' b0 ∧ w.grownBy wr (some g) ∧ Hid (∀ x ∈ ts, x.size ≤ maxLen)) (fun _ _ i _ => K - (intOf i).toNat)
  case atStart => exact ⟨0, none, 0, 0, [], l0, Nat.zero_le _, rfl, rfl, Go.Lib.hid (by simp), Go.Lib.hid rfl, OwnC.nil _ _, r1, g1, Go.Lib.hid (by simp)⟩
  case round =>
    obtain ⟨j, A, m, cap, ts, l', hj, rfl, rfl, HQ, HM, ow, rd, gr, HSZ⟩ := hrel
    clear r1 g1
    by_cases hlt : (j : Int) < n
    · obtain rfl : b0 = false := hgood (by omega)
      go_wp2_with fail
      refine (text_any g l' false wr rd).mono ?_
      rintro e v1 ⟨rfl, hr, hg⟩
      have ow1 := own_off ow hg gw
      have gr1 := gr_step' gr hg
      have HT := Go.Lib.hid (tx_small rd)
      have hjK : j + 1 ≤ K := by have := HK.out; omega
      have hKj : K - j = K - (j + 1) + 1 := by omega
      have HKJ := Go.Lib.hid hKj
      have hgo : takeTags K l0 false = ((ts ++ [tx l']) ++ (takeTags (K - (j + 1)) (textL l') (textB l' false)).1, (takeTags (K - (j + 1)) (textL l') (textB l' false)).2) := by
        rw [HQ.out.1, HKJ.out, takeTags_go]
        simp
      have HGO := Go.Lib.hid hgo
      have hlen := HQ.out.2
      have HLEN := Go.Lib.hid hlen
      clear ow rd gr hg hKj hgo hlen
      cases hb1 : textB l' false with
      | true =>
        rw [hb1] at hr
        have hn0 : 0 ≤ n := by omega
        have hst : takeTags K l0 false = (ts ++ [tx l'], textL l', true) := by
          rw [HGO.out, hb1, takeTags_stop (.inr rfl)]
          simp
        have HST := Go.Lib.hid hst
        have hsz : ∀ x ∈ ts.take 7, x.size ≤ maxLen := fun x hx => HSZ.out x (List.mem_of_mem_take hx)
        have HZ := Go.Lib.hid hsz
        clear hb1 hst hsz HGO HQ
        go_wp2_with fail
        refine (bad_any g _ _ v1 hr).mono ?_
        rintro e w' ⟨rfl, rfl⟩
        go_wp2_with fail
        refine (bad_any g _ _ v1 hr).mono ?_
        rintro e w' ⟨rfl, rfl⟩
        go_wp2_with fail
        go_ret2
        exact ⟨gr1, ts ++ [tx l'], textL l', true, A, m, cap, ts.take 7, _, HST, Go.Lib.hid (by simp), rfl, hr, ow1, Go.Lib.hid (fun h => by cases h), HZ⟩
      | false =>
        rw [hb1] at hr HGO
        clear hb1 HQ
        have hsz2 : ∀ x ∈ ts ++ [tx l'], x.size ≤ maxLen := by
          intro x hx
          rcases List.mem_append.1 hx with hx | hx
          · exact HSZ.out x hx
          · rw [List.mem_singleton.1 hx]
            exact HT.out
        have HSZ2 := Go.Lib.hid hsz2
        clear hsz2
        go_wp2_with fail
        refine (bad_any g _ _ v1 hr).mono ?_
        rintro e w' ⟨rfl, rfl⟩
        by_cases h6 : j ≤ 6
        · obtain rfl : m = j := by have := HM.out; omega
          have i1 : (m : Int) ≤ 6 := by omega
          have htk : ts.take 7 = ts := List.take_of_length_le (by rw [HLEN.out]; omega)
          have htk2 : (ts ++ [tx l']).take 7 = ts ++ [tx l'] := List.take_of_length_le (by rw [List.length_append, HLEN.out]; simp; omega)
          rw [htk] at ow1
          have HTK2 := Go.Lib.hid htk2
          have al : Below v1.heap.size v1 (v1.alloc (.cells #[.string ⟨(textV l').toArray⟩] 9)) := (Below.refl _ _).alloc (Nat.le_refl _) _
          have d1 : RdC 1 (v1.alloc (.cells #[.string ⟨(textV l').toArray⟩] 9)) (some ⟨v1.heap.size, 0, none⟩) 1 1 (MemRow.strs [tx l']) := RdC.new v1 9 (MemRow.strs [tx l']) rfl (by decide)
          have ow2 := OwnC.below ow1 al
          have big : w.heap.size ≤ (v1.alloc (.cells #[.string ⟨(textV l').toArray⟩] 9)).heap.size := Nat.le_trans gr1.size al.size
          have h63 : m + 1 ≤ maxLen := by unfold maxLen; omega
          have hsz : (m + 1) * 16 ≤ 140737488355328 := by omega
          have rd2 := hr.below al
          clear htk htk2
          go_wp2_with (at_builtin; refine wpList_append_cells rfl (.tmp 24) (.tmp 26) 41 rfl 9 (.string ByteArray.empty) 16 Try.underlying41 string_info rfl (by decide) rfl rfl ow2 d1 (strs_one [tx l']) h63 hsz big ?_; intro T8 c8 w8 o8 g8 _)
          go_roundw
          case rel =>
            have low := fun r e => row_low ow2 (r := r) e
            refine ⟨m + 1, T8, m + 1, c8, ts ++ [tx l'], textL l', by omega, by go_num, rfl, Go.Lib.hid ⟨HGO.out, by rw [List.length_append, HLEN.out]; rfl⟩, Go.Lib.hid (by omega), ?_, rdr_apart rd2 g8 (fun r e => by have := low r e; omega), gr_step (gr_step gr1 (row := none) ⟨al.os, al.tape, al.output, al.size, fun k hk _ => al.block k hk⟩ (fun r e => by cases e)) g8 (fun r e => low r e), HSZ2⟩
            rw [HTK2.out, strs_append]
            exact o8
          case measure => simp [intOf]; omega
        · obtain rfl : m = 7 := by have := HM.out; omega
          have i1 : ¬ (7 : Int) ≤ 6 := by omega
          have htk : (ts ++ [tx l']).take 7 = ts.take 7 := List.take_append_of_le_length (by rw [HLEN.out]; omega)
          have HTK := Go.Lib.hid htk
          clear htk
          go_wp2_with fail
          go_roundw
          case rel =>
            refine ⟨j + 1, A, 7, cap, ts ++ [tx l'], textL l', by omega, by go_num, rfl, Go.Lib.hid ⟨HGO.out, by rw [List.length_append, HLEN.out]; rfl⟩, Go.Lib.hid (by omega), ?_, hr, gr1, HSZ2⟩
            rw [HTK.out]
            exact ow1
          case measure => simp [intOf]; omega
    · have hst : takeTags K l0 b0 = (ts, l', b0) := by
        have hKj : K - j = 0 := by have := HK.out; omega
        rw [HQ.out.1, hKj, takeTags_stop (.inl rfl)]
        simp
      have HST := Go.Lib.hid hst
      have hsz : ∀ x ∈ ts.take 7, x.size ≤ maxLen := fun x hx => HSZ.out x (List.mem_of_mem_take hx)
      have HZ := Go.Lib.hid hsz
      clear hst hsz HQ
      by_cases hn0 : 0 ≤ n
      · go_wp2_with fail
        refine (bad_any g _ _ wr rd).mono ?_
        rintro e w' ⟨rfl, rfl⟩
        go_wp2_with fail
        go_ret2
        exact ⟨gr, ts, l', b0, A, m, cap, ts.take 7, _, HST, Go.Lib.hid (by rw [decide_eq_true (by omega)]; rfl), rfl, rd, ow, Go.Lib.hid (fun _ => rfl), HZ⟩
      · go_wp2_with fail
        go_ret2
        exact ⟨gr, ts, l', b0, A, m, cap, ts.take 7, _, HST, Go.Lib.hid (by rw [decide_eq_false (by omega)]; rfl), rfl, rd, ow, Go.Lib.hid (fun _ => rfl), HZ⟩

end Go.Proofs.Ytjoifkmcfenhpaa.EdWalk

/-
  Contracts of layer 5: what a field is taken by; list, of numbers with a name.
-/
namespace Go.Proofs.Ytjoifkmcfenhpaa.EdWalk
open Go.RowKit Go.Proofs.Ytjoifkmcfenhpaa.MemRow Go.Proofs.Ytjoifkmcfenhpaa.Ev Go.Proofs.Ytjoifkmcfenhpaa.NameMath Go.Proofs.Ytjoifkmcfenhpaa.NameWalk Go.Proofs.Ytjoifkmcfenhpaa.EvWalk Go.Proofs.Ytjoifkmcfenhpaa.NumMath Go.Proofs.Ytjoifkmcfenhpaa.NumMem Go.Proofs.Ytjoifkmcfenhpaa.NumWalk Go.Proofs.Ytjoifkmcfenhpaa.EcWalk

set_option maxHeartbeats 4000000 in
set_option maxRecDepth 100000 in
theorem item_any (bx g : Nat) (l : List UInt8) (b : Bool) (w : World) (hc : w.cell? ⟨bx, 0, none⟩ = some (.pointer (some ⟨g, 0, none⟩))) (h : Rdr w 69 g l b) (hne : bx ≠ g) :
    Calls Try.prog 87 #[.pointer (some ⟨bx, 0, none⟩)] w fun e w' => e = .returned (.agg #[.string (tx l), .int .i64 (numV (textL l))]) ∧ Rdr w' 69 g (numL (textL l)) (numB (textL l) (textB l b)) ∧ w.grownBy w' (some g) := by
  have gw := h.lt
  have al : Below w.heap.size w (w.alloc (.cells #[.string ⟨#[]⟩, .int .i64 0] 64)) := (Below.refl _ _).alloc (Nat.le_refl _) _
  have f1 : FldAt (w.alloc (.cells #[.string ⟨#[]⟩, .int .i64 0] 64)) w.heap.size (⟨#[]⟩, 0) := heap_alloc_new w _
  have c1 := bcell al hc
  have r1 := h.below al
  have g1 : w.grownBy (w.alloc (.cells #[.string ⟨#[]⟩, .int .i64 0] 64)) (some g) := ⟨al.os, al.tape, al.output, al.size, fun k hk _ => al.block k hk⟩
  clear h al
  go_enter Try.func87, Try.ntmps87
  go_upto_region 1 with (fail)
  generalize w.alloc (.cells #[.string ⟨#[]⟩, .int .i64 0] 64) = w1 at *
  go_wp2_with fail
  refine (text_any g l b w1 r1).mono ?_
  rintro e w2 ⟨rfl, r2, gg⟩
  have c2 : w2.cell? ⟨bx, 0, none⟩ = _ := gg.cell c1 (by simpa using hne)
  have g2 := gr_step' g1 gg
  have f2 : FldAt w2 w.heap.size (⟨#[]⟩, 0) := (gg.block _ f1.lt (by simp; omega)).trans f1
  clear r1 gg c1 g1 f1
  go_wp2_with fail
  refine (num_any g _ _ w2 r2).mono ?_
  rintro e w3 ⟨rfl, r3, gg⟩
  have g3 := gr_step' g2 gg
  have f3 : FldAt w3 w.heap.size (⟨#[]⟩, 0) := (gg.block _ f2.lt (by simp; omega)).trans f2
  have k0 := f3.c0
  have k1 := f3.c1
  have z0 := f3.frozen 0
  have z1 := f3.frozen 1
  have f4 := f3.set (tx l) (numV (textL l))
  have s0 := grown_set w3 w.heap.size 0 (.string (tx l))
  have s1 := grown_set (w3.setCell ⟨w.heap.size, 0, none⟩ (.string (tx l))) w.heap.size 1 (.int .i64 (numV (textL l)))
  have r4 := rdr_apart (rdr_apart r3 s0 (fun r e => by injection e; omega)) s1 (fun r e => by injection e; omega)
  have g4 := gr_step (gr_step g3 s0 (fun r e => by injection e; omega)) s1 (fun r e => by injection e; omega)
  have R4 := Go.Lib.hid r4
  have G4 := Go.Lib.hid g4
  have F4 := Go.Lib.hid f4
  clear r2 gg g2 f2 r3 g3 f3 f4 s0 s1 r4 g4 c2
  go_wp2_with fail
  have hset : (w3.setCell ⟨w.heap.size, 0, none⟩ (.string ⟨(textV l).toArray⟩)).setCell ⟨w.heap.size, 1, none⟩ (.int .i64 (numV (textL l))) = (w3.setCell ⟨w.heap.size, 0, none⟩ (.string (tx l))).setCell ⟨w.heap.size, 1, none⟩ (.int .i64 (numV (textL l))) := rfl
  rw [hset]
  have f5 := F4.out
  have r5 := R4.out
  have g5 := G4.out
  clear F4 R4 G4 hset k0 k1 z0 z1
  generalize (w3.setCell ⟨w.heap.size, 0, none⟩ (.string (tx l))).setCell ⟨w.heap.size, 1, none⟩ (.int .i64 (numV (textL l))) = w4 at *
  have q0 := f5.c0
  have q1 := f5.c1
  exact bodyPost_ret (v := .agg #[.string (tx l), .int .i64 (numV (textL l))]) (by simp [results, Try.results87, go_sem, q0, q1]) rfl ⟨rfl, r5, g5⟩

/-- What a list of numbers with a name comes to. -/
def ListF (n : Int) (K : Nat) (l0 : List UInt8) (b0 : Bool) (g : Nat) (w : World) (e : Ending) (w' : World) : Prop :=
  w.grownBy w' (some g) ∧ ∃ (ts : List (ByteArray × Int)) (l' : List UInt8) (b' : Bool) (A : Option Addr) (m cap : Nat) (us : List (ByteArray × Int)) (ok : Bool), Hid (takeFlds K l0 b0 = (ts, l', b')) ∧ Hid (ok = (decide (0 ≤ n) && !b')) ∧ e = .returned (.tuple #[.slice A m cap, .bool ok]) ∧ Rdr w' 69 g l' b' ∧ OwnC 2 w' w.heap.size 64 A m cap (flds us) ∧ Hid (b' = false → us = ts.take 5) ∧ Hid (∀ x ∈ us, x.1.size ≤ maxLen ∧ -9223372036854775808 ≤ x.2 ∧ x.2 ≤ 9223372036854775807)

set_option maxHeartbeats 4000000 in
set_option maxRecDepth 100000 in
theorem listF_any (g : Nat) (l : List UInt8) (b : Bool) (w : World) (h : Rdr w 69 g l b) (hd : Dry l b) (bx : Nat) (hc : w.cell? ⟨bx, 0, none⟩ = some (.pointer (some ⟨g, 0, none⟩))) (hne : bx ≠ g) :
    Calls Try.prog 86 #[.pointer (some ⟨g, 0, none⟩), .int .i64 4, .func (.func 87) #[] #[.pointer (some ⟨bx, 0, none⟩)]] w fun e w' => ListF (numV l) (numV l).toNat (numL l) (numB l b) g w e w' := by
  have gw := h.lt
  have hgood := hd.good
  have hrange := numV_range l
  generalize hn : numV l = n at *
  generalize hl0 : numL l = l0 at *
  generalize hb0 : numB l b = b0 at *
  obtain ⟨K, hK⟩ : ∃ K, K = n.toNat := ⟨_, rfl⟩
  rw [← hK]
  have HK := Go.Lib.hid hK
  have HN := Go.Lib.hid hn
  have HL0 := Go.Lib.hid hl0
  have HB0 := Go.Lib.hid hb0
  clear hK hn hl0 hb0
  go_enter Try.func86, Try.ntmps86
  go_wp2_with fail
  refine (num_any g l b w h).mono ?_
  rintro e w1 ⟨rfl, r1, g1⟩
  clear h
  rw [HN.out]
  rw [HL0.out, HB0.out] at r1
  go_wp2_with fail
  go_loopw [8, 10, 14] (fun lv _ i wr => ∃ (j : Nat) (A : Option Addr) (m cap : Nat) (ts : List (ByteArray × Int)) (l' : List UInt8), j ≤ K ∧ i = .int .i64 j ∧ lv = .slice A m cap ∧ Hid (takeFlds K l0 b0 = (ts ++ (takeFlds (K - j) l' b0).1, (takeFlds (K - j) l' b0).2) ∧ ts.length = j) ∧ Hid (m = min j 5) ∧ OwnC 2 wr w.heap.size 64 A m cap (flds (ts.take 5)) ∧ Rdr wr 69 g l' b0 ∧ w.grownBy wr (some g) ∧ Hid (∀ x ∈ ts, x.1.size ≤ maxLen ∧ -9223372036854775808 ≤ x.2 ∧ x.2 ≤ 9223372036854775807)) (fun _ _ i _ => K - (intOf i).toNat)
  case atStart => exact ⟨0, none, 0, 0, [], l0, Nat.zero_le _, rfl, rfl, Go.Lib.hid (by simp), Go.Lib.hid rfl, OwnC.nil _ _, r1, g1, Go.Lib.hid (by simp)⟩
  case round =>
    obtain ⟨j, A, m, cap, ts, l', hj, rfl, rfl, HQ, HM, ow, rd, gr, HSZ⟩ := hrel
    clear r1 g1
    by_cases hlt : (j : Int) < n
    · obtain rfl : b0 = false := hgood (by omega)
      go_wp2_with fail
      refine (item_any bx g l' false wr (gr.cell hc (by simpa using hne)) rd hne).mono ?_
      rintro e v0 ⟨rfl, hr0, hg⟩
      have ow0 := own_off ow hg gw
      have gr0 := gr_step' gr hg
      have HT := Go.Lib.hid (tx_small rd)
      have HNV := Go.Lib.hid (numV_range (textL l'))
      go_upto_region 6 with (fail)
      have a1 : Below v0.heap.size v0 (v0.alloc (.cells #[.string (tx l'), .int .i64 (numV (textL l'))] 64)) := (Below.refl _ _).alloc (Nat.le_refl _) _
      have f1 : FldAt (v0.alloc (.cells #[.string (tx l'), .int .i64 (numV (textL l'))] 64)) v0.heap.size (tx l', numV (textL l')) := heap_alloc_new v0 _
      have hr := hr0.below a1
      have ow1 := OwnC.below ow0 a1
      have gr1 := gr_step gr0 (row := none) ⟨a1.os, a1.tape, a1.output, a1.size, fun k hk _ => a1.block k hk⟩ (fun r e => by cases e)
      generalize v0.alloc (.cells #[.string (tx l'), .int .i64 (numV (textL l'))] 64) = v1 at *
      have q0 := f1.c0
      have q1 := f1.c1
      simp only at q0 q1
      have hjK : j + 1 ≤ K := by have := HK.out; omega
      have hKj : K - j = K - (j + 1) + 1 := by omega
      have HKJ := Go.Lib.hid hKj
      have hgo : takeFlds K l0 false = ((ts ++ [(tx l', numV (textL l'))]) ++ (takeFlds (K - (j + 1)) (numL (textL l')) (numB (textL l') (textB l' false))).1, (takeFlds (K - (j + 1)) (numL (textL l')) (numB (textL l') (textB l' false))).2) := by
        rw [HQ.out.1, HKJ.out, takeFlds_go]
        simp
      have HGO := Go.Lib.hid hgo
      have hlen := HQ.out.2
      have HLEN := Go.Lib.hid hlen
      clear ow rd gr hg hKj hgo hlen ow0 gr0 a1 f1 hr0
      cases hb1 : numB (textL l') (textB l' false) with
      | true =>
        rw [hb1] at hr
        have hn0 : 0 ≤ n := by omega
        have hst : takeFlds K l0 false = (ts ++ [(tx l', numV (textL l'))], numL (textL l'), true) := by
          rw [HGO.out, hb1, takeFlds_stop (.inr rfl)]
          simp
        have HST := Go.Lib.hid hst
        have hsz : ∀ x ∈ ts.take 5, x.1.size ≤ maxLen ∧ -9223372036854775808 ≤ x.2 ∧ x.2 ≤ 9223372036854775807 := fun x hx => HSZ.out x (List.mem_of_mem_take hx)
        have HZ := Go.Lib.hid hsz
        clear hb1 hst hsz HGO HQ
        go_wp2_with fail
        refine (bad_any g _ _ v1 hr).mono ?_
        rintro e w' ⟨rfl, rfl⟩
        go_wp2_with fail
        refine (bad_any g _ _ v1 hr).mono ?_
        rintro e w' ⟨rfl, rfl⟩
        go_wp2_with fail
        go_ret2
        exact ⟨gr1, ts ++ [(tx l', numV (textL l'))], numL (textL l'), true, A, m, cap, ts.take 5, _, HST, Go.Lib.hid (by simp), rfl, hr, ow1, Go.Lib.hid (fun h => by cases h), HZ⟩
      | false =>
        rw [hb1] at hr HGO
        clear hb1 HQ
        have hsz2 : ∀ x ∈ ts ++ [(tx l', numV (textL l'))], x.1.size ≤ maxLen ∧ -9223372036854775808 ≤ x.2 ∧ x.2 ≤ 9223372036854775807 := by
          intro x hx
          rcases List.mem_append.1 hx with hx | hx
          · exact HSZ.out x hx
          · rw [List.mem_singleton.1 hx]
            exact ⟨HT.out, HNV.out⟩
        have HSZ2 := Go.Lib.hid hsz2
        clear hsz2
        go_wp2_with fail
        refine (bad_any g _ _ v1 hr).mono ?_
        rintro e w' ⟨rfl, rfl⟩
        by_cases h6 : j ≤ 4
        · obtain rfl : m = j := by have := HM.out; omega
          have i1 : (m : Int) ≤ 4 := by omega
          have htk : ts.take 5 = ts := List.take_of_length_le (by rw [HLEN.out]; omega)
          have htk2 : (ts ++ [(tx l', numV (textL l'))]).take 5 = ts ++ [(tx l', numV (textL l'))] := List.take_of_length_le (by rw [List.length_append, HLEN.out]; simp; omega)
          rw [htk] at ow1
          have HTK2 := Go.Lib.hid htk2
          have al : Below v1.heap.size v1 (v1.alloc (.cells #[.string (tx l'), .int .i64 (numV (textL l'))] 64)) := (Below.refl _ _).alloc (Nat.le_refl _) _
          have d1 : RdC 2 (v1.alloc (.cells #[.string (tx l'), .int .i64 (numV (textL l'))] 64)) (some ⟨v1.heap.size, 0, none⟩) 1 1 (flds [(tx l', numV (textL l'))]) := RdC.new v1 64 (flds [(tx l', numV (textL l'))]) rfl (by decide)
          have ow2 := OwnC.below ow1 al
          have big : w.heap.size ≤ (v1.alloc (.cells #[.string (tx l'), .int .i64 (numV (textL l'))] 64)).heap.size := Nat.le_trans gr1.size al.size
          have h63 : m + 1 ≤ maxLen := by unfold maxLen; omega
          have hsz : (m + 1) * 24 ≤ 140737488355328 := by omega
          have rd2 := hr.below al
          clear htk htk2
          go_wp2_with (at_builtin; refine wpList_append_cells rfl (.tmp 24) (.tmp 26) 42 rfl 64 (.agg #[.string ⟨#[]⟩, .int .i64 0]) 24 Try.underlying42 field_info rfl (by decide) rfl rfl ow2 d1 (flds_one [(tx l', numV (textL l'))]) h63 hsz big ?_; intro T8 c8 w8 o8 g8 _)
          go_roundw
          case rel =>
            have low := fun r e => row_low ow2 (r := r) e
            refine ⟨m + 1, T8, m + 1, c8, ts ++ [(tx l', numV (textL l'))], numL (textL l'), by omega, by go_num, rfl, Go.Lib.hid ⟨HGO.out, by rw [List.length_append, HLEN.out]; rfl⟩, Go.Lib.hid (by omega), ?_, rdr_apart rd2 g8 (fun r e => by have := low r e; omega), gr_step (gr_step gr1 (row := none) ⟨al.os, al.tape, al.output, al.size, fun k hk _ => al.block k hk⟩ (fun r e => by cases e)) g8 (fun r e => low r e), HSZ2⟩
            rw [HTK2.out, flds_append]
            exact o8
          case measure => simp [intOf]; omega
        · obtain rfl : m = 5 := by have := HM.out; omega
          have i1 : ¬ (5 : Int) ≤ 4 := by omega
          have htk : (ts ++ [(tx l', numV (textL l'))]).take 5 = ts.take 5 := List.take_append_of_le_length (by rw [HLEN.out]; omega)
          have HTK := Go.Lib.hid htk
          clear htk
          go_wp2_with fail
          go_roundw
          case rel =>
            refine ⟨j + 1, A, 5, cap, ts ++ [(tx l', numV (textL l'))], numL (textL l'), by omega, by go_num, rfl, Go.Lib.hid ⟨HGO.out, by rw [List.length_append, HLEN.out]; rfl⟩, Go.Lib.hid (by omega), ?_, hr, gr1, HSZ2⟩
            rw [HTK.out]
            exact ow1
          case measure => simp [intOf]; omega
    · have hst : takeFlds K l0 b0 = (ts, l', b0) := by
        have hKj : K - j = 0 := by have := HK.out; omega
        rw [HQ.out.1, hKj, takeFlds_stop (.inl rfl)]
        simp
      have HST := Go.Lib.hid hst
      have hsz : ∀ x ∈ ts.take 5, x.1.size ≤ maxLen ∧ -9223372036854775808 ≤ x.2 ∧ x.2 ≤ 9223372036854775807 := fun x hx => HSZ.out x (List.mem_of_mem_take hx)
      have HZ := Go.Lib.hid hsz
      clear hst hsz HQ
      by_cases hn0 : 0 ≤ n
      · go_wp2_with fail
        refine (bad_any g _ _ wr rd).mono ?_
        rintro e w' ⟨rfl, rfl⟩
        go_wp2_with fail
        go_ret2
        exact ⟨gr, ts, l', b0, A, m, cap, ts.take 5, _, HST, Go.Lib.hid (by rw [decide_eq_true (by omega)]; rfl), rfl, rd, ow, Go.Lib.hid (fun _ => rfl), HZ⟩
      · go_wp2_with fail
        go_ret2
        exact ⟨gr, ts, l', b0, A, m, cap, ts.take 5, _, HST, Go.Lib.hid (by rw [decide_eq_false (by omega)]; rfl), rfl, rd, ow, Go.Lib.hid (fun _ => rfl), HZ⟩

end Go.Proofs.Ytjoifkmcfenhpaa.EdWalk

/-
  Mathematics of layer 5: what decode takes, against what the document's answer takes.
-/
namespace Go.Proofs.Ytjoifkmcfenhpaa.EdWalk
open Go.RowKit Go.Proofs.Ytjoifkmcfenhpaa.MemRow Go.Proofs.Ytjoifkmcfenhpaa.Ev Go.Proofs.Ytjoifkmcfenhpaa.NameMath Go.Proofs.Ytjoifkmcfenhpaa.NameWalk Go.Proofs.Ytjoifkmcfenhpaa.EvWalk Go.Proofs.Ytjoifkmcfenhpaa.NumMath Go.Proofs.Ytjoifkmcfenhpaa.NumMem Go.Proofs.Ytjoifkmcfenhpaa.NumWalk Go.Proofs.Ytjoifkmcfenhpaa.EcWalk

/-- What decode takes: of more tags than may be one too many. -/
def decC (l : List UInt8) : Option (Ev × List UInt8) :=
  let l2 := textL (textL l)
  let tg := takeTags (numV l2).toNat (numL l2) (numB l2 (textB (textL l) (textB l false)))
  let l4 := tg.2.1
  let fl := takeFlds (numV l4).toNat (numL l4) (numB l4 tg.2.2)
  if numV l2 < 0 ∨ tg.2.2 = true then none
  else if numV l4 < 0 ∨ fl.2.2 = true then none
  else some (⟨tx l, tx (textL l), tg.1.take 7, fl.1.take 5⟩, fl.2.1)

theorem takeTags_len : ∀ (k : Nat) (l : List UInt8) (b : Bool), (takeTags k l b).2.2 = false → (takeTags k l b).1.length = k
  | 0, l, b, _ => rfl
  | k + 1, l, b, h => by
    unfold takeTags at h ⊢
    split
    · next hb => rw [if_pos hb] at h; rw [hb] at h; cases h
    · next hb =>
      rw [if_neg hb] at h
      simp only [List.length_cons]
      rw [takeTags_len k _ _ h]
theorem takeFlds_len : ∀ (k : Nat) (l : List UInt8) (b : Bool), (takeFlds k l b).2.2 = false → (takeFlds k l b).1.length = k
  | 0, l, b, _ => rfl
  | k + 1, l, b, h => by
    unfold takeFlds at h ⊢
    split
    · next hb => rw [if_pos hb] at h; rw [hb] at h; cases h
    · next hb =>
      rw [if_neg hb] at h
      simp only [List.length_cons]
      rw [takeFlds_len k _ _ h]
theorem numB_true (l : List UInt8) : numB l true = true := by unfold numB; split <;> rfl

/-- Of what decode takes the document's answer is what may be. -/
theorem takeE_decC (l : List UInt8) : takeE l false = (decC l).bind fun p => if mayE p.1 = 0 then some p else none := by
  unfold takeE decC
  simp only
  generalize hl2 : textL (textL l) = l2
  generalize numB l2 (textB (textL l) (textB l false)) = b3
  by_cases hn0 : numV l2 < 0
  · rw [if_pos (.inl hn0), if_pos (.inl hn0)]
    rfl
  by_cases hn6 : 6 < numV l2
  · rw [if_pos (.inr hn6)]
    cases hb : (takeTags (numV l2).toNat (numL l2) b3).2.2 with
    | true => rw [if_pos (.inr rfl)]; rfl
    | false =>
      have hlen := takeTags_len _ _ _ hb
      have c1 : ¬ (numV l2 < 0 ∨ false = true) := by rintro (h | h); exact hn0 h; cases h
      rw [if_neg c1]
      split
      · rfl
      · simp only [Option.bind_some]
        rw [if_neg]
        intro hm
        have := (may_smallE hm).nt
        simp only [List.length_take] at this
        omega
  · rw [if_neg (by omega)]
    have hk : (min (numV l2) 7).toNat = (numV l2).toNat := by omega
    rw [hk]
    have hle : (numV l2).toNat ≤ 6 := by omega
    generalize (numV l2).toNat = K at *
    cases hb : (takeTags K (numL l2) b3).2.2 with
    | true =>
      have c1 : numV l2 < 0 ∨ true = true := .inr rfl
      rw [if_pos c1, numB_true, takeFlds_stop (.inr rfl)]
      have c2 : ∀ P : Prop, numV (takeTags K (numL l2) b3).2.1 < 0 ∨ true = true ∨ P := fun P => .inr (.inl rfl)
      rw [if_pos (c2 _)]
      rfl
    | false =>
      have hlen := takeTags_len _ _ _ hb
      have c1 : ¬ (numV l2 < 0 ∨ false = true) := by rintro (h | h); exact hn0 h; cases h
      rw [if_neg c1, List.take_of_length_le (by omega)]
      generalize (takeTags K (numL l2) b3).1 = ts
      generalize (takeTags K (numL l2) b3).2.1 = l4
      by_cases hm0 : numV l4 < 0
      · have c1 : ∀ P : Prop, numV l4 < 0 ∨ P := fun P => .inl hm0
        rw [if_pos (c1 _), if_pos (c1 _)]
        rfl
      by_cases hm4 : 4 < numV l4
      · have hk5 : (min (numV l4) 5).toNat = 5 := by omega
        rw [hk5]
        have h1 : (if numV l4 < 0 ∨ (takeFlds 5 (numL l4) (numB l4 false)).2.2 = true ∨ mayE ⟨tx l, tx (textL l), ts, (takeFlds 5 (numL l4) (numB l4 false)).1⟩ ≠ 0 then none else some (⟨tx l, tx (textL l), ts, (takeFlds 5 (numL l4) (numB l4 false)).1⟩, (takeFlds 5 (numL l4) (numB l4 false)).2.1)) = (none : Option (Ev × List UInt8)) := by
          cases hb5 : (takeFlds 5 (numL l4) (numB l4 false)).2.2 with
          | true =>
            have c1 : ∀ P : Prop, numV l4 < 0 ∨ true = true ∨ P := fun P => .inr (.inl rfl)
            rw [if_pos (c1 _)]
          | false =>
            have hl5 := takeFlds_len _ _ _ hb5
            rw [if_pos]
            refine .inr (.inr fun hm => ?_)
            have := (may_smallE hm).nf
            simp only at this
            omega
        rw [h1]
        cases hbm : (takeFlds (numV l4).toNat (numL l4) (numB l4 false)).2.2 with
        | true =>
          have c1 : numV l4 < 0 ∨ true = true := .inr rfl
          rw [if_pos c1]
          rfl
        | false =>
          have hlm := takeFlds_len _ _ _ hbm
          have c1 : ¬ (numV l4 < 0 ∨ false = true) := by rintro (h | h); exact hm0 h; cases h
          rw [if_neg c1]
          simp only [Option.bind_some]
          rw [if_neg]
          intro hm
          have := (may_smallE hm).nf
          simp only [List.length_take] at this
          omega
      · have hk5 : (min (numV l4) 5).toNat = (numV l4).toNat := by omega
        rw [hk5]
        cases hbm : (takeFlds (numV l4).toNat (numL l4) (numB l4 false)).2.2 with
        | true =>
          have c1 : ∀ P : Prop, numV l4 < 0 ∨ true = true ∨ P := fun P => .inr (.inl rfl)
          have c2 : numV l4 < 0 ∨ true = true := .inr rfl
          rw [if_pos (c1 _), if_pos c2]
          rfl
        | false =>
          have hlm := takeFlds_len _ _ _ hbm
          have c1 : ¬ (numV l4 < 0 ∨ false = true) := by rintro (h | h); exact hm0 h; cases h
          rw [if_neg c1, List.take_of_length_le (by omega)]
          simp only [Option.bind_some]
          by_cases h0 : mayE ⟨tx l, tx (textL l), ts, (takeFlds (numV l4).toNat (numL l4) (numB l4 false)).1⟩ = 0
          · rw [if_pos h0, if_neg]
            rintro (h | h | h)
            · exact hm0 h
            · cases h
            · exact h h0
          · rw [if_neg h0, if_pos (.inr (.inr h0))]

end Go.Proofs.Ytjoifkmcfenhpaa.EdWalk

/-
  Contract of layer 5: decode.
-/
namespace Go.Proofs.Ytjoifkmcfenhpaa.EdWalk
open Go.RowKit Go.Proofs.Ytjoifkmcfenhpaa.MemRow Go.Proofs.Ytjoifkmcfenhpaa.Ev Go.Proofs.Ytjoifkmcfenhpaa.NameMath Go.Proofs.Ytjoifkmcfenhpaa.NameWalk Go.Proofs.Ytjoifkmcfenhpaa.EvWalk Go.Proofs.Ytjoifkmcfenhpaa.NumMath Go.Proofs.Ytjoifkmcfenhpaa.NumMem Go.Proofs.Ytjoifkmcfenhpaa.NumWalk Go.Proofs.Ytjoifkmcfenhpaa.EcWalk

/-- What stands while an event is decoded: the reader and the variable that names it, the result's cell, the event that is made. -/
structure DecAt (wr w : World) (g : Nat) (l : List UInt8) (b : Bool) (gr ge : Nat) (s t : ByteArray) (T : Option Addr) (nT cT : Nat) (ts : List ByteArray) (F : Option Addr) (nF cF : Nat) (fs : List (ByteArray × Int)) : Prop where
  rd : Rdr wr 69 g l b
  bx : wr.cell? ⟨w.heap.size, 0, none⟩ = some (.pointer (some ⟨g, 0, none⟩))
  res : EvAt wr gr (.string ⟨#[]⟩) (.string ⟨#[]⟩) (.slice none 0 0) (.slice none 0 0)
  ev : EvAt wr ge (.string s) (.string t) (.slice T nT cT) (.slice F nF cF)
  tt : OwnC 1 wr (ge + 1) 9 T nT cT (MemRow.strs ts)
  ff : OwnC 2 wr (ge + 1) 64 F nF cF (flds fs)
  gg : w.grownBy wr (some g)
  gw : g < w.heap.size
  w1 : w.heap.size < gr
  w2 : gr < ge

section
variable {wr w w' : World} {g gr ge nT cT nF cF : Nat} {l l' : List UInt8} {b b' : Bool} {s t : ByteArray} {T F : Option Addr} {ts : List ByteArray} {fs : List (ByteArray × Int)}
theorem DecAt.read (h : DecAt wr w g l b gr ge s t T nT cT ts F nF cF fs) (hr : Rdr w' 69 g l' b') (hg : wr.grownBy w' (some g)) : DecAt w' w g l' b' gr ge s t T nT cT ts F nF cF fs := by
  have gw := h.gw
  have w1 := h.w1
  have w2 := h.w2
  exact ⟨hr, hg.cell h.bx (by simp; omega), h.res.grown hg (by simp; omega), h.ev.grown hg (by simp; omega), own_off h.tt hg (by omega), own_off h.ff hg (by omega), gr_step' h.gg hg, gw, w1, w2⟩
theorem ev_set0 {w : World} {g : Nat} {v0 v1 v2 v3 : Value} (h : EvAt w g v0 v1 v2 v3) (x : Value) : EvAt (w.setCell ⟨g, 0, none⟩ x) g x v1 v2 v3 := by
  unfold EvAt at h ⊢
  simp only [World.setCell, Array.getElem?_modify, h]
  rfl
theorem DecAt.set (h : DecAt wr w g l b gr ge s t T nT cT ts F nF cF fs) (i : Nat) (x : Value) {s' t' : ByteArray} {T' : Option Addr} {nT' cT' : Nat} {ts' : List ByteArray} {F' : Option Addr} {nF' cF' : Nat} {fs' : List (ByteArray × Int)}
    (he : EvAt (wr.setCell ⟨ge, i, none⟩ x) ge (.string s') (.string t') (.slice T' nT' cT') (.slice F' nF' cF')) (ht : OwnC 1 wr (ge + 1) 9 T' nT' cT' (MemRow.strs ts')) (hf : OwnC 2 wr (ge + 1) 64 F' nF' cF' (flds fs')) :
    DecAt (wr.setCell ⟨ge, i, none⟩ x) w g l b gr ge s' t' T' nT' cT' ts' F' nF' cF' fs' := by
  have gw := h.gw
  have w1 := h.w1
  have w2 := h.w2
  have hs := grown_set wr ge i x
  exact ⟨rdr_apart h.rd hs (fun r e => by injection e; omega), hs.cell h.bx (by simp; omega), h.res.far (by omega) _, he, own_away ht (by omega) _, own_away hf (by omega) _, gr_step h.gg hs (fun r e => by injection e; omega), gw, w1, w2⟩
/-- The result's cell is written. -/
theorem DecAt.fin (h : DecAt wr w g l b gr ge s t T nT cT ts F nF cF fs) (x0 x1 x2 x3 : Value) (w9 : World) (h9 : w9 = (((wr.setCell ⟨gr, 0, none⟩ x0).setCell ⟨gr, 1, none⟩ x1).setCell ⟨gr, 2, none⟩ x2).setCell ⟨gr, 3, none⟩ x3) :
    EvAt w9 gr x0 x1 x2 x3 ∧ Rdr w9 69 g l b ∧ w.grownBy w9 (some g) ∧ OwnC 1 w9 (ge + 1) 9 T nT cT (MemRow.strs ts) ∧ OwnC 2 w9 (ge + 1) 64 F nF cF (flds fs) := by
  subst h9
  have gw := h.gw
  have w1 := h.w1
  have w2 := h.w2
  have e := h.res.all x0 x1 x2 x3
  refine ⟨e, ?_, ?_, ?_, ?_⟩
  · exact rdr_apart (rdr_apart (rdr_apart (rdr_apart h.rd (grown_set _ _ _ _) (fun r e => by injection e; omega)) (grown_set _ _ _ _) (fun r e => by injection e; omega)) (grown_set _ _ _ _) (fun r e => by injection e; omega)) (grown_set _ _ _ _) (fun r e => by injection e; omega)
  · exact gr_step (gr_step (gr_step (gr_step h.gg (grown_set _ _ _ _) (fun r e => by injection e; omega)) (grown_set _ _ _ _) (fun r e => by injection e; omega)) (grown_set _ _ _ _) (fun r e => by injection e; omega)) (grown_set _ _ _ _) (fun r e => by injection e; omega)
  · exact own_away (own_away (own_away (own_away h.tt (by omega) _) (by omega) _) (by omega) _) (by omega) _
  · exact own_away (own_away (own_away (own_away h.ff (by omega) _) (by omega) _) (by omega) _) (by omega) _
end

/-- What decoding comes to. -/
def DecOut (l : List UInt8) (g : Nat) (w : World) (e : Ending) (w' : World) : Prop :=
  w.grownBy w' (some g) ∧ ∃ (s t : ByteArray) (T : Option Addr) (nT cT : Nat) (F : Option Addr) (nF cF : Nat) (ok : Bool) (l' : List UInt8) (b' : Bool),
    e = .returned (.tuple #[.agg #[.string s, .string t, .slice T nT cT, .slice F nF cF], .bool ok]) ∧ Rdr w' 69 g l' b' ∧ Hid (ok = false → decC l = none) ∧
    Hid (ok = true → b' = false ∧ ∃ ts fs, decC l = some (⟨s, t, ts, fs⟩, l') ∧ OwnC 1 w' w.heap.size 9 T nT cT (MemRow.strs ts) ∧ OwnC 2 w' w.heap.size 64 F nF cF (flds fs) ∧ EvOk ⟨s, t, ts, fs⟩)

set_option maxHeartbeats 4000000 in
set_option maxRecDepth 100000 in
theorem decode5_any (g : Nat) (l : List UInt8) (w : World) (h : Rdr w 69 g l false) :
    Calls Try.prog 74 #[.pointer (some ⟨g, 0, none⟩)] w fun e w' => DecOut l g w e w' := by
  have gw := h.lt
  have HS0 := Go.Lib.hid (tx_small h)
  have D0 : Dry l false := fun h => by cases h
  have b1 : Below w.heap.size w (w.alloc (.cells #[.pointer (some ⟨g, 0, none⟩)] 46)) := (Below.refl _ _).alloc (Nat.le_refl _) _
  have k1 := box_cell w (.pointer (some ⟨g, 0, none⟩)) 46
  have s1 : (w.alloc (.cells #[.pointer (some ⟨g, 0, none⟩)] 46)).heap.size = w.heap.size + 1 := by simp
  have h1 := h.below b1
  go_enter Try.func74, Try.ntmps74
  go_upto_region 0 with (fail)
  have g1 : w.grownBy (w.alloc (.cells #[.pointer (some ⟨g, 0, none⟩)] 46)) (some g) := ⟨b1.os, b1.tape, b1.output, b1.size, fun k hk _ => b1.block k hk⟩
  go_upto_region 1 with (fail)
  generalize w.alloc (.cells #[.pointer (some ⟨g, 0, none⟩)] 46) = w1 at *
  have e2 := EvAt.new w1 (.string ⟨#[]⟩) (.string ⟨#[]⟩) (.slice none 0 0) (.slice none 0 0)
  have b2 : Below w1.heap.size w1 (w1.alloc (.cells #[.string ⟨#[]⟩, .string ⟨#[]⟩, .slice none 0 0, .slice none 0 0] 44)) := (Below.refl _ _).alloc (Nat.le_refl _) _
  have h2 := h1.below b2
  have k2 := bcell b2 k1
  have g2 := gr_step g1 (row := none) ⟨b2.os, b2.tape, b2.output, b2.size, fun k hk _ => b2.block k hk⟩ (fun r e => by cases e)
  generalize w1.alloc (.cells #[.string ⟨#[]⟩, .string ⟨#[]⟩, .slice none 0 0, .slice none 0 0] 44) = w2 at *
  rw [s1] at e2
  clear h h1 k1 b1 b2 g1 s1
  go_upto_region 2 with (fail)
  have e3 := EvAt.new w2 (.string ⟨#[]⟩) (.string ⟨#[]⟩) (.slice none 0 0) (.slice none 0 0)
  have b3 : Below w2.heap.size w2 (w2.alloc (.cells #[.string ⟨#[]⟩, .string ⟨#[]⟩, .slice none 0 0, .slice none 0 0] 44)) := (Below.refl _ _).alloc (Nat.le_refl _) _
  have d3 : DecAt (w2.alloc (.cells #[.string ⟨#[]⟩, .string ⟨#[]⟩, .slice none 0 0, .slice none 0 0] 44)) w g l false (w.heap.size + 1) w2.heap.size ⟨#[]⟩ ⟨#[]⟩ none 0 0 [] none 0 0 [] :=
    ⟨h2.below b3, bcell b3 k2, e2.below b3 e2.lt, e3, OwnC.nil _ _, OwnC.nil _ _, gr_step g2 (row := none) ⟨b3.os, b3.tape, b3.output, b3.size, fun k hk _ => b3.block k hk⟩ (fun r e => by cases e), gw, Nat.lt_succ_self _, e2.lt⟩
  generalize w2.alloc (.cells #[.string ⟨#[]⟩, .string ⟨#[]⟩, .slice none 0 0, .slice none 0 0] 44) = w3 at *
  generalize w2.heap.size = ge at *
  clear h2 k2 g2 e2 e3 b3
  have k0 := d3.bx
  go_wp2_with fail
  refine (text_any g l false w3 d3.rd).mono ?_
  rintro e w4 ⟨rfl, r4, gg⟩
  have d4 := d3.read r4 gg
  have z0 := d4.ev.frozen 0
  have q0 := d4.ev.c0
  have d5 := d4.set 0 (.string (tx l)) (ev_set0 d4.ev _) d4.tt d4.ff
  have D1 : Dry (textL l) (textB l false) := D0.text
  have HS1 := Go.Lib.hid (tx_small d4.rd)
  clear d3 r4 gg k0
  go_upto_region 4 with (fail)
  have hset : w4.setCell ⟨ge, 0, none⟩ (.string ⟨(textV l).toArray⟩) = w4.setCell ⟨ge, 0, none⟩ (.string (tx l)) := rfl
  rw [hset]
  generalize w4.setCell ⟨ge, 0, none⟩ (.string (tx l)) = w5 at *
  clear z0 q0 hset d4
  have k0 := d5.bx
  go_wp2_with fail
  refine (text_any g _ _ w5 d5.rd).mono ?_
  rintro e w6 ⟨rfl, r6, gg⟩
  have d6 := d5.read r6 gg
  have z1 := d6.ev.frozen 1
  have q1 := d6.ev.c1
  have d7 := d6.set 1 (.string (tx (textL l))) (ev_set1 d6.ev _) d6.tt d6.ff
  have D2 : Dry (textL (textL l)) (textB (textL l) (textB l false)) := D1.text
  clear d5 r6 gg k0
  go_upto_region 5 with (fail)
  have hset : w6.setCell ⟨ge, 1, none⟩ (.string ⟨(textV (textL l)).toArray⟩) = w6.setCell ⟨ge, 1, none⟩ (.string (tx (textL l))) := rfl
  rw [hset]
  generalize w6.setCell ⟨ge, 1, none⟩ (.string (tx (textL l))) = w7 at *
  clear z1 q1 hset d6
  have k0 := d7.bx
  generalize hl2 : textL (textL l) = l2 at *
  generalize hb2 : textB (textL l) (textB l false) = b2 at *
  have HL2 := Go.Lib.hid hl2
  have HB2 := Go.Lib.hid hb2
  clear hl2 hb2
  go_wp2_with fail
  refine (listS_any g l2 b2 w7 d7.rd D2).mono ?_
  rintro e w8 ⟨gg, ts, l', b', T8, m8, c8, us, ok, HT, HOK, rfl, r8, o8, HU, HZ⟩
  have d8 := d7.read r8 gg
  have z2 := d8.ev.frozen 2
  have q2 := d8.ev.c2
  have d9 := d8.set 2 (.slice T8 m8 c8) (d8.ev.set2 _) (own_lower o8 d7.ev.lt) d8.ff
  clear d7 r8 gg k0 d8 o8
  go_upto_region 6 with (fail)
  generalize w8.setCell ⟨ge, 2, none⟩ (.slice T8 m8 c8) = w9 at *
  clear z2 q2
  have hno : ok = false → decC l = none := by
    intro h
    have h1 := HOK.out
    rw [h] at h1
    unfold decC
    simp only
    rw [HL2.out, HB2.out, HT.out, if_pos]
    by_cases h0 : 0 ≤ numV l2
    · rw [decide_eq_true h0] at h1
      right
      cases b' with
      | true => rfl
      | false => cases h1
    · exact .inl (by omega)
  have HNO := Go.Lib.hid hno
  clear hno
  cases ok with
  | false =>
    have r0 := d9.res.c0
    have r1 := d9.res.c1
    have r2 := d9.res.c2
    have r3 := d9.res.c3
    have z0 := d9.res.frozen 0
    have z1 := d9.res.frozen 1
    have z2 := d9.res.frozen 2
    have z3 := d9.res.frozen 3
    have hfin := d9.fin (.string ⟨#[]⟩) (.string ⟨#[]⟩) (.slice none 0 0) (.slice none 0 0) _ rfl
    have HFIN := Go.Lib.hid hfin
    clear hfin
    go_wp2_with fail
    rcases HFIN.out with ⟨E9, R9, G9, _, _⟩
    generalize ((((w9.setCell ⟨w.heap.size + 1, 0, none⟩ (.string ⟨#[]⟩)).setCell ⟨w.heap.size + 1, 1, none⟩ (.string ⟨#[]⟩)).setCell ⟨w.heap.size + 1, 2, none⟩ (.slice none 0 0)).setCell ⟨w.heap.size + 1, 3, none⟩ (.slice none 0 0)) = w10 at *
    have q0 := E9.c0
    have q1 := E9.c1
    have q2 := E9.c2
    have q3 := E9.c3
    exact bodyPost_ret (v := .tuple #[.agg #[.string ⟨#[]⟩, .string ⟨#[]⟩, .slice none 0 0, .slice none 0 0], .bool false]) (by simp [results, Try.results74, go_sem, q0, q1, q2, q3]) rfl ⟨G9, _, _, _, _, _, _, _, _, false, _, _, rfl, R9, Go.Lib.hid (fun _ => HNO.out trivial), Go.Lib.hid (fun h => by cases h)⟩
  | true =>
    have hn0 : 0 ≤ numV l2 ∧ b' = false := by
      have h1 := HOK.out
      by_cases h0 : 0 ≤ numV l2
      · rw [decide_eq_true h0] at h1
        cases b' with
        | true => cases h1
        | false => exact ⟨h0, rfl⟩
      · rw [decide_eq_false h0] at h1
        cases h1
    obtain ⟨hn0, rfl⟩ := hn0
    have HN0 := Go.Lib.hid hn0
    have hus := HU.out rfl
    have HUS := Go.Lib.hid hus
    have k0 := d9.bx
    have hbg : w.heap.size ≠ g := by omega
    clear hn0 hus HNO HOK HU
    go_wp2_with fail
    refine (listF_any g l' false w9 d9.rd (fun h => by cases h) w.heap.size k0 hbg).mono ?_
    rintro e w10 ⟨gg, fs, l'', b'', F10, m10, c10, vs, ok, HF, HOK, rfl, r10, o10, HV, HVZ⟩
    have d10 := d9.read r10 gg
    have z3 := d10.ev.frozen 3
    have q3 := d10.ev.c3
    have d11 := d10.set 3 (.slice F10 m10 c10) (d10.ev.set3 _) d10.tt (own_lower o10 d9.ev.lt)
    clear d9 r10 gg k0 d10 o10
    go_upto_region 9 with (fail)
    generalize w10.setCell ⟨ge, 3, none⟩ (.slice F10 m10 c10) = w11 at *
    clear z3 q3
    have hw1 := d11.w1
    have hw2 := d11.w2
    have r0 := d11.res.c0
    have r1 := d11.res.c1
    have r2 := d11.res.c2
    have r3 := d11.res.c3
    have z0 := d11.res.frozen 0
    have z1 := d11.res.frozen 1
    have z2 := d11.res.frozen 2
    have z3 := d11.res.frozen 3
    have e0 := d11.ev.c0
    have e1 := d11.ev.c1
    have e2 := d11.ev.c2
    have e3 := d11.ev.c3
    have hfin := d11.fin (.string (tx l)) (.string (tx (textL l))) (.slice T8 m8 c8) (.slice F10 m10 c10) _ rfl
    have HFIN := Go.Lib.hid hfin
    clear hfin d11
    go_wp2_with fail
    rcases HFIN.out with ⟨E9, R9, G9, O1, O2⟩
    generalize ((((w11.setCell ⟨w.heap.size + 1, 0, none⟩ (.string (tx l))).setCell ⟨w.heap.size + 1, 1, none⟩ (.string (tx (textL l)))).setCell ⟨w.heap.size + 1, 2, none⟩ (.slice T8 m8 c8)).setCell ⟨w.heap.size + 1, 3, none⟩ (.slice F10 m10 c10)) = w12 at *
    have q0 := E9.c0
    have q1 := E9.c1
    have q2 := E9.c2
    have q3 := E9.c3
    have hdec : decC l = if numV l' < 0 ∨ b'' = true then none else some (⟨tx l, tx (textL l), ts.take 7, fs.take 5⟩, l'') := by
      unfold decC
      simp only
      rw [HL2.out, HB2.out, HT.out]
      simp only
      have c1 : ¬ (numV l2 < 0 ∨ false = true) := by
        rintro (h | h)
        · have := HN0.out
          omega
        · cases h
      rw [if_neg c1, HF.out]
    refine bodyPost_ret (v := .tuple #[.agg #[.string (tx l), .string (tx (textL l)), .slice T8 m8 c8, .slice F10 m10 c10], .bool ok]) (by simp [results, Try.results74, go_sem, q0, q1, q2, q3]) rfl ⟨G9, _, _, _, _, _, _, _, _, ok, _, _, rfl, R9, Go.Lib.hid fun h => ?_, Go.Lib.hid fun h => ?_⟩
    · rw [hdec, if_pos]
      have h1 := HOK.out
      rw [h] at h1
      by_cases h0 : 0 ≤ numV l'
      · rw [decide_eq_true h0] at h1
        right
        cases b'' with
        | true => rfl
        | false => cases h1
      · exact .inl (by omega)
    · have h1 := HOK.out
      rw [h] at h1
      have hb : ¬ numV l' < 0 ∧ b'' = false := by
        by_cases h0 : 0 ≤ numV l'
        · rw [decide_eq_true h0] at h1
          cases b'' with
          | true => cases h1
          | false => exact ⟨by omega, rfl⟩
        · rw [decide_eq_false h0] at h1
          cases h1
      obtain ⟨hm0, rfl⟩ := hb
      have hvs := HV.out rfl
      refine ⟨rfl, us, vs, ?_, own_lower O1 (by omega), own_lower O2 (by omega), HS0.out, HS1.out, HZ.out, fun f hf => (HVZ.out f hf).1, fun f hf => (HVZ.out f hf).2⟩
      rw [hdec, HUS.out, hvs, if_neg]
      rintro (h | h)
      · exact hm0 h
      · cases h

end Go.Proofs.Ytjoifkmcfenhpaa.EdWalk

/-
  Contract of layer 5: Take.
-/
namespace Go.Proofs.Ytjoifkmcfenhpaa.EdWalk
open Go.RowKit Go.Proofs.Ytjoifkmcfenhpaa.MemRow Go.Proofs.Ytjoifkmcfenhpaa.Ev Go.Proofs.Ytjoifkmcfenhpaa.NameMath Go.Proofs.Ytjoifkmcfenhpaa.NameWalk Go.Proofs.Ytjoifkmcfenhpaa.EvWalk Go.Proofs.Ytjoifkmcfenhpaa.NumMath Go.Proofs.Ytjoifkmcfenhpaa.NumMem Go.Proofs.Ytjoifkmcfenhpaa.NumWalk Go.Proofs.Ytjoifkmcfenhpaa.EcWalk

/-- What stands while an event is taken: the reader, the result's cell, the reader as it was. -/
structure TkAt (wr w : World) (g : Nat) (l : List UInt8) (b : Bool) (A : Option Addr) (n cap : Nat) (l0 : List UInt8) : Prop where
  rd : Rdr wr 69 g l b
  res : EvAt wr w.heap.size (.string ⟨#[]⟩) (.string ⟨#[]⟩) (.slice none 0 0) (.slice none 0 0)
  wb : wr.heap[w.heap.size + 1]? = some (.cells #[.slice A n cap, .bool false] 69 (0, 0))
  rb : Rd wr A n cap l0
  old : Old A g
  gg : w.grownBy wr (some g)
  gw : g < w.heap.size

section
variable {wr w w' : World} {g n cap : Nat} {l l' l0 : List UInt8} {b b' : Bool} {A : Option Addr}
theorem TkAt.below (h : TkAt wr w g l b A n cap l0) (hb : Below wr.heap.size wr w') : TkAt w' w g l b A n cap l0 :=
  ⟨h.rd.below hb, h.res.below hb h.res.lt, (hb.block _ (lt_of_block h.wb)).trans h.wb, h.rb.below hb, h.old, gr_step h.gg (row := none) ⟨hb.os, hb.tape, hb.output, hb.size, fun k hk _ => hb.block k hk⟩ (fun r e => by cases e), h.gw⟩
theorem TkAt.read (h : TkAt wr w g l b A n cap l0) (hr : Rdr w' 69 g l' b') (hg : wr.grownBy w' (some g)) : TkAt w' w g l' b' A n cap l0 := by
  have gw := h.gw
  exact ⟨hr, h.res.grown hg (by simp; omega), (hg.block _ (lt_of_block h.wb) (by simp; omega)).trans h.wb, h.rb.grown hg h.rd.no_byte, h.old, gr_step' h.gg hg, gw⟩
theorem TkAt.restore (h : TkAt wr w g l b A n cap l0) : TkAt ((wr.setCell ⟨g, 0, none⟩ (.slice A n cap)).setCell ⟨g, 1, none⟩ (.bool false)) w g l0 false A n cap l0 := by
  have hno := h.rd.no_byte
  obtain ⟨A1, n1, c1, hh, _, _⟩ := h.rd
  have s0 := grown_set wr g 0 (.slice A n cap)
  have s1 := grown_set (wr.setCell ⟨g, 0, none⟩ (.slice A n cap)) g 1 (.bool false)
  have r1 := (h.rb.grown s0 hno).grown s1 (two_no_byte (two_set0 hh) (by simp) (by simp))
  have hr : Rdr ((wr.setCell ⟨g, 0, none⟩ (.slice A n cap)).setCell ⟨g, 1, none⟩ (.bool false)) 69 g l0 false := ⟨A, n, cap, two_set1 (two_set0 hh), r1, h.old⟩
  exact h.read hr (gr_step' s0 s1)
theorem TkAt.fin (h : TkAt wr w g l b A n cap l0) (x0 x1 x2 x3 : Value) (w9 : World) (h9 : w9 = (((wr.setCell ⟨w.heap.size, 0, none⟩ x0).setCell ⟨w.heap.size, 1, none⟩ x1).setCell ⟨w.heap.size, 2, none⟩ x2).setCell ⟨w.heap.size, 3, none⟩ x3) :
    EvAt w9 w.heap.size x0 x1 x2 x3 ∧ Rdr w9 69 g l b ∧ w.grownBy w9 (some g) := by
  subst h9
  have gw := h.gw
  have e := h.res.all x0 x1 x2 x3
  refine ⟨e, ?_, ?_⟩
  · exact rdr_apart (rdr_apart (rdr_apart (rdr_apart h.rd (grown_set _ _ _ _) (fun r e => by injection e; omega)) (grown_set _ _ _ _) (fun r e => by injection e; omega)) (grown_set _ _ _ _) (fun r e => by injection e; omega)) (grown_set _ _ _ _) (fun r e => by injection e; omega)
  · exact gr_step (gr_step (gr_step (gr_step h.gg (grown_set _ _ _ _) (fun r e => by injection e; omega)) (grown_set _ _ _ _) (fun r e => by injection e; omega)) (grown_set _ _ _ _) (fun r e => by injection e; omega)) (grown_set _ _ _ _) (fun r e => by injection e; omega)
end

/-- What taking comes to. -/
def TakeN (l : List UInt8) (g : Nat) (w : World) (e : Ending) (w' : World) : Prop :=
  w.grownBy w' (some g) ∧ ((∃ ev l', takeE l false = some (ev, l') ∧ ∃ v, e = .returned (.tuple #[v, .int .i64 0]) ∧ OwnIs w' w.heap.size v ev ∧ EvOk ev ∧ Rdr w' 69 g l' false) ∨
    (takeE l false = none ∧ NoneE e ∧ ∃ l' b', Rdr w' 69 g l' b'))

set_option maxHeartbeats 4000000 in
set_option maxRecDepth 100000 in
theorem take5_any (g : Nat) (l : List UInt8) (w : World) (h : Rdr w 69 g l false) :
    Calls Try.prog 50 #[.pointer (some ⟨g, 0, none⟩)] w fun e w' => TakeN l g w e w' := by
  have gw := h.lt
  have hd := takeE_decC l
  have HD := Go.Lib.hid hd
  clear hd
  have e1 := EvAt.new w (.string ⟨#[]⟩) (.string ⟨#[]⟩) (.slice none 0 0) (.slice none 0 0)
  have b1 : Below w.heap.size w (w.alloc (.cells #[.string ⟨#[]⟩, .string ⟨#[]⟩, .slice none 0 0, .slice none 0 0] 44)) := (Below.refl _ _).alloc (Nat.le_refl _) _
  have s1 : (w.alloc (.cells #[.string ⟨#[]⟩, .string ⟨#[]⟩, .slice none 0 0, .slice none 0 0] 44)).heap.size = w.heap.size + 1 := by simp
  have h1 := h.below b1
  go_enter Try.func50, Try.ntmps50
  go_upto_region 1 with (fail)
  generalize w.alloc (.cells #[.string ⟨#[]⟩, .string ⟨#[]⟩, .slice none 0 0, .slice none 0 0] 44) = w1 at *
  have h1' := h1
  obtain ⟨A, n, cap, hh, hr, ho⟩ := h1'
  obtain ⟨k0, k1, _⟩ := two_cell hh
  clear hh h
  go_upto_region 4 with (fail)
  have b2 : Below w1.heap.size w1 (w1.alloc (.cells #[.slice A n cap, .bool false] 69)) := (Below.refl _ _).alloc (Nat.le_refl _) _
  have t2 : TkAt (w1.alloc (.cells #[.slice A n cap, .bool false] 69)) w g l false A n cap l :=
    ⟨h1.below b2, e1.below b2 e1.lt, by rw [← s1]; exact heap_alloc_new w1 _, hr.below b2, ho, gr_step ⟨b1.os, b1.tape, b1.output, b1.size, fun k hk _ => b1.block k hk⟩ (row := none) ⟨b2.os, b2.tape, b2.output, b2.size, fun k hk _ => b2.block k hk⟩ (fun r e => by cases e), gw⟩
  have s2 : (w1.alloc (.cells #[.slice A n cap, .bool false] 69)).heap.size = w.heap.size + 1 + 1 := by simp [s1]
  generalize w1.alloc (.cells #[.slice A n cap, .bool false] 69) = w2 at *
  clear b1 b2 h1 hr ho e1 k0 k1 s1
  go_wp2_with fail
  refine (decode5_any g l w2 t2.rd).mono ?_
  rintro e w3 ⟨gg, s, t, T, nT, cT, F, nF, cF, ok, l', b', rfl, r3, HNO, HYES⟩
  have t3 := t2.read r3 gg
  have s23 := gg.size
  have al : Below w3.heap.size w3 (w3.alloc (.cells #[.string s, .string t, .slice T nT cT, .slice F nF cF] 44)) := (Below.refl _ _).alloc (Nat.le_refl _) _
  have e4 := EvAt.new w3 (.string s) (.string t) (.slice T nT cT) (.slice F nF cF)
  have t4 := t3.below al
  clear t2 r3 gg t3
  go_upto_region 5 with (fail)
  generalize hw4 : w3.alloc (.cells #[.string s, .string t, .slice T nT cT, .slice F nF cF] 44) = w4 at *
  clear hw4
  cases ok with
  | false =>
    have hno : takeE l false = none := by
      rw [HD.out, HNO.out rfl]
      rfl
    have HN := Go.Lib.hid hno
    clear hno HYES HNO
    cases b' with
    | true =>
      go_wp2_with fail
      refine (bad_any g _ _ w4 t4.rd).mono ?_
      rintro e w' ⟨rfl, rfl⟩
      have r0 := t4.res.c0
      have r1 := t4.res.c1
      have r2 := t4.res.c2
      have r3 := t4.res.c3
      have z0 := t4.res.frozen 0
      have z1 := t4.res.frozen 1
      have z2 := t4.res.frozen 2
      have z3 := t4.res.frozen 3
      have hfin := t4.fin (.string ⟨#[]⟩) (.string ⟨#[]⟩) (.slice none 0 0) (.slice none 0 0) _ rfl
      have HFIN := Go.Lib.hid hfin
      clear hfin
      go_wp2_with fail
      rcases HFIN.out with ⟨E9, R9, G9⟩
      generalize ((((w4.setCell ⟨w.heap.size, 0, none⟩ (.string ⟨#[]⟩)).setCell ⟨w.heap.size, 1, none⟩ (.string ⟨#[]⟩)).setCell ⟨w.heap.size, 2, none⟩ (.slice none 0 0)).setCell ⟨w.heap.size, 3, none⟩ (.slice none 0 0)) = w9 at *
      have q0 := E9.c0
      have q1 := E9.c1
      have q2 := E9.c2
      have q3 := E9.c3
      exact bodyPost_ret (v := .tuple #[.agg #[.string ⟨#[]⟩, .string ⟨#[]⟩, .slice none 0 0, .slice none 0 0], .int .i64 2]) (by simp [results, Try.results50, go_sem, q0, q1, q2, q3]) rfl ⟨G9, .inr ⟨HN.out, rfl, _, _, R9⟩⟩
    | false =>
      go_wp2_with fail
      refine (bad_any g _ _ w4 t4.rd).mono ?_
      rintro e w' ⟨rfl, rfl⟩
      obtain ⟨A1, n1, c1, hh, _, _⟩ := t4.rd
      obtain ⟨x0, x1, xf⟩ := two_cell hh
      obtain ⟨y0, y1, _⟩ := two_cell t4.wb
      have f0 := xf 0
      have f1 := xf 1
      have tr := t4.restore
      clear hh xf
      go_upto_region 9 with (fail)
      generalize (w4.setCell ⟨g, 0, none⟩ (.slice A n cap)).setCell ⟨g, 1, none⟩ (.bool false) = wr at *
      clear x0 x1 y0 y1 f0 f1
      have r0 := tr.res.c0
      have r1 := tr.res.c1
      have r2 := tr.res.c2
      have r3 := tr.res.c3
      have z0 := tr.res.frozen 0
      have z1 := tr.res.frozen 1
      have z2 := tr.res.frozen 2
      have z3 := tr.res.frozen 3
      have hfin := tr.fin (.string ⟨#[]⟩) (.string ⟨#[]⟩) (.slice none 0 0) (.slice none 0 0) _ rfl
      have HFIN := Go.Lib.hid hfin
      clear hfin
      go_wp2_with fail
      rcases HFIN.out with ⟨E9, R9, G9⟩
      generalize ((((wr.setCell ⟨w.heap.size, 0, none⟩ (.string ⟨#[]⟩)).setCell ⟨w.heap.size, 1, none⟩ (.string ⟨#[]⟩)).setCell ⟨w.heap.size, 2, none⟩ (.slice none 0 0)).setCell ⟨w.heap.size, 3, none⟩ (.slice none 0 0)) = w9 at *
      have q0 := E9.c0
      have q1 := E9.c1
      have q2 := E9.c2
      have q3 := E9.c3
      exact bodyPost_ret (v := .tuple #[.agg #[.string ⟨#[]⟩, .string ⟨#[]⟩, .slice none 0 0, .slice none 0 0], .int .i64 2]) (by simp [results, Try.results50, go_sem, q0, q1, q2, q3]) rfl ⟨G9, .inr ⟨HN.out, rfl, _, _, R9⟩⟩
  | true =>
    obtain ⟨rfl, ts, fs, hdec, o1, o2, hok⟩ := HYES.out rfl
    have o1' := own_lower (OwnC.below o1 al) (base' := w.heap.size + 1) (by omega)
    have o2' := own_lower (OwnC.below o2 al) (base' := w.heap.size + 1) (by omega)
    have iv : IsEv w4 (.agg #[.string s, .string t, .slice T nT cT, .slice F nF cF]) ⟨s, t, ts, fs⟩ := ⟨_, _, _, _, _, _, rfl, OwnC.rd o1', OwnC.rd o2'⟩
    have htk : takeE l false = if mayE ⟨s, t, ts, fs⟩ = 0 then some (⟨s, t, ts, fs⟩, l') else none := by
      rw [HD.out, hdec]
      rfl
    have HTK := Go.Lib.hid htk
    clear hdec o1 o2 htk HNO HYES
    have k0 := e4.c0
    have k1 := e4.c1
    have k2 := e4.c2
    have k3 := e4.c3
    go_wp2_with fail
    refine (evMay_any _ ⟨s, t, ts, fs⟩ w4 iv hok).mono ?_
    rintro e w5 ⟨rfl, b5⟩
    have t5 := t4.below b5
    have e5 := e4.below b5 e4.lt
    have p1 := OwnC.below o1' b5
    have p2 := OwnC.below o2' b5
    clear t4 e4 o1' o2' iv k0 k1 k2 k3 b5 al
    by_cases h0 : mayE ⟨s, t, ts, fs⟩ = 0
    · rw [h0]
      have hyes : takeE l false = some (⟨s, t, ts, fs⟩, l') := by rw [HTK.out, if_pos h0]
      have HY := Go.Lib.hid hyes
      have HOK := Go.Lib.hid hok
      clear hyes h0 hok
      have k0 := e5.c0
      have k1 := e5.c1
      have k2 := e5.c2
      have k3 := e5.c3
      have r0 := t5.res.c0
      have r1 := t5.res.c1
      have r2 := t5.res.c2
      have r3 := t5.res.c3
      have z0 := t5.res.frozen 0
      have z1 := t5.res.frozen 1
      have z2 := t5.res.frozen 2
      have z3 := t5.res.frozen 3
      have hfin := t5.fin (.string s) (.string t) (.slice T nT cT) (.slice F nF cF) _ rfl
      have p1' := own_away (own_away (own_away (own_away p1 (g := w.heap.size) (i := 0) (Nat.lt_succ_self _) (.string s)) (g := w.heap.size) (i := 1) (Nat.lt_succ_self _) (.string t)) (g := w.heap.size) (i := 2) (Nat.lt_succ_self _) (.slice T nT cT)) (g := w.heap.size) (i := 3) (Nat.lt_succ_self _) (.slice F nF cF)
      have p2' := own_away (own_away (own_away (own_away p2 (g := w.heap.size) (i := 0) (Nat.lt_succ_self _) (.string s)) (g := w.heap.size) (i := 1) (Nat.lt_succ_self _) (.string t)) (g := w.heap.size) (i := 2) (Nat.lt_succ_self _) (.slice T nT cT)) (g := w.heap.size) (i := 3) (Nat.lt_succ_self _) (.slice F nF cF)
      have HFIN := Go.Lib.hid hfin
      have P1 := Go.Lib.hid p1'
      have P2 := Go.Lib.hid p2'
      clear hfin p1 p2 p1' p2' t5 e5
      go_wp2_with fail
      rcases HFIN.out with ⟨E9, R9, G9⟩
      have p1 := P1.out
      have p2 := P2.out
      generalize ((((w5.setCell ⟨w.heap.size, 0, none⟩ (.string s)).setCell ⟨w.heap.size, 1, none⟩ (.string t)).setCell ⟨w.heap.size, 2, none⟩ (.slice T nT cT)).setCell ⟨w.heap.size, 3, none⟩ (.slice F nF cF)) = w9 at *
      have q0 := E9.c0
      have q1 := E9.c1
      have q2 := E9.c2
      have q3 := E9.c3
      exact bodyPost_ret (v := .tuple #[.agg #[.string s, .string t, .slice T nT cT, .slice F nF cF], .int .i64 0]) (by simp [results, Try.results50, go_sem, q0, q1, q2, q3]) rfl ⟨G9, .inl ⟨_, _, HY.out, _, rfl, ⟨_, _, _, _, _, _, rfl, own_lower p1 (Nat.le_succ _), own_lower p2 (Nat.le_succ _)⟩, HOK.out, R9⟩⟩
    · have hm0 : (mayE ⟨s, t, ts, fs⟩ == 0) = false := by rw [beq_eq_false_iff_ne]; exact h0
      have hno : takeE l false = none := by rw [HTK.out, if_neg h0]
      have HN := Go.Lib.hid hno
      clear hno h0 p1 p2 hok
      generalize mayE ⟨s, t, ts, fs⟩ = MM at *
      go_wp2_with fail
      refine (bad_any g _ _ w5 t5.rd).mono ?_
      rintro e w' ⟨rfl, rfl⟩
      obtain ⟨A1, n1, c1, hh, _, _⟩ := t5.rd
      obtain ⟨x0, x1, xf⟩ := two_cell hh
      obtain ⟨y0, y1, _⟩ := two_cell t5.wb
      have f0 := xf 0
      have f1 := xf 1
      have tr := t5.restore
      clear hh xf
      go_upto_region 9 with (fail)
      generalize (w5.setCell ⟨g, 0, none⟩ (.slice A n cap)).setCell ⟨g, 1, none⟩ (.bool false) = wr at *
      clear x0 x1 y0 y1 f0 f1
      have r0 := tr.res.c0
      have r1 := tr.res.c1
      have r2 := tr.res.c2
      have r3 := tr.res.c3
      have z0 := tr.res.frozen 0
      have z1 := tr.res.frozen 1
      have z2 := tr.res.frozen 2
      have z3 := tr.res.frozen 3
      have hfin := tr.fin (.string ⟨#[]⟩) (.string ⟨#[]⟩) (.slice none 0 0) (.slice none 0 0) _ rfl
      have HFIN := Go.Lib.hid hfin
      clear hfin
      go_wp2_with fail
      rcases HFIN.out with ⟨E9, R9, G9⟩
      generalize ((((wr.setCell ⟨w.heap.size, 0, none⟩ (.string ⟨#[]⟩)).setCell ⟨w.heap.size, 1, none⟩ (.string ⟨#[]⟩)).setCell ⟨w.heap.size, 2, none⟩ (.slice none 0 0)).setCell ⟨w.heap.size, 3, none⟩ (.slice none 0 0)) = w9 at *
      have q0 := E9.c0
      have q1 := E9.c1
      have q2 := E9.c2
      have q3 := E9.c3
      exact bodyPost_ret (v := .tuple #[.agg #[.string ⟨#[]⟩, .string ⟨#[]⟩, .slice none 0 0, .slice none 0 0], .int .i64 2]) (by simp [results, Try.results50, go_sem, q0, q1, q2, q3]) rfl ⟨G9, .inr ⟨HN.out, rfl, _, _, R9⟩⟩

end Go.Proofs.Ytjoifkmcfenhpaa.EdWalk

/-
  Contracts of layer 10: take, Take.
-/
namespace Go.Proofs.Ytjoifkmcfenhpaa.BtWalk
open Go.RowKit Go.Proofs.Ytjoifkmcfenhpaa.MemRow Go.Proofs.Ytjoifkmcfenhpaa.Ev Go.Proofs.Ytjoifkmcfenhpaa.NameMath Go.Proofs.Ytjoifkmcfenhpaa.NameWalk Go.Proofs.Ytjoifkmcfenhpaa.EvWalk Go.Proofs.Ytjoifkmcfenhpaa.NumMath Go.Proofs.Ytjoifkmcfenhpaa.NumMem Go.Proofs.Ytjoifkmcfenhpaa.NumWalk Go.Proofs.Ytjoifkmcfenhpaa.EcWalk Go.Proofs.Ytjoifkmcfenhpaa.EdWalk Go.Proofs.Ytjoifkmcfenhpaa.EeLaw

/-- What the landed Take finds. -/
theorem take_find {l : List UInt8} {x : Bat} (h : takeX l = some x) : ((min (numV (numL l)) 16).toNat : Int) = numV (numL l) ∧ takeEs (min (numV (numL l)) 16).toNat (numL (numL l)) (numB (numL l) (numB l false)) = some (x.es, []) ∧ mayX ⟨numV l, x.es⟩ = 0 := by
  obtain ⟨a1, a2, a3, a4, a5, a6⟩ := takeX_read h
  have hz := (mayX_zero x).1 a6
  have hk : (min (numV (numL l)) 16).toNat = x.es.length := by rw [a3]; omega
  refine ⟨by rw [hk, a3], by rw [hk, a2, a4, a5], ?_⟩
  have e : (⟨numV l, x.es⟩ : Bat) = x := by rw [a1]
  rw [e]
  exact a6

set_option maxHeartbeats 8000000 in
set_option maxRecDepth 100000 in
theorem takeEs10_any (g : Nat) (l : List UInt8) (b : Bool) (n : Int) (K : Nat) (w : World) (h : Rdr w 69 g l b) (hK : (min n 16).toNat = K) (hb : b = true → K = 0) :
    Calls Try.prog 26 #[.pointer (some ⟨g, 0, none⟩), .int .i64 n] w fun e w' => ∃ (A : Option Addr) (m c : Nat) (es : List Ev) (l' : List UInt8) (b' : Bool), e = .returned (.slice A m c) ∧ OwnE w' w.heap.size A m c es ∧ Rdr w' 69 g l' b' ∧ w.grownBy w' (some g) ∧ Hid ((takeEs K l b = some (es, l') ∧ m = K) ∨ (takeEs K l b = none ∧ m < K)) := by
  have gw := h.lt
  have HB := Go.Lib.hid hb
  have HKK := Go.Lib.hid hK
  have h16 : K ≤ 16 := by omega
  have hmin : ∃ M : Int, min n 16 = M ∧ M.toNat = K := ⟨_, rfl, hK⟩
  obtain ⟨M, hM, hMK⟩ := hmin
  clear hb hK
  go_enter Try.func26, Try.ntmps26
  go_wp2_with fail
  go_step3
  go_wp2_with fail
  go_step3
  go_wp2_with fail
  have gr0 : w.grownBy w (some g) := ⟨rfl, rfl, rfl, Nat.le_refl _, fun _ _ _ => rfl⟩
  go_loopw [5, 6, 7, 10] (fun lv _ _ i wr => ∃ (j : Nat) (A : Option Addr) (c : Nat) (es : List Ev) (l' : List UInt8) (b' : Bool), j ≤ K ∧ i = .int .i64 j ∧ lv = .slice A j c ∧ Hid (takeEs K l b = (takeEs (K - j) l' b').map fun q => (es ++ q.1, q.2)) ∧ Hid (b' = true → K = 0) ∧ OwnE wr w.heap.size A j c es ∧ Rdr wr 69 g l' b' ∧ w.grownBy wr (some g)) (fun _ _ _ i _ => K - (intOf i).toNat)
  case atStart => exact ⟨0, none, 0, [], l, b, Nat.zero_le _, rfl, rfl, Go.Lib.hid (by simp), HB, OwnE.nil _ _, h, gr0⟩
  case round =>
    obtain ⟨j, A, c, es, l', b', hj, rfl, rfl, HQ, HBB, oe, rd, gr⟩ := hrel
    clear h gr0
    by_cases hlt : j < K
    · have i1 : (j : Int) < M := by omega
      obtain rfl : b' = false := by
        cases b' with
        | false => rfl
        | true => have := HBB.out rfl; omega
      obtain ⟨k, hk⟩ : ∃ k, K - j = k + 1 := ⟨K - j - 1, by omega⟩
      have hk' : K - (j + 1) = k := by omega
      rw [hk] at HQ
      have HK := Go.Lib.hid hk'
      clear hk hk'
      go_wp2_with fail
      refine (take5_any g l' wr rd).mono ?_
      rintro e w2 ⟨gg, hT⟩
      have gr2 := gr_step' gr gg
      have oe2 := oe.off gg gw
      have gwr := gr.size
      rcases hT with ⟨ev, l'', htk, v, rfl, hv, hok, r2⟩ | ⟨htk, hno, l'', b'', r2⟩
      · obtain ⟨T, nT, cT, F, nF, cF, rfl, o1, o2⟩ := hv
        have hq : takeEs K l b = (takeEs (K - (j + 1)) l'' false).map fun q => ((es ++ [ev]) ++ q.1, q.2) := by
          rw [HQ.out, takeEs_go htk, HK.out]
          simp [Option.map_map, Function.comp_def]
        have HQ2 := Go.Lib.hid hq
        have al : Below w2.heap.size w2 (w2.alloc (.cells #[.string ev.s, .string ev.t, .slice T nT cT, .slice F nF cF] 44)) := (Below.refl _ _).alloc (Nat.le_refl _) _
        have e3 := EvAt.new w2 (.string ev.s) (.string ev.t) (.slice T nT cT) (.slice F nF cF)
        have oe3 := oe2.below al
        have r3 := r2.below al
        have o1' := own_lower (OwnC.below o1 al) (base' := w.heap.size) gwr
        have o2' := own_lower (OwnC.below o2 al) (base' := w.heap.size) gwr
        have gr3 := gr_step gr2 (row := none) ⟨al.os, al.tape, al.output, al.size, fun k hk _ => al.block k hk⟩ (fun r e => by cases e)
        clear hq htk HQ oe rd gg gr2 oe2 r2 o1 o2 al gr
        go_upto_region 5 with (fail)
        generalize w2.alloc (.cells #[.string ev.s, .string ev.t, .slice T nT cT, .slice F nF cF] 44) = w3 at *
        have k0 := e3.c0
        have k1 := e3.c1
        have k2 := e3.c2
        have k3 := e3.c3
        have al4 : Below w3.heap.size w3 (w3.alloc (.cells #[.string ev.s, .string ev.t, .slice T nT cT, .slice F nF cF] 44)) := (Below.refl _ _).alloc (Nat.le_refl _) _
        have r4 := r3.below al4
        have gr4 := gr_step gr3 (row := none) ⟨al4.os, al4.tape, al4.output, al4.size, fun k hk _ => al4.block k hk⟩ (fun r e => by cases e)
        obtain ⟨cs, oc, hlen, hc⟩ := oe3.below al4
        have p1 := OwnC.below o1' al4
        have p2 := OwnC.below o2' al4
        have big : w.heap.size ≤ (w3.alloc (.cells #[.string ev.s, .string ev.t, .slice T nT cT, .slice F nF cF] 44)).heap.size := gr4.size
        have d4 : RdC 4 (w3.alloc (.cells #[.string ev.s, .string ev.t, .slice T nT cT, .slice F nF cF] 44)) (some ⟨w3.heap.size, 0, none⟩) 1 1 [.string ev.s, .string ev.t, .slice T nT cT, .slice F nF cF] := RdC.new w3 44 [.string ev.s, .string ev.t, .slice T nT cT, .slice F nF cF] rfl (by decide)
        have h63 : j + 1 ≤ maxLen := by unfold maxLen; omega
        have hsz : (j + 1) * 80 ≤ 140737488355328 := by omega
        clear oe3 r3 gr3 o1' o2' al4 e3 gwr
        go_wp2_with (at_builtin; refine wpList_append_cells rfl (.tmp 20) (.tmp 22) 22 rfl 44 (.agg #[.string ⟨#[]⟩, .string ⟨#[]⟩, .slice none 0 0, .slice none 0 0]) 80 Try.underlying22 event_info rfl (by decide) rfl rfl oc d4 (ev_one ev _ _ _ _ _ _) h63 hsz big ?_; intro A8 c8 w8 o8 g8 _)
        go_roundw
        case rel =>
          have low := fun r e => row_low oc (r := r) e
          exact ⟨j + 1, A8, c8, es ++ [ev], l'', false, by omega, by go_num, rfl, HQ2, Go.Lib.hid (fun h => by cases h), OwnE.more oc hlen hc p1 p2 o8 g8, rdr_apart r4 g8 (fun r e => by have := low r e; omega), gr_step gr4 g8 (fun r e => low r e)⟩
        case measure => simp [intOf]; omega
      · obtain rfl := hno
        have hnone : takeEs K l b = none := by rw [HQ.out, takeEs_none htk]; rfl
        have HN := Go.Lib.hid hnone
        have al : Below w2.heap.size w2 (w2.alloc (.cells #[.string ⟨#[]⟩, .string ⟨#[]⟩, .slice none 0 0, .slice none 0 0] 44)) := (Below.refl _ _).alloc (Nat.le_refl _) _
        have oe3 := oe2.below al
        have r3 := r2.below al
        have gr3 := gr_step gr2 (row := none) ⟨al.os, al.tape, al.output, al.size, fun k hk _ => al.block k hk⟩ (fun r e => by cases e)
        clear htk HQ oe rd gg gr2 oe2 r2 al gr hnone
        go_upto_region 5 with (fail)
        generalize w2.alloc (.cells #[.string ⟨#[]⟩, .string ⟨#[]⟩, .slice none 0 0, .slice none 0 0] 44) = w3 at *
        go_wp2_with fail
        try rw [Exit.noGoto_ret]
        go_ret
        exact ⟨A, j, c, es, l'', b'', rfl, oe3, r3, gr3, Go.Lib.hid (.inr ⟨HN.out, hlt⟩)⟩
    · obtain rfl : K = j := by omega
      have hq : takeEs K l b = some (es, l') := by
        rw [HQ.out, Nat.sub_self]
        simp [takeEs]
      have i1 : ¬ (K : Int) < M := by omega
      have HQ2 := Go.Lib.hid hq
      clear hq HQ
      go_wp2_with fail
      try rw [Exit.noGoto_ret]
      go_ret
      exact ⟨A, K, c, es, l', b', rfl, oe, rd, gr, Go.Lib.hid (.inl ⟨HQ2.out, rfl⟩)⟩

set_option maxHeartbeats 8000000 in
set_option maxRecDepth 100000 in
theorem take10_any (A0 : Option Addr) (n0 cap0 : Nat) (l : List UInt8) (w : World) (h : Rd w A0 n0 cap0 l) (hl : l.length ≤ 1000000) :
    Calls Try.prog 15 #[.slice A0 n0 cap0] w (TakeXOut l w) := by
  have HL := Go.Lib.hid h.len
  have hn0 : n0 ≤ 1000000 := by rw [← HL.out]; exact hl
  have e1 := BxAt.new w (.int .i64 0) (.slice none 0 0)
  have b1 := batch_bel w (.int .i64 0) (.slice none 0 0)
  have s1 : (w.alloc (.cells #[.int .i64 0, .slice none 0 0] 24)).heap.size = w.heap.size + 1 := by simp
  go_enter Try.func15, Try.ntmps15
  go_upto_region 1 with (fail)
  generalize w.alloc (.cells #[.int .i64 0, .slice none 0 0] 24) = w1 at *
  have h1 := h.below b1
  have S1 := Go.Lib.hid s1
  clear s1
  go_wp2_with fail
  refine (newReader_any A0 n0 cap0 l w1 h1 (by omega)).mono ?_
  rintro e w10 ⟨g, rfl, hg, hy, b10⟩
  have hwg : w.heap.size < g := by have := S1.out; omega
  have e10 := e1.below b10
  have B10 := below_chain b1 b10
  have s10 := hy.lt
  clear h1 e1 b1 S1 b10 hg
  go_wp2_with fail
  refine (num_any g l false w10 hy).mono ?_
  rintro e w11 ⟨rfl, r11, g11⟩
  have e11 := e10.grown g11 (by simp; omega)
  have B11 := B10.grown g11 B10.size (by rintro q ⟨rfl⟩; omega)
  have s11 : g < w11.heap.size := Nat.lt_of_lt_of_le s10 g11.size
  clear hy e10 B10 g11 s10
  have bx := batch_bel w11 (.int .i64 (numV l)) (.slice none 0 0)
  have t12 : RtAt 69 (w11.alloc (.cells #[.int .i64 (numV l), .slice none 0 0] 24)) w g (numL l) (numB l false) w11.heap.size (numV l) none 0 0 [] :=
    ⟨r11.below bx, e11.below bx, BxAt.new w11 _ _, OwnE.nil _ _, below_chain B11 bx, hwg, s11⟩
  clear bx r11 e11 B11
  have hA0 := numV_range l
  go_upto_region 3 with (fail)
  generalize w11.alloc (.cells #[.int .i64 (numV l), .slice none 0 0] 24) = w12 at *
  generalize w11.heap.size = gx at *
  go_wp2_with fail
  refine (num_any g (numL l) (numB l false) w12 t12.rd).mono ?_
  rintro e w13 ⟨rfl, r13, g13⟩
  have t13 := t12.read r13 g13
  clear t12 r13 g13
  have hN := numV_range (numL l)
  have HF : Hid (∀ x, takeX l = some x → ((min (numV (numL l)) 16).toNat : Int) = numV (numL l) ∧ takeEs (min (numV (numL l)) 16).toNat (numL (numL l)) (numB (numL l) (numB l false)) = some (x.es, []) ∧ mayX ⟨numV l, x.es⟩ = 0) := Go.Lib.hid fun x h => take_find h
  have HO : Hid (∀ es, numV (numL l) = ((es : List Ev).length : Int) → takeEs es.length (numL (numL l)) (numB (numL l) (numB l false)) = some (es, []) → mayX ⟨numV l, es⟩ = 0 → takeX l = some ⟨numV l, es⟩) := Go.Lib.hid fun es h1 h2 h3 => takeX_of h1 h2 h3
  have hbb : numB (numL l) (numB l false) = true → (min (numV (numL l)) 16).toNat = 0 := by
    intro hc
    have h0 : numV (numL l) = 0 := by
      by_cases h2 : numB l false = true
      · rw [(num_bad h2).2]
        rfl
      · have h3 : numB l false = false := by simpa using h2
        rw [h3] at hc
        exact (num_bad hc).1
    rw [h0]
    rfl
  have HBB := Go.Lib.hid hbb
  clear hbb
  generalize numV l = a at *
  generalize numV (numL l) = n at *
  generalize hl2 : numL (numL l) = l2 at *
  generalize hb2 : numB (numL l) (numB l false) = b2 at *
  generalize hK : (min n 16).toNat = K at *
  clear hl2 hb2
  go_wp2_with fail
  refine (takeEs10_any g l2 b2 n K w13 t13.rd hK HBB.out).mono ?_
  rintro e w14 ⟨A, m, c, es, l', b', rfl, oe, r14, g14, HE⟩
  have t14 := t13.read r14 g14
  have oe' := oe.lower (base' := gx + 1) t13.bx.lt
  have h2 := t14.hg
  have hgx0 := t13.hw
  have y1 := t14.bx.c1
  have zf := t14.bx.frozen 1
  have hs := grown_set w14 gx 1 (.slice A m c)
  have t15 : RtAt 69 (w14.setCell ⟨gx, 1, none⟩ (.slice A m c)) w g l' b' gx a A m c es :=
    ⟨rdr_apart r14 hs (fun r e => by injection e; omega), t14.res.far (by omega) _, t14.bx.set1 _, oe'.off hs (by omega), t14.bel.setCell (by show w.heap.size ≤ gx; omega) _, hwg, h2⟩
  clear t13 t14 oe oe' r14 g14 hs HBB
  go_upto_region 5 with (fail)
  generalize w14.setCell ⟨gx, 1, none⟩ (.slice A m c) = w15 at *
  clear y1 zf
  have y0 := t15.bx.c0
  have y1 := t15.bx.c1
  have q0 := t15.res.c0
  have q1 := t15.res.c1
  have z0 := t15.res.frozen 0
  have z1 := t15.res.frozen 1
  have HLn := Go.Lib.hid t15.own.len
  by_cases hmn : (m : Int) = n
  case neg =>
    have hnone : takeX l = none := by
      cases hx : takeX l with
      | none => rfl
      | some x =>
        obtain ⟨f1, f2, f3⟩ := HF.out x hx
        rcases HE.out with ⟨_, h4⟩ | ⟨h3, _⟩
        · rw [h4] at hmn
          exact absurd f1 hmn
        · rw [h3] at f2
          cases f2
    have HNONE := Go.Lib.hid hnone
    have i1 : ((m : Int) != n) = true := by rw [bne_iff_ne]; exact hmn
    have HFIN := Go.Lib.hid (t15.fin (.int .i64 0) (.slice none 0 0) _ rfl)
    clear hnone hmn HF HO t15
    go_wp2_with fail
    obtain ⟨E9, _, B9⟩ := HFIN.out
    generalize ((w15.setCell ⟨w.heap.size, 0, none⟩ (.int .i64 0)).setCell ⟨w.heap.size, 1, none⟩ (.slice none 0 0)) = w9 at *
    have y0 := E9.c0
    have y1 := E9.c1
    exact bodyPost_ret (v := .tuple #[.agg #[.int .i64 0, .slice none 0 0], .int .i64 2]) (by simp [results, Try.results15, go_sem, y0, y1]) rfl ⟨B9, .inr ⟨HNONE.out, rfl⟩⟩
  subst hmn
  by_cases hl' : l' = []
  case neg =>
    have hnone : takeX l = none := by
      cases hx : takeX l with
      | none => rfl
      | some x =>
        obtain ⟨f1, f2, f3⟩ := HF.out x hx
        rcases HE.out with ⟨h3, h4⟩ | ⟨h3, _⟩
        · rw [h3] at f2
          simp only [Option.some.injEq, Prod.mk.injEq] at f2
          exact absurd f2.2 hl'
        · rw [h3] at f2
          cases f2
    have HNONE := Go.Lib.hid hnone
    have hpos : 0 < l'.length := List.length_pos_iff.2 hl'
    have lf := left_any g l' b' w15 t15.rd
    generalize l'.length = k at *
    have i2 : (0 : Int) < k := by omega
    have HFIN := Go.Lib.hid (t15.fin (.int .i64 0) (.slice none 0 0) _ rfl)
    have LF := Go.Lib.hid lf
    clear hnone hl' HF HO t15 lf hpos
    go_wp2_with fail
    refine (LF.out).mono ?_
    rintro e w16 ⟨rfl, rfl⟩
    go_wp2_with fail
    obtain ⟨E9, _, B9⟩ := HFIN.out
    generalize ((w15.setCell ⟨w.heap.size, 0, none⟩ (.int .i64 0)).setCell ⟨w.heap.size, 1, none⟩ (.slice none 0 0)) = w9 at *
    have y0 := E9.c0
    have y1 := E9.c1
    exact bodyPost_ret (v := .tuple #[.agg #[.int .i64 0, .slice none 0 0], .int .i64 2]) (by simp [results, Try.results15, go_sem, y0, y1]) rfl ⟨B9, .inr ⟨HNONE.out, rfl⟩⟩
  subst hl'
  have hes : takeEs K l2 b2 = some (es, []) ∧ m = K := by
    rcases HE.out with h3 | ⟨_, h4⟩
    · exact h3
    · omega
  have hev := (takeEs_canon _ _ _ _ _ hes.1).2.2.1
  have hbk : BOk ⟨a, es⟩ := ⟨fun e he => evOk_may (hev e he), hA0⟩
  have iv : IsB w15 (.agg #[.int .i64 a, .slice A m c]) ⟨a, es⟩ := ⟨_, _, _, rfl, t15.own.rd⟩
  have HES := Go.Lib.hid hes
  have lf := left_any g [] b' w15 t15.rd
  have LF := Go.Lib.hid lf
  clear hes hev lf
  go_wp2_with fail
  refine (LF.out).mono ?_
  rintro e w16 ⟨rfl, rfl⟩
  go_wp2_with fail
  refine (may10_any _ ⟨a, es⟩ w15 iv hbk).mono ?_
  rintro e w17 ⟨rfl, b17⟩
  have t17 := t15.below b17
  clear y0 y1 q0 q1 z0 z1 iv t15 b17 LF
  have y0 := t17.bx.c0
  have y1 := t17.bx.c1
  have q0 := t17.res.c0
  have q1 := t17.res.c1
  have z0 := t17.res.frozen 0
  have z1 := t17.res.frozen 1
  by_cases h0 : mayX ⟨a, es⟩ = 0
  · have hyes : takeX l = some ⟨a, es⟩ := HO.out es (by rw [HLn.out]) (by rw [HLn.out, HES.out.2]; exact HES.out.1) h0
    have HY := Go.Lib.hid hyes
    have HFIN := Go.Lib.hid (t17.fin (.int .i64 a) (.slice A m c) _ rfl)
    rw [h0]
    clear hyes h0 HF HO t17 HE
    go_wp2_with fail
    obtain ⟨E9, O9, B9⟩ := HFIN.out
    generalize ((w17.setCell ⟨w.heap.size, 0, none⟩ (.int .i64 a)).setCell ⟨w.heap.size, 1, none⟩ (.slice A m c)) = w9 at *
    have y0 := E9.c0
    have y1 := E9.c1
    exact bodyPost_ret (v := .tuple #[.agg #[.int .i64 a, .slice A m c], .int .i64 0]) (by simp [results, Try.results15, go_sem, y0, y1]) rfl ⟨B9, .inl ⟨_, _, _, _, HY.out, rfl, O9.rd⟩⟩
  · have hnone : takeX l = none := by
      cases hx : takeX l with
      | none => rfl
      | some x =>
        obtain ⟨f1, f2, f3⟩ := HF.out x hx
        rw [HES.out.1] at f2
        simp only [Option.some.injEq, Prod.mk.injEq] at f2
        rw [← f2.1] at f3
        exact absurd f3 h0
    have HNONE := Go.Lib.hid hnone
    have i3 : (mayX ⟨a, es⟩ != 0) = true := by rw [bne_iff_ne]; exact h0
    have HFIN := Go.Lib.hid (t17.fin (.int .i64 0) (.slice none 0 0) _ rfl)
    clear hnone h0 HF HO t17 HE
    generalize mayX ⟨a, es⟩ = M at *
    go_wp2_with fail
    obtain ⟨E9, _, B9⟩ := HFIN.out
    generalize ((w17.setCell ⟨w.heap.size, 0, none⟩ (.int .i64 0)).setCell ⟨w.heap.size, 1, none⟩ (.slice none 0 0)) = w9 at *
    have y0 := E9.c0
    have y1 := E9.c1
    exact bodyPost_ret (v := .tuple #[.agg #[.int .i64 0, .slice none 0 0], .int .i64 2]) (by simp [results, Try.results15, go_sem, y0, y1]) rfl ⟨B9, .inr ⟨HNONE.out, rfl⟩⟩

theorem bApi : BApi := ⟨may10_any, put10_any, take10_any⟩

end Go.Proofs.Ytjoifkmcfenhpaa.BtWalk

/-
  Walk of a statement of layer 10: BatchPuts.
-/
namespace Go.Proofs.Ytjoifkmcfenhpaa.BtWalk
open Go.RowKit Go.WideShapes Go.ChangeShapes Go.Proofs.Ytjoifkmcfenhpaa.MemRow Go.Proofs.Ytjoifkmcfenhpaa.Ev Go.Proofs.Ytjoifkmcfenhpaa.NameMath Go.Proofs.Ytjoifkmcfenhpaa.NameWalk Go.Proofs.Ytjoifkmcfenhpaa.EvWalk Go.Proofs.Ytjoifkmcfenhpaa.NumMath Go.Proofs.Ytjoifkmcfenhpaa.NumMem Go.Proofs.Ytjoifkmcfenhpaa.NumWalk Go.Proofs.Ytjoifkmcfenhpaa.EcWalk Go.Proofs.Ytjoifkmcfenhpaa.EdWalk Go.Proofs.Ytjoifkmcfenhpaa.EeLaw Go.Proofs.Ytjoifkmcfenhpaa.Open

set_option maxHeartbeats 8000000 in
set_option maxRecDepth 100000 in
theorem puts_walk (F : BApi) (v : Value) (x : Bat) (w : World) (hv : IsB w v x) (hok : BOk x) :
    Calls Try.prog 3 #[v] w fun e w' => e = .returned (.bool true) ∧ Below w.heap.size w w' := by
  have hv0 := hv
  obtain ⟨A, n, ca, rfl, _⟩ := hv
  have s1 := BoxB.new w (.int .i64 x.a) (.slice A n ca)
  go_enter Try.func3, Try.ntmps3
  go_wp2_with fail
  generalize w.alloc (.cells #[.int .i64 x.a, .slice A n ca] 24) = w1 at *
  refine (shown10_any F _).mono ?_
  rintro e w2 ⟨rfl, b2⟩
  have s2 := s1.below b2
  have k0 := s2.eq.c0
  have k1 := s2.eq.c1
  have hlt2 := s2.eq.lt
  clear s1 b2
  go_wp2_with fail
  refine (few10_any _ x w w2 hv0 s2.bel).mono ?_
  rintro e w3 ⟨A3, n3, c3, rfl, o3, b3⟩
  have s3 := s2.below b3
  have k0 := s3.eq.c0
  have k1 := s3.eq.c1
  have z0 := s3.eq.frozen 0
  have z1 := s3.eq.frozen 1
  have s4 := s3.all (.int .i64 x.a) (.slice A3 n3 c3)
  have o4 := o3.setB (g := w.heap.size) (by omega) (.int .i64 x.a) (.slice A3 n3 c3)
  have hok4 := fewX_ok hok
  unfold fewX at hok4
  clear s2 b3 s3 o3 hok
  go_upto_region 3 with (fail)
  generalize (w3.setCell ⟨w.heap.size, 0, none⟩ (.int .i64 x.a)).setCell ⟨w.heap.size, 1, none⟩ (.slice A3 n3 c3) = w4 at *
  generalize fewEs x.es = fs at *
  generalize x.a = a at *
  clear k0 k1 z0 z1
  have k0 := s4.eq.c0
  have k1 := s4.eq.c1
  have i4 : IsB w4 (.agg #[.int .i64 a, .slice A3 n3 c3]) ⟨a, fs⟩ := o4.isb s4.bel
  go_wp2_with fail
  refine (F.put _ ⟨a, fs⟩ w4 i4 hok4).mono ?_
  rintro e w5 hp
  obtain ⟨A5, m5, c5, rfl, r5, b5⟩ := putX_one hp
  have s5 := s4.below b5
  have i5 := i4.below b5
  clear hp k0 k1 s4 o4 i4 b5
  have k0 := s5.eq.c0
  have k1 := s5.eq.c1
  go_wp2_with fail
  refine (refPutX_any _ ⟨a, fs⟩ w5 i5 hok4).mono ?_
  rintro e w6 hp
  obtain ⟨A6, m6, c6, rfl, r6, b6⟩ := putX_one hp
  have s6 := s5.below b6
  have i6 := i5.below b6
  have r56 := r5.below b6
  clear hp k0 k1 s5 i5 r5 b6
  have k0 := s6.eq.c0
  have k1 := s6.eq.c1
  have FM := Go.Lib.hid (fun v W h => F.may v ⟨a, fs⟩ W h hok4)
  have FR := Go.Lib.hid (fun v W h => refMayX_any v ⟨a, fs⟩ W h hok4)
  generalize mayX ⟨a, fs⟩ = M at *
  generalize pX ⟨a, fs⟩ = px at *
  have b0 : Below w6.heap.size w6 w6.drew := bel_drew (Below.refl _ _)
  have i60 := i6.below b0
  have e5 := rd_str (r56.below b0)
  have e6 := rd_str (r6.below b0)
  go_upto_region 5 with (fail)
  go_region_held (fun w' => w'.cell? ⟨w.heap.size, 0, none⟩ = some (.int .i64 a) ∧ w'.cell? ⟨w.heap.size, 1, none⟩ = some (.slice A3 n3 c3) ∧ (convert 27 9 (.slice A5 m5 c5)).run Try.prog w' = .ok (.string ⟨px.toArray⟩) w' ∧ (convert 27 9 (.slice A6 m6 c6)).run Try.prog w' = .ok (.string ⟨px.toArray⟩) w')
    (first | exact ⟨k0, k1, e5, e6⟩ | exact ⟨bcell b7 k0, bcell b7 k1, rd_str (r56.below b7), rd_str (r6.below b7)⟩ | exact ⟨bcell b8 k0, bcell b8 k1, rd_str (r56.below b8), rd_str (r6.below b8)⟩)
    (first
      | (go_at_call 14; refine (FR.out _ w7 (i60.below bw7)).mono ?_; rintro e w8 ⟨rfl, bb⟩; have b8 := below_chain b7 bb; clear bb)
      | (go_at_call 13; refine (FM.out _ w6.drew i60).mono ?_; rintro e w7 ⟨rfl, bb⟩; have bw7 := bb; have b7 := below_chain b0 bb; clear bb))
  have BZ := below_chain s6.bel b8
  go_wp2_with fail
  go_ret
  exact ⟨by simp, BZ⟩

section
variable {H : Type} {enc : TypeId × Value → H}
set_option maxRecDepth 100000 in
theorem puts_main (F : BApi) (W : World) (base : Nat) (v0 : Value) {d0 : DataW H} {p0 : List MemPlace} (o0 : Value.okWide Try.prog W .any base 24 v0)
    (h0 : DataW.Trod enc Try.prog W 0 (fun _ => true) true 24 v0 d0 p0) :
    Calls Try.prog 3 #[v0] W fun e W' => e = .returned (.bool true) ∧ Below W.heap.size W W' := by
  obtain ⟨x, hv, hok⟩ := op_batch o0 h0
  exact puts_walk F v0 x W hv hok
end

end Go.Proofs.Ytjoifkmcfenhpaa.BtWalk

/-
  Walk of a statement of layer 10: BatchTakes.
-/
namespace Go.Proofs.Ytjoifkmcfenhpaa.BtWalk
open Go.RowKit Go.WideShapes Go.ChangeShapes Go.Proofs.Ytjoifkmcfenhpaa.MemRow Go.Proofs.Ytjoifkmcfenhpaa.Ev Go.Proofs.Ytjoifkmcfenhpaa.NameMath Go.Proofs.Ytjoifkmcfenhpaa.NameWalk Go.Proofs.Ytjoifkmcfenhpaa.EvWalk Go.Proofs.Ytjoifkmcfenhpaa.NumMath Go.Proofs.Ytjoifkmcfenhpaa.NumMem Go.Proofs.Ytjoifkmcfenhpaa.NumWalk Go.Proofs.Ytjoifkmcfenhpaa.EcWalk Go.Proofs.Ytjoifkmcfenhpaa.EdWalk Go.Proofs.Ytjoifkmcfenhpaa.EeLaw Go.Proofs.Ytjoifkmcfenhpaa.Open

theorem sameX_true (v u : Value) (x : Bat) (w : World) (hv : IsB w v x) (hu : IsB w u x) : Calls Try.prog 17 #[v, u] w fun e w' => e = .returned (.bool true) ∧ Below w.heap.size w w' := by
  refine (refSameX_any v u x x w hv hu).mono ?_
  rintro e w' ⟨R, hR, rfl, b⟩
  obtain rfl : R = true := hR.2 rfl
  exact ⟨rfl, b⟩

set_option maxHeartbeats 8000000 in
set_option maxRecDepth 100000 in
theorem takes_walk (F : BApi) (A : Option Addr) (n cap : Nat) (l : List UInt8) (w : World) (hl : Rd w A n cap l) :
    Calls Try.prog 4 #[.slice A n cap] w fun e w' => e = .returned (.bool true) ∧ Below w.heap.size w w' := by
  have hcap := hl.le_cap
  have hmax := hl.2.2.1
  unfold maxLen at hmax
  go_enter Try.func4, Try.ntmps4
  go_wp2_with fail
  refine (shown10_any F _).mono ?_
  rintro e w1 ⟨rfl, B1⟩
  have r1 := hl.below B1
  go_upto_if 12 with (fail)
  go_cut [0] (fun v wx => w1 = wx ∧ ∃ A' n' cap' l', v = .slice A' n' cap' ∧ n' ≤ 1500 ∧ Rd w1 A' n' cap' l')
  case first =>
    go_wp2_with fail
    · go_meet
      exact ⟨rfl, _, _, _, _, rfl, by omega, r1.first (by omega)⟩
    · go_meet
      exact ⟨rfl, _, _, _, _, rfl, by omega, r1⟩
  case rest =>
    obtain ⟨rfl, A', n', cap', l', rfl, hn', r2⟩ := hcut
    clear r1 hl hcap hmax
    have hln := r2.len
    have hll : l'.length ≤ 1000000 := by omega
    have HLL := Go.Lib.hid hll
    have ba : Below w1.heap.size w1 (w1.alloc (.cells #[] 5)) := (Below.refl _ _).alloc (Nat.le_refl _) _
    have r3 := r2.below ba
    clear hln hll
    go_wp2_with (first
      | (at_builtin; refine wpList_append_fresh rfl (.tmp 16) (.tmp 17) 27 rfl 5 Try.underlying27 u8_info rfl rfl (Own.empty w1 5 (Nat.le_refl _)) r3 (by omega) ba.size w1 ba ?_; intro A5 c5 w5 o5 b5))
    have B5 := below_chain B1 b5
    have r5 := r2.below b5
    refine (F.take _ _ _ l' _ o5.rd HLL.out).mono ?_
    rintro e w6 ht
    obtain ⟨A6, m6, c6, rfl, r6, b6⟩ := takeX_one ht
    have r56 := r5.below b6
    have B6 := below_chain B5 b6
    clear r2 r3 ba o5 b5 B5 B1 ht r5 b6
    have al := batch_bel w6 (.int .i64 (tkX l').a) (.slice A6 m6 c6)
    have x7 := BxAt.new w6 (.int .i64 (tkX l').a) (.slice A6 m6 c6)
    have r67 := r6.below al
    have r57 := r56.below al
    have B7 := below_chain B6 al
    clear r6 r56 B6 al
    go_upto_region 5 with (fail)
    generalize w6.alloc (.cells #[.int .i64 (tkX l').a, .slice A6 m6 c6] 24) = w7 at *
    generalize w6.heap.size = gx at *
    go_wp2_with fail
    refine (refTakeX_any _ _ _ l' w7 r57 HLL.out).mono ?_
    rintro e w8 ht
    obtain ⟨A8, m8, c8, rfl, r8, b8⟩ := takeX_one ht
    have x8 := x7.below b8
    have r68 := r67.below b8
    have B8 := below_chain B7 b8
    clear ht r57 r67 x7 B7 b8
    have al := batch_bel w8 (.int .i64 (tkX l').a) (.slice A8 m8 c8)
    have y9 := BxAt.new w8 (.int .i64 (tkX l').a) (.slice A8 m8 c8)
    have x9 := x8.below al
    have r69 := r68.below al
    have r89 := r8.below al
    have B9 := below_chain B8 al
    clear r8 r68 x8 B8 al
    go_upto_region 6 with (fail)
    generalize w8.alloc (.cells #[.int .i64 (tkX l').a, .slice A8 m8 c8] 24) = w9 at *
    generalize w8.heap.size = gy at *
    have k0 := x9.c0
    have k1 := x9.c1
    have j0 := y9.c0
    have j1 := y9.c1
    have i1 : IsB w9 (.agg #[.int .i64 (tkX l').a, .slice A6 m6 c6]) (tkX l') := ⟨_, _, _, rfl, r69⟩
    have i2 : IsB w9 (.agg #[.int .i64 (tkX l').a, .slice A8 m8 c8]) (tkX l') := ⟨_, _, _, rfl, r89⟩
    clear x9 y9 r69 r89
    generalize tkX l' = tx at *
    generalize tkN l' = tn at *
    go_wp2_with fail
    refine (sameX_true _ _ tx w9 i1 i2).mono ?_
    rintro e w10 ⟨rfl, b10⟩
    have B10 := below_chain B9 b10
    go_wp2_with fail
    go_ret
    exact ⟨by simp, B10⟩

section
variable {H : Type} {enc : TypeId × Value → H}
set_option maxRecDepth 100000 in
theorem takes_main (F : BApi) (W : World) (base : Nat) (v0 : Value) {d0 : DataW H} {p0 : List MemPlace} (o0 : Value.okWide Try.prog W .any base 27 v0)
    (h0 : DataW.Trod enc Try.prog W 0 (fun _ => true) true 27 v0 d0 p0) :
    Calls Try.prog 4 #[v0] W fun e W' => e = .returned (.bool true) ∧ Below W.heap.size W W' := by
  obtain ⟨A, n, cap, l, rfl, hl⟩ := op_bytes Try.underlying27 Try.underlying5 (by kernel_rfl) o0 h0
  exact takes_walk F A n cap l W hl
end

end Go.Proofs.Ytjoifkmcfenhpaa.BtWalk

/-
  Walk of a statement of layer 10: BatchBack.
-/
namespace Go.Proofs.Ytjoifkmcfenhpaa.BtWalk
open Go.RowKit Go.WideShapes Go.ChangeShapes Go.Proofs.Ytjoifkmcfenhpaa.MemRow Go.Proofs.Ytjoifkmcfenhpaa.Ev Go.Proofs.Ytjoifkmcfenhpaa.NameMath Go.Proofs.Ytjoifkmcfenhpaa.NameWalk Go.Proofs.Ytjoifkmcfenhpaa.EvWalk Go.Proofs.Ytjoifkmcfenhpaa.NumMath Go.Proofs.Ytjoifkmcfenhpaa.NumMem Go.Proofs.Ytjoifkmcfenhpaa.NumWalk Go.Proofs.Ytjoifkmcfenhpaa.EcWalk Go.Proofs.Ytjoifkmcfenhpaa.EdWalk Go.Proofs.Ytjoifkmcfenhpaa.EeLaw Go.Proofs.Ytjoifkmcfenhpaa.Open

set_option maxHeartbeats 8000000 in
set_option maxRecDepth 100000 in
theorem back_walk (F : BApi) (v : Value) (x : Bat) (at_ : Int) (by_ : UInt8) (w : World) (hv : IsB w v x) (hok : BOk x) (ha : -9223372036854775808 ≤ at_ ∧ at_ ≤ 9223372036854775807) :
    Calls Try.prog 5 #[v, .int .i64 at_, .int .u8 (by_.toNat : Int)] w fun e w' => e = .returned (.bool true) ∧ Below w.heap.size w w' := by
  have hv0 := hv
  obtain ⟨A, n, ca, rfl, _⟩ := hv
  have s1 := BoxB.new w (.int .i64 x.a) (.slice A n ca)
  go_enter Try.func5, Try.ntmps5
  go_wp2_with fail
  generalize w.alloc (.cells #[.int .i64 x.a, .slice A n ca] 24) = w1 at *
  refine (shown10_any F _).mono ?_
  rintro e w2 ⟨rfl, b2⟩
  have s2 := s1.below b2
  have k0 := s2.eq.c0
  have k1 := s2.eq.c1
  have hlt2 := s2.eq.lt
  clear s1 b2
  go_wp2_with fail
  refine (few10_any _ x w w2 hv0 s2.bel).mono ?_
  rintro e w3 ⟨A3, n3, c3, rfl, o3, b3⟩
  have s3 := s2.below b3
  have k0 := s3.eq.c0
  have k1 := s3.eq.c1
  have z0 := s3.eq.frozen 0
  have z1 := s3.eq.frozen 1
  have s4 := s3.all (.int .i64 x.a) (.slice A3 n3 c3)
  have o4 := o3.setB (g := w.heap.size) (by omega) (.int .i64 x.a) (.slice A3 n3 c3)
  have hok4 := fewX_ok hok
  unfold fewX at hok4
  clear s2 b3 s3 o3 hok
  go_upto_region 3 with (fail)
  generalize (w3.setCell ⟨w.heap.size, 0, none⟩ (.int .i64 x.a)).setCell ⟨w.heap.size, 1, none⟩ (.slice A3 n3 c3) = w4 at *
  generalize fewEs x.es = fs at *
  generalize x.a = a at *
  clear k0 k1 z0 z1
  have k0 := s4.eq.c0
  have k1 := s4.eq.c1
  have i4 : IsB w4 (.agg #[.int .i64 a, .slice A3 n3 c3]) ⟨a, fs⟩ := o4.isb s4.bel
  go_wp2_with fail
  refine (F.put _ ⟨a, fs⟩ w4 i4 hok4).mono ?_
  rintro e w5 ⟨b5, hp⟩
  have s5 := s4.below b5
  have i5 := i4.below b5
  clear k0 k1 s4 o4 i4 b5 hok4
  rcases hp with ⟨h0, A5, c5, rfl, r5⟩ | ⟨h0, rfl⟩
  case inr =>
    have m0 : (mayX ⟨a, fs⟩ != 0) = true := by rw [bne_iff_ne]; exact h0
    clear h0
    generalize mayX ⟨a, fs⟩ = M at *
    go_wp2_with fail
    go_ret
    exact ⟨rfl, s5.bel⟩
  have H0 := Go.Lib.hid h0
  have hle := encX_le h0
  have T1 := Go.Lib.hid (tk_yes (takeX_encX h0))
  have T2 := Go.Lib.hid (tk_no (takeX_more h0 (r := [by_]) (by simp)))
  have T3 := Go.Lib.hid (fun (k : Nat) (hk : k < (encX ⟨a, fs⟩).length) => tk_no (takeX_cut h0 (p := (encX ⟨a, fs⟩).take k) (r := (encX ⟨a, fs⟩).drop k) (List.take_append_drop _ _) (fun e => by
    have := congrArg List.length e
    rw [List.length_drop, List.length_nil] at this
    omega)))
  clear h0
  generalize encX ⟨a, fs⟩ = lx at *
  generalize hm : lx.length = m at *
  have HM := Go.Lib.hid hm
  clear hm
  have hl1 : lx.length ≤ 1000000 := by rw [HM.out]; omega
  have HL1 := Go.Lib.hid hl1
  clear hl1
  go_wp2_with fail
  refine (F.take A5 m c5 lx w5 r5 HL1.out).mono ?_
  rintro e w6 ht
  obtain ⟨A6, m6, c6, rfl, r6, b6⟩ := takeX_one ht
  rw [T1.out.1] at r6 ⊢
  rw [T1.out.2]
  simp only at r6 ⊢
  have s6 := s5.below b6
  have i6 := i5.below b6
  have r56 := r5.below b6
  clear ht s5 i5 r5 b6 T1
  have al := batch_bel w6 (.int .i64 a) (.slice A6 m6 c6)
  have x7 := BxAt.new w6 (.int .i64 a) (.slice A6 m6 c6)
  have s7 := s6.below al
  have i7 := i6.below al
  have r57 := r56.below al
  have r67 := r6.below al
  clear s6 i6 r56 r6 al
  go_upto_region 7 with (fail)
  generalize w6.alloc (.cells #[.int .i64 a, .slice A6 m6 c6] 24) = w7 at *
  generalize w6.heap.size = gy at *
  have k0 := s7.eq.c0
  have k1 := s7.eq.c1
  have j0 := x7.c0
  have j1 := x7.c1
  have iy : IsB w7 (.agg #[.int .i64 a, .slice A6 m6 c6]) ⟨a, fs⟩ := ⟨_, _, _, rfl, r67⟩
  go_wp2_with fail
  refine (sameX_true _ _ ⟨a, fs⟩ w7 i7 iy).mono ?_
  rintro e w8 ⟨rfl, b8⟩
  have B8 := below_chain s7.bel b8
  have r8 := r57.below b8
  clear k0 k1 j0 j1 iy i7 s7 x7 r67 r57 b8
  have al : Below w8.heap.size w8 (w8.alloc (.cells #[] 5)) := (Below.refl _ _).alloc (Nat.le_refl _) _
  have r8' := r8.below al
  have hm2 : m + 1 ≤ 140737488355328 := by omega
  go_wp2_with (first
    | (at_builtin; refine wpList_append_fresh rfl (.tmp 42) (.tmp 43) 27 rfl 5 Try.underlying27 u8_info rfl rfl (Own.empty w8 5 (Nat.le_refl _)) r8' (by omega) al.size w8 al ?_; intro A9 c9 w9 o9 b9; have be : Below w9.heap.size w9 (w9.alloc (.cells (cellsOf [by_]).toArray 5)) := (Below.refl _ _).alloc (Nat.le_refl _) _; have o9' := o9.below be; have d9 := (Row.new w9 5 [by_]).rd (by show 1 ≤ maxLen; decide); have b9' := below_chain b9 be)
    | (at_builtin; refine wpList_append_more rfl (.tmp 44) (.tmp 46) 27 rfl 5 Try.underlying27 u8_info rfl rfl o9' d9 hm2 b9'.size w8 b9' ?_; intro A10 c10 w10 o10 b10))
  have B10 := below_chain B8 b10
  have r10 := o10.rd
  have r810 := r8.below b10
  have hl2 : (lx ++ [by_]).length ≤ 1000000 := by rw [List.length_append, HM.out]; simp; omega
  clear B8 r8 r8' al o9 b9 be o9' d9 b9' o10 b10 hm2
  refine (F.take A10 (m + 1) c10 _ w10 r10 hl2).mono ?_
  rintro e w11 ht
  obtain ⟨A11, m11, c11, rfl, r11, b11⟩ := takeX_one ht
  rw [T2.out.1, T2.out.2]
  have B11 := below_chain B10 b11
  have r811 := r810.below b11
  have al := batch_bel w11 (.int .i64 noBat.a) (.slice A11 m11 c11)
  have B12 := below_chain B11 al
  have r812 := r811.below al
  clear ht B10 r10 r810 hl2 r11 b11 T2 B11 r811 al
  go_upto_region 9 with (fail)
  generalize w11.alloc (.cells #[.int .i64 noBat.a, .slice A11 m11 c11] 24) = w12 at *
  by_cases hneg : at_ < 0
  · go_wp2_with fail
    go_ret
    exact ⟨rfl, B12⟩
  obtain ⟨k, rfl⟩ := Int.eq_ofNat_of_zero_le (by omega : 0 ≤ at_)
  by_cases hge : m ≤ k
  · have i3 : (m : Int) ≤ (k : Int) := by omega
    go_wp2_with fail
    go_ret
    exact ⟨rfl, B12⟩
  have i3 : ¬ (m : Int) ≤ (k : Int) := by omega
  have i0 : ¬ (k : Int) < 0 := by omega
  have hkm : k ≤ m := by omega
  have T4 := Go.Lib.hid (T3.out k (by omega))
  have qs := slice_upto A5 m c5 k (by have := r812.le_cap; omega)
  have rk := r812.first hkm
  have hl3 : (lx.take k).length ≤ 1000000 := by rw [List.length_take]; have := HL1.out; omega
  have HL3 := Go.Lib.hid hl3
  clear hneg hge hkm hl3 r812 T3
  generalize lx.take k = lk at *
  go_wp2_with fail
  refine (F.take A5 k c5 lk w12 rk HL3.out).mono ?_
  rintro e w13 ht
  obtain ⟨A13, m13, c13, rfl, r13, b13⟩ := takeX_one ht
  rw [T4.out.1, T4.out.2]
  have B13 := below_chain B12 b13
  have B14 := below_chain B13 (batch_bel w13 (.int .i64 noBat.a) (.slice A13 m13 c13))
  clear ht T4 rk qs r13 b13
  go_wp2_with fail
  go_ret
  exact ⟨rfl, B14⟩

section
variable {H : Type} {enc : TypeId × Value → H}
set_option maxRecDepth 100000 in
theorem back_main (F : BApi) (W : World) (base : Nat) (v0 v1 v2 : Value) {d0 d1 d2 : DataW H} {p0 p1 p2 : List MemPlace} (o0 : Value.okWide Try.prog W .any base 24 v0) (o1 : Value.okWide Try.prog W .any base 3 v1) (o2 : Value.okWide Try.prog W .any base 5 v2)
    (h0 : DataW.Trod enc Try.prog W 0 (fun _ => true) true 24 v0 d0 p0) (h1 : DataW.Trod enc Try.prog W 0 (fun _ => true) true 3 v1 d1 p1) (h2 : DataW.Trod enc Try.prog W 0 (fun _ => true) true 5 v2 d2 p2) :
    Calls Try.prog 5 #[v0, v1, v2] W fun e W' => e = .returned (.bool true) ∧ Below W.heap.size W W' := by
  obtain ⟨x, hv, hok⟩ := op_batch o0 h0
  obtain ⟨a, rfl, ha0, ha1⟩ := op_i64 Try.underlying3 o1 h1
  obtain ⟨y, rfl, wx⟩ := op_int Try.underlying5 o2 h2
  have hb := bounds_u8 wx
  obtain ⟨k, rfl⟩ := Int.eq_ofNat_of_zero_le hb.1
  have hk : k < 256 := by omega
  have hu : ((k.toUInt8).toNat : Int) = (k : Int) := by rw [toU8 hk]
  have := back_walk F v0 x a k.toUInt8 W hv hok ⟨ha0, ha1⟩
  rw [hu] at this
  exact this
end

end Go.Proofs.Ytjoifkmcfenhpaa.BtWalk

/-
  Walk of a statement of layer 10: BatchApart.
-/
namespace Go.Proofs.Ytjoifkmcfenhpaa.BtWalk
open Go.RowKit Go.WideShapes Go.ChangeShapes Go.Proofs.Ytjoifkmcfenhpaa.MemRow Go.Proofs.Ytjoifkmcfenhpaa.Ev Go.Proofs.Ytjoifkmcfenhpaa.NameMath Go.Proofs.Ytjoifkmcfenhpaa.NameWalk Go.Proofs.Ytjoifkmcfenhpaa.EvWalk Go.Proofs.Ytjoifkmcfenhpaa.NumMath Go.Proofs.Ytjoifkmcfenhpaa.NumMem Go.Proofs.Ytjoifkmcfenhpaa.NumWalk Go.Proofs.Ytjoifkmcfenhpaa.EcWalk Go.Proofs.Ytjoifkmcfenhpaa.EdWalk Go.Proofs.Ytjoifkmcfenhpaa.EeLaw Go.Proofs.Ytjoifkmcfenhpaa.Open

/-- Same's answer, told beforehand. -/
theorem sameX_told (v u : Value) (x y : Bat) (R : Bool) (w : World) (hv : IsB w v x) (hu : IsB w u y) (h : R = true ↔ x = y) : Calls Try.prog 17 #[v, u] w fun e w' => e = .returned (.bool R) ∧ Below w.heap.size w w' := by
  refine (refSameX_any v u x y w hv hu).mono ?_
  rintro e w' ⟨S, hS, rfl, b⟩
  have e1 : S = R := by
    cases S <;> cases R <;> simp_all
  subst e1
  exact ⟨rfl, b⟩

set_option maxHeartbeats 8000000 in
set_option maxRecDepth 100000 in
theorem apart_walk (F : BApi) (v u : Value) (x y : Bat) (w : World) (hv : IsB w v x) (hu : IsB w u y) (hox : BOk x) (hoy : BOk y) :
    Calls Try.prog 6 #[v, u] w fun e w' => e = .returned (.bool true) ∧ Below w.heap.size w w' := by
  have FA := Go.Lib.hid (fun W (hb : Below w.heap.size w W) => few10_any v x w W hv hb)
  have FB := Go.Lib.hid (fun W (hb : Below w.heap.size w W) => few10_any u y w W hu hb)
  obtain ⟨A, n, ca, rfl, _⟩ := hv
  obtain ⟨B, m, cb, rfl, _⟩ := hu
  have s1 := TwoB.new w (.int .i64 x.a) (.slice A n ca) (.int .i64 y.a) (.slice B m cb)
  have okx := fewX_ok hox
  have oky := fewX_ok hoy
  unfold fewX at okx oky
  clear hox hoy
  generalize fewEs x.es = fs at *
  generalize fewEs y.es = gs at *
  generalize x.a = a at *
  generalize y.a = b at *
  go_enter Try.func6, Try.ntmps6
  go_wp2_with fail
  generalize (w.alloc (.cells #[.int .i64 a, .slice A n ca] 24)).alloc (.cells #[.int .i64 b, .slice B m cb] 24) = w1 at *
  refine (shown10_any F _).mono ?_
  rintro e w2 ⟨rfl, b2⟩
  have s2 := s1.below b2
  have k0 := s2.e0.c0
  have k1 := s2.e0.c1
  clear s1 b2
  go_wp2_with fail
  refine (FA.out w2 s2.bel).mono ?_
  rintro e w3 ⟨A3, n3, c3, rfl, o3, b3⟩
  have s3 := s2.below b3
  have i3 : IsB w3 (.agg #[.int .i64 a, .slice A3 n3 c3]) ⟨a, fs⟩ := o3.isb s3.bel
  clear k0 k1 s2 b3 o3
  go_wp2_with fail
  refine (F.put _ ⟨a, fs⟩ w3 i3 okx).mono ?_
  rintro e w4 hp
  obtain ⟨A4, m4, c4, rfl, r4, b4⟩ := putX_one hp
  have s4 := s3.below b4
  clear hp i3 s3 b4
  have j0 := s4.e1.c0
  have j1 := s4.e1.c1
  go_wp2_with fail
  refine (FB.out w4 s4.bel).mono ?_
  rintro e w5 ⟨A5, n5, c5, rfl, o5, b5⟩
  have s5 := s4.below b5
  have r45 := r4.below b5
  have i5 : IsB w5 (.agg #[.int .i64 b, .slice A5 n5 c5]) ⟨b, gs⟩ := o5.isb s5.bel
  clear j0 j1 s4 b5 o5 r4
  go_wp2_with fail
  refine (F.put _ ⟨b, gs⟩ w5 i5 oky).mono ?_
  rintro e w6 hp
  obtain ⟨A6, m6, c6, rfl, r6, b6⟩ := putX_one hp
  have s6 := s5.below b6
  have r46 := r45.below b6
  clear hp i5 s5 b6 r45 okx oky
  by_cases hx : mayX ⟨a, fs⟩ = 0
  case neg =>
    have m0 : (mayX ⟨a, fs⟩ != 0) = true := by rw [bne_iff_ne]; exact hx
    clear hx
    generalize mayX ⟨a, fs⟩ = M at *
    generalize mayX ⟨b, gs⟩ = L at *
    go_wp2_with fail
    go_ret
    exact ⟨rfl, s6.bel⟩
  by_cases hy : mayX ⟨b, gs⟩ = 0
  case neg =>
    have m0 : (mayX ⟨b, gs⟩ != 0) = true := by rw [bne_iff_ne]; exact hy
    rw [hx]
    clear hx hy
    generalize mayX ⟨b, gs⟩ = L at *
    go_wp2_with fail
    go_ret
    exact ⟨rfl, s6.bel⟩
  rw [hx, hy]
  have e4 : pX ⟨a, fs⟩ = encX ⟨a, fs⟩ := by unfold pX; rw [if_pos hx]
  have e6 : pX ⟨b, gs⟩ = encX ⟨b, gs⟩ := by unfold pX; rw [if_pos hy]
  rw [e4] at r46
  rw [e6] at r6
  have hEq : ((encX ⟨a, fs⟩ == encX ⟨b, gs⟩) = true) ↔ ((⟨a, fs⟩ : Bat) = ⟨b, gs⟩) := by
    rw [beq_iff_eq]
    exact ⟨fun h => encX_inj hx hy h, fun h => by rw [h]⟩
  generalize hR : (encX ⟨a, fs⟩ == encX ⟨b, gs⟩) = R at *
  have SM := Go.Lib.hid (fun v u W h1 h2 => sameX_told v u ⟨a, fs⟩ ⟨b, gs⟩ R W h1 h2 hEq)
  clear hEq hx hy e4 e6
  generalize encX ⟨a, fs⟩ = lx at *
  generalize encX ⟨b, gs⟩ = ly at *
  have HRR := Go.Lib.hid hR
  clear hR
  have k0 := s6.e0.c0
  have k1 := s6.e0.c1
  have j0 := s6.e1.c0
  have j1 := s6.e1.c1
  have b0 : Below w6.heap.size w6 w6.drew := bel_drew (Below.refl _ _)
  have h6 := below_chain s6.bel b0
  go_upto_region 6 with (fail)
  go_region_held (fun w' => w'.cell? ⟨w.heap.size, 0, none⟩ = some (.int .i64 a) ∧ w'.cell? ⟨w.heap.size, 1, none⟩ = some (.slice A n ca) ∧ w'.cell? ⟨w.heap.size + 1, 0, none⟩ = some (.int .i64 b) ∧ w'.cell? ⟨w.heap.size + 1, 1, none⟩ = some (.slice B m cb))
    (first | exact ⟨k0, k1, j0, j1⟩ | exact ⟨bcell b7 k0, bcell b7 k1, bcell b7 j0, bcell b7 j1⟩ | exact ⟨bcell b8 k0, bcell b8 k1, bcell b8 j0, bcell b8 j1⟩ | exact ⟨bcell b9 k0, bcell b9 k1, bcell b9 j0, bcell b9 j1⟩)
    (first
      | (go_at_call 17; refine (SM.out _ _ w8 (o78.isb h8) (o8.isb h8)).mono ?_; rintro e w9 ⟨rfl, bb⟩; have b9 := below_chain b8 bb; clear bb)
      | (go_at_call 10; refine (FB.out w7 h7).mono ?_; rintro e w8 ⟨A8, n8, c8, rfl, o8, bb⟩; have o78 := o7.below bb; have b8 := below_chain b7 bb; have h8 := below_chain h7 bb; clear bb)
      | (go_at_call 10; refine (FA.out w6.drew h6).mono ?_; rintro e w7 ⟨A7, n7, c7, rfl, o7, bb⟩; have b7 := below_chain b0 bb; have h7 := below_chain h6 bb; clear bb))
  have BZ := below_chain s6.bel b9
  have es := rd_str (r46.below b9)
  have et := rd_str (r6.below b9)
  clear k0 k1 j0 j1 b0 h6 b7 h7 o7 b8 h8 o78 o8 b9 r46 r6 s6
  have hb := HRR.out
  go_wp2_with fail
  go_ret
  exact ⟨by simp, BZ⟩

section
variable {H : Type} {enc : TypeId × Value → H}
set_option maxRecDepth 100000 in
theorem apart_main (F : BApi) (W : World) (base : Nat) (v0 v1 : Value) {d0 d1 : DataW H} {p0 p1 : List MemPlace} (o0 : Value.okWide Try.prog W .any base 24 v0) (o1 : Value.okWide Try.prog W .any base 24 v1)
    (h0 : DataW.Trod enc Try.prog W 0 (fun _ => true) true 24 v0 d0 p0) (h1 : DataW.Trod enc Try.prog W 0 (fun _ => true) true 24 v1 d1 p1) :
    Calls Try.prog 6 #[v0, v1] W fun e W' => e = .returned (.bool true) ∧ Below W.heap.size W W' := by
  obtain ⟨x, hv, hox⟩ := op_batch o0 h0
  obtain ⟨y, hu, hoy⟩ := op_batch o1 h1
  exact apart_walk F v0 v1 x y W hv hu hox hoy
end

end Go.Proofs.Ytjoifkmcfenhpaa.BtWalk

/-
  Walk of a statement of layer 10: BatchParts.
-/
namespace Go.Proofs.Ytjoifkmcfenhpaa.BtWalk
open Go.RowKit Go.WideShapes Go.ChangeShapes Go.Proofs.Ytjoifkmcfenhpaa.MemRow Go.Proofs.Ytjoifkmcfenhpaa.Ev Go.Proofs.Ytjoifkmcfenhpaa.NameMath Go.Proofs.Ytjoifkmcfenhpaa.NameWalk Go.Proofs.Ytjoifkmcfenhpaa.EvWalk Go.Proofs.Ytjoifkmcfenhpaa.NumMath Go.Proofs.Ytjoifkmcfenhpaa.NumMem Go.Proofs.Ytjoifkmcfenhpaa.NumWalk Go.Proofs.Ytjoifkmcfenhpaa.EcWalk Go.Proofs.Ytjoifkmcfenhpaa.EdWalk Go.Proofs.Ytjoifkmcfenhpaa.EeLaw Go.Proofs.Ytjoifkmcfenhpaa.Open

theorem elem_events10 : Try.prog.elem 22 = 44 := by kernel_rfl
theorem event_size10 : (Try.prog.info? 44).map (·.size) = some 4 := by kernel_rfl

/-- What stands behind a batch's literal: its box, its events. -/
structure EndB (w w8 W : World) (g : Nat) (a : Int) (A : Option Addr) (n c : Nat) (l : List Ev) : Prop where
  qa : BxAt W g (.int .i64 a) (.slice A n c)
  oq : OwnO w W w8.heap.size A n c l
  bel : Below w8.heap.size w8 W
theorem EndB.alloc {w w8 w12 : World} {a : Int} {A : Option Addr} {n c : Nat} {l : List Ev} (o : OwnO w w12 w8.heap.size A n c l) (b : Below w8.heap.size w8 w12) : EndB w w8 (w12.alloc (.cells #[.int .i64 a, .slice A n c] 24)) w12.heap.size a A n c l := by
  have al := batch_bel w12 (.int .i64 a) (.slice A n c)
  exact ⟨BxAt.new w12 _ _, o.below al, below_chain b al⟩
theorem EndB.set {w w8 w12 : World} {g : Nat} {a : Int} {A : Option Addr} {n c : Nat} {l : List Ev} {x y : Value} (q : BxAt w12 g x y) (o : OwnO w w12 w8.heap.size A n c l) (b : Below w8.heap.size w8 w12) (hg : w8.heap.size ≤ g) (hne : ∀ a, A = some a → a.block ≠ g) : EndB w w8 ((w12.setCell ⟨g, 0, none⟩ (.int .i64 a)).setCell ⟨g, 1, none⟩ (.slice A n c)) g a A n c l := by
  obtain ⟨cs, oc, hl, hc⟩ := o
  exact ⟨q.all _ _, ⟨cs, OwnC.grown (OwnC.grown oc (grown_set w12 g 0 _) (fun a ha e => hne a ha (Option.some.inj e))) (grown_set _ g 1 _) (fun a ha e => hne a ha (Option.some.inj e)), hl, hc⟩, (b.setCell (by show w8.heap.size ≤ g; exact hg) _).setCell (by show w8.heap.size ≤ g; exact hg) _⟩
/-- A row that has grown lies not at g, which is older and not where it lay. -/
theorem grown_off {A A' : Option Addr} {g sz : Nat} (e : A'.map (·.block) = A.map (·.block) ∨ A'.map (·.block) = some sz) (h : A.map (·.block) ≠ some g) (hg : g ≠ sz) : ∀ a, A' = some a → a.block ≠ g := by
  rintro a rfl he
  simp only [Option.map_some] at e
  rcases e with e | e
  · exact h (by rw [← e, he])
  · injection e with e; omega
theorem row_off {A : Option Addr} {g : Nat} (h : ∀ a, A = some a → a.block ≠ g) : some g ≠ A.map (·.block) := by
  cases A with
  | none => simp
  | some a =>
    intro e
    simp only [Option.map_some] at e
    exact h a rfl (Option.some.inj e).symm
theorem mem_without10 {es : List Ev} {k : Nat} {e : Ev} (h : e ∈ es.take k ++ es.drop (k + 1)) : e ∈ es := by
  rw [List.mem_append] at h
  rcases h with h | h
  · exact List.mem_of_mem_take h
  · exact List.mem_of_mem_drop h
/-- Without one of its events. -/
theorem mayX_without {a : Int} {es : List Ev} {k : Nat} (h : mayX ⟨a, es⟩ = 0) (hk : k < es.length) : mayX ⟨a, es.take k ++ es.drop (k + 1)⟩ = if k + (es.length - (k + 1)) = 0 then 22 else 0 := by
  obtain ⟨h1, h2, h3, h4, h5⟩ := (mayX_zero _).1 h
  simp only at h1 h2 h3 h4 h5
  have hl : (es.take k ++ es.drop (k + 1)).length = k + (es.length - (k + 1)) := by rw [List.length_append, List.length_take, List.length_drop]; omega
  by_cases h0 : k + (es.length - (k + 1)) = 0
  · rw [if_pos h0, mayX_none (by rw [hl]; exact h0)]
  · rw [if_neg h0]
    refine (mayX_zero _).2 ⟨?_, ?_, fun e he => h3 e (mem_without10 he), h4, ?_⟩
    · simp only
      rw [hl]
      omega
    · simp only
      rw [hl]
      omega
    · simp only
      rw [hl]
      omega
theorem mayX_neg {a : Int} {es : List Ev} (h : mayX ⟨a, es⟩ = 0) : mayX ⟨-1, es⟩ = 1 ∧ mayX ⟨1048576, es⟩ = 1 := by
  obtain ⟨h1, h2, h3, h4, h5⟩ := (mayX_zero _).1 h
  simp only at h1 h2 h3 h4 h5
  have hm := (mayEs_zero es).2 h3
  rw [mayX_pos rfl (by omega) (by omega) hm, mayX_pos rfl (by omega) (by omega) hm]
  exact ⟨if_pos (.inl (by omega)), if_pos (.inr (by omega))⟩

set_option maxHeartbeats 16000000 in
set_option maxRecDepth 100000 in
theorem parts_walk (F : BApi) (v : Value) (x : Bat) (at_ : Int) (w : World) (hv : IsB w v x) (hok : BOk x) (ha : -9223372036854775808 ≤ at_ ∧ at_ ≤ 9223372036854775807) :
    Calls Try.prog 7 #[v, .int .i64 at_] w fun e w' => e = .returned (.bool true) ∧ Below w.heap.size w w' := by
  have hv0 := hv
  obtain ⟨A, n, ca, rfl, _⟩ := hv
  have s1 := BoxB.new w (.int .i64 x.a) (.slice A n ca)
  go_enter Try.func7, Try.ntmps7
  go_wp2_with fail
  generalize w.alloc (.cells #[.int .i64 x.a, .slice A n ca] 24) = w1 at *
  refine (shown10_any F _).mono ?_
  rintro e w2 ⟨rfl, b2⟩
  have s2 := s1.below b2
  have k0 := s2.eq.c0
  have k1 := s2.eq.c1
  have hlt2 := s2.eq.lt
  clear s1 b2
  go_wp2_with fail
  refine (few10_any _ x w w2 hv0 s2.bel).mono ?_
  rintro e w3 ⟨A3, n3, c3, rfl, o3, b3⟩
  have s3 := s2.below b3
  have k0 := s3.eq.c0
  have k1 := s3.eq.c1
  have z0 := s3.eq.frozen 0
  have z1 := s3.eq.frozen 1
  have s4 := s3.all (.int .i64 x.a) (.slice A3 n3 c3)
  have o4 := o3.setB (g := w.heap.size) (by omega) (.int .i64 x.a) (.slice A3 n3 c3)
  have hok4 := fewX_ok hok
  unfold fewX at hok4
  clear s2 b3 s3 o3 hok
  go_upto_region 3 with (fail)
  generalize (w3.setCell ⟨w.heap.size, 0, none⟩ (.int .i64 x.a)).setCell ⟨w.heap.size, 1, none⟩ (.slice A3 n3 c3) = w4 at *
  generalize fewEs x.es = fs at *
  generalize x.a = aa at *
  clear k0 k1 z0 z1 hv0
  have k0 := s4.eq.c0
  have k1 := s4.eq.c1
  have i4 : IsB w4 (.agg #[.int .i64 aa, .slice A3 n3 c3]) ⟨aa, fs⟩ := o4.isb s4.bel
  go_wp2_with fail
  refine (F.may _ ⟨aa, fs⟩ w4 i4 hok4).mono ?_
  rintro e w8 ⟨rfl, b8⟩
  have s8 := s4.below b8
  have o8 := o4.below b8
  clear k0 k1 s4 o4 i4 b8
  have LF := Go.Lib.hid o8.len
  have k0 := s8.eq.c0
  have k1 := s8.eq.c1
  by_cases h0 : mayX ⟨aa, fs⟩ = 0
  case neg =>
    have m0 : (mayX ⟨aa, fs⟩ != 0) = true := by rw [bne_iff_ne]; exact h0
    clear h0
    generalize mayX ⟨aa, fs⟩ = M at *
    go_wp2_with fail
    go_ret
    exact ⟨rfl, s8.bel⟩
  rw [h0]
  by_cases hneg : at_ < 0
  · go_wp2_with fail
    go_ret
    exact ⟨rfl, s8.bel⟩
  obtain ⟨a, rfl⟩ := Int.eq_ofNat_of_zero_le (by omega : 0 ≤ at_)
  by_cases hge : n3 ≤ a
  · have i3 : (n3 : Int) ≤ (a : Int) := by omega
    go_wp2_with fail
    go_ret
    exact ⟨rfl, s8.bel⟩
  have i0 : ¬ (a : Int) < 0 := by omega
  have i2 : ¬ (n3 : Int) ≤ (a : Int) := by omega
  have hB : a < n3 := by omega
  have hz16 : n3 ≤ 16 := by
    have := ((mayX_zero _).1 h0).2.1
    simp only at this
    rw [LF.out] at this
    exact this
  have i3 : IntKind.i64.wrap ((a : Int) + 1) = (a : Int) + 1 := IntWalk.i64_in _ (by omega)
  have hmw := mayX_without h0 (k := a) (by rw [LF.out]; exact hB)
  rw [LF.out] at hmw
  have LM := Go.Lib.hid hmw
  have LN := Go.Lib.hid (mayX_neg h0)
  have okl : Hid (BOk ⟨aa, fs.take a ++ fs.drop (a + 1)⟩) := Go.Lib.hid ⟨fun e he => hok4.evs e (mem_without10 he), hok4.a⟩
  have okn : Hid (BOk ⟨-1, fs⟩ ∧ BOk ⟨1048576, fs⟩) := Go.Lib.hid ⟨⟨hok4.evs, by simp⟩, ⟨hok4.evs, by simp⟩⟩
  have rF : RdE w8 A3 n3 c3 fs := o8.rd s8.bel
  have RF := Go.Lib.hid rF
  clear hmw h0 hneg hge hok4 rF
  obtain ⟨cs, oc, hcl, hcs⟩ := o8
  obtain ⟨q1, d1⟩ := slice_hi (P := Try.prog) 22 44 Try.underlying22 elem_events10 event_size10 (OwnC.rd oc) (m := a) (by omega)
  obtain ⟨A1, q2, d2⟩ := slice_lo (P := Try.prog) 22 44 Try.underlying22 elem_events10 event_size10 (OwnC.rd oc) (m := a + 1) (by omega)
  have q2' : ∀ W, (Instr.slice 22 (.slice A3 n3 c3) (some (.int .i64 ((a : Int) + 1))) none none).run Try.prog W = .ok (.slice A1 (n3 - (a + 1)) (c3 - (a + 1))) W := q2
  have t1 := EvsO.take fs cs a hcs
  have t2 := EvsO.drop fs cs (a + 1) hcs
  have al : Below w8.heap.size w8 (w8.alloc (.cells #[] 44)).drew := bel_drew ((Below.refl _ _).alloc (Nat.le_refl _) _)
  have o6 : OwnC 4 (w8.alloc (.cells #[] 44)).drew w8.heap.size 44 (some ⟨w8.heap.size, 0, none⟩) 0 0 [] := OwnC.below (OwnC.empty w8 44 (Nat.le_refl _)) (bel_drew (Below.refl _ _))
  have d6 := RdC.below d1 al
  have k6 := bcell al k0
  have l6 := bcell al k1
  have be : Below (w8.alloc (.cells #[] 44)).heap.size (w8.alloc (.cells #[] 44)) ((w8.alloc (.cells #[] 44)).alloc (.cells #[.int .i64 0, .slice none 0 0] 24)).drew := bel_drew ((Below.refl _ _).alloc (Nat.le_refl _) _)
  have am : Below w8.heap.size w8 ((w8.alloc (.cells #[] 44)).alloc (.cells #[.int .i64 0, .slice none 0 0] 24)).drew := below_chain ((Below.refl _ _).alloc (Nat.le_refl _) _) be
  have o7 : OwnC 4 ((w8.alloc (.cells #[] 44)).alloc (.cells #[.int .i64 0, .slice none 0 0] 24)).drew w8.heap.size 44 (some ⟨w8.heap.size, 0, none⟩) 0 0 [] := OwnC.below (OwnC.empty w8 44 (Nat.le_refl _)) be
  have d7 := RdC.below d1 am
  have k7 := bcell am k0
  have l7 := bcell am k1
  have bf : Below w8.heap.size w8 (w8.alloc (.cells #[.int .i64 0, .slice none 0 0] 24)) := (Below.refl _ _).alloc (Nat.le_refl _) _
  have bg : Below (w8.alloc (.cells #[.int .i64 0, .slice none 0 0] 24)).heap.size (w8.alloc (.cells #[.int .i64 0, .slice none 0 0] 24)) ((w8.alloc (.cells #[.int .i64 0, .slice none 0 0] 24)).alloc (.cells #[] 44)).drew := bel_drew ((Below.refl _ _).alloc (Nat.le_refl _) _)
  have an : Below w8.heap.size w8 ((w8.alloc (.cells #[.int .i64 0, .slice none 0 0] 24)).alloc (.cells #[] 44)).drew := below_chain bf bg
  have o8 : OwnC 4 ((w8.alloc (.cells #[.int .i64 0, .slice none 0 0] 24)).alloc (.cells #[] 44)).drew w8.heap.size 44 (some ⟨w8.heap.size + 1, 0, none⟩) 0 0 [] := by
    have h := OwnC.below (OwnC.empty (k := 4) (base := w8.heap.size) (w8.alloc (.cells #[.int .i64 0, .slice none 0 0] 24)) 44 bf.size) (bel_drew (Below.refl _ _))
    simpa using h
  have d8 := RdC.below d1 an
  have k8 := bcell an k0
  have l8 := bcell an k1
  have h1a : 0 + a ≤ maxLen := by unfold maxLen; omega
  have h2a : (0 + a) * 80 ≤ 140737488355328 := by omega
  have h1c : a + (n3 - (a + 1)) ≤ maxLen := by unfold maxLen; omega
  have h2c : (a + (n3 - (a + 1))) * 80 ≤ 140737488355328 := by omega
  have q7 : BxAt ((w8.alloc (.cells #[] 44)).alloc (.cells #[.int .i64 0, .slice none 0 0] 24)).drew (w8.heap.size + 1) (.int .i64 0) (.slice none 0 0) := by
    have h := BxAt.new (w8.alloc (.cells #[] 44)) (.int .i64 0) (.slice none 0 0)
    have e : (w8.alloc (.cells #[] 44)).heap.size = w8.heap.size + 1 := by simp
    rw [e] at h
    exact h
  have q8 : BxAt ((w8.alloc (.cells #[.int .i64 0, .slice none 0 0] 24)).alloc (.cells #[] 44)).drew w8.heap.size (.int .i64 0) (.slice none 0 0) := (BxAt.new w8 (.int .i64 0) (.slice none 0 0)).below bg
  have k9 : (w8.alloc (.cells #[.int .i64 0, .slice none 0 0] 24)).drew.cell? ⟨w.heap.size, 0, none⟩ = some (.int .i64 aa) := bcell (bel_drew bf) k0
  have l9 : (w8.alloc (.cells #[.int .i64 0, .slice none 0 0] 24)).drew.cell? ⟨w.heap.size, 1, none⟩ = some (.slice A3 n3 c3) := bcell (bel_drew bf) k1
  clear be bf bg
  go_upto_region 5 with (fail)
  have hlen : Hid ((fs.take a ++ fs.drop (a + 1)).length = a + (n3 - (a + 1))) := Go.Lib.hid (by rw [List.length_append, List.length_take, List.length_drop, hcl]; omega)
  go_cut [6] (fun p wx => ∃ g A c, p = .pointer (some ⟨g, 0, none⟩) ∧ EndB w w8 wx g aa A (a + (n3 - (a + 1))) c (fs.take a ++ fs.drop (a + 1)))
  case first =>
   go_region_held_law (fun w' => w'.cell? ⟨w.heap.size, 0, none⟩ = some (.int .i64 aa) ∧ w'.cell? ⟨w.heap.size, 1, none⟩ = some (.slice A3 n3 c3))
    (first | exact ⟨k0, k1⟩ | exact ⟨k6, l6⟩ | exact ⟨k7, l7⟩ | exact ⟨k8, l8⟩ | exact ⟨k9, l9⟩ | exact ⟨bcell EA.bel k0, bcell EA.bel k1⟩ | exact ⟨k12, l12⟩ | exact ⟨k14, l14⟩ | exact ⟨k11, l11⟩ | exact ⟨k10, l10⟩)
    (first
    | (refine step_append_cells (by rfl) (.tmp 33) (.tmp 38) 22 rfl 44 (.agg #[.string ⟨#[]⟩, .string ⟨#[]⟩, .slice none 0 0, .slice none 0 0]) 80 Try.underlying22 event_info rfl (by decide) rfl rfl o10' d10 (EvsO.one _ _ t2) h1c h2c b10.size ?_; intro A12 c12 w12 o12 g12 e12; have b12 := below_grown_own o10' b10 g12 b10.size; have k12 := bcell b12 k0; have l12 := bcell b12 k1; have bz := below_chain b12 (batch_bel w12 (.int .i64 0) (.slice none 0 0)); have k14 := bcell bz k0; have l14 := bcell bz k1; have q12 : OwnO w w12 w8.heap.size A12 (a + (n3 - (a + 1))) c12 (fs.take a ++ fs.drop (a + 1)) := ⟨_, o12, hlen.out, EvsO.append _ _ _ _ t1 t2⟩; first | (have q13 := qb.grown g12 nb; have z13 := q13.frozen 0; have y13 := q13.frozen 1; have k13 := q13.c0; have l13 := q13.c1; have EA := EndB.set (a := aa) q13 q12 b12 gb (grown_off e12 (Ne.symm nb) lb)) | (have EA := EndB.alloc (a := aa) q12 b12); (try go_simp))
    | (refine step_append_cells (by rfl) (.tmp 33) (.tmp 38) 22 rfl 44 (.agg #[.string ⟨#[]⟩, .string ⟨#[]⟩, .slice none 0 0, .slice none 0 0]) 80 Try.underlying22 event_info rfl (by decide) rfl rfl o11' d11 (EvsO.one _ _ t2) h1c h2c b11.size ?_; intro A12 c12 w12 o12 g12 e12; have b12 := below_grown_own o11' b11 g12 b11.size; have k12 := bcell b12 k0; have l12 := bcell b12 k1; have bz := below_chain b12 (batch_bel w12 (.int .i64 0) (.slice none 0 0)); have k14 := bcell bz k0; have l14 := bcell bz k1; have q12 : OwnO w w12 w8.heap.size A12 (a + (n3 - (a + 1))) c12 (fs.take a ++ fs.drop (a + 1)) := ⟨_, o12, hlen.out, EvsO.append _ _ _ _ t1 t2⟩; have nb : some w10.heap.size ≠ A10.map (·.block) := row_off (fun x hx => Nat.ne_of_lt (OwnC.lt o10 x hx).2); have q13 := qx.grown g12 nb; have z13 := q13.frozen 0; have y13 := q13.frozen 1; have k13 := q13.c0; have l13 := q13.c1; have EA := EndB.set (a := aa) q13 q12 b12 b10.size (grown_off e12 (Ne.symm nb) (by simp)); (try go_simp))
    | (refine step_append_cells (by rfl) (.tmp 28) (.tmp 32) 22 rfl 44 (.agg #[.string ⟨#[]⟩, .string ⟨#[]⟩, .slice none 0 0, .slice none 0 0]) 80 Try.underlying22 event_info rfl (by decide) rfl rfl o6 d6 (EvsO.one _ _ t1) h1a h2a al.size ?_; intro A10 c10 w10 o10 g10 e10; have b10 := below_grown_own o6 al g10 al.size; have k10 := bcell b10 k0; have l10 := bcell b10 k1; have d10 := RdC.below d2 b10; have o10' := o10; rw [Nat.zero_add, List.nil_append] at o10'; have bx := (Below.refl w10.heap.size w10).alloc (Nat.le_refl _) (.cells #[.int .i64 0, .slice none 0 0] 24); have b11 := below_chain b10 bx; have o11' := OwnC.below o10' bx; have d11 := RdC.below d2 b11; have k11 := bcell b11 k0; have l11 := bcell b11 k1; have qx := BxAt.new w10 (.int .i64 0) (.slice none 0 0); (try go_simp))
    | (refine step_append_cells (by rfl) (.tmp 28) (.tmp 32) 22 rfl 44 (.agg #[.string ⟨#[]⟩, .string ⟨#[]⟩, .slice none 0 0, .slice none 0 0]) 80 Try.underlying22 event_info rfl (by decide) rfl rfl o7 d7 (EvsO.one _ _ t1) h1a h2a am.size ?_; intro A10 c10 w10 o10 g10 e10; have b10 := below_grown_own o7 am g10 am.size; have k10 := bcell b10 k0; have l10 := bcell b10 k1; have d10 := RdC.below d2 b10; have o10' := o10; rw [Nat.zero_add, List.nil_append] at o10'; have qb := q7.grown g10 (by simp); have nb : some (w8.heap.size + 1) ≠ A10.map (·.block) := row_off (grown_off e10 (by simp) (by simp)); have gb : w8.heap.size ≤ w8.heap.size + 1 := Nat.le_succ _; have lb : w8.heap.size + 1 ≠ w10.heap.size := Nat.ne_of_lt qb.lt; (try go_simp))
    | (refine step_append_cells (by rfl) (.tmp 28) (.tmp 32) 22 rfl 44 (.agg #[.string ⟨#[]⟩, .string ⟨#[]⟩, .slice none 0 0, .slice none 0 0]) 80 Try.underlying22 event_info rfl (by decide) rfl rfl o8 d8 (EvsO.one _ _ t1) h1a h2a an.size ?_; intro A10 c10 w10 o10 g10 e10; have b10 := below_grown_own o8 an g10 an.size; have k10 := bcell b10 k0; have l10 := bcell b10 k1; have d10 := RdC.below d2 b10; have o10' := o10; rw [Nat.zero_add, List.nil_append] at o10'; have qb := q8.grown g10 (by simp); have nb : some w8.heap.size ≠ A10.map (·.block) := row_off (grown_off e10 (by simp) (by simp; omega)); have gb : w8.heap.size ≤ w8.heap.size := Nat.le_refl _; have lb : w8.heap.size ≠ w10.heap.size := Nat.ne_of_lt qb.lt; (try go_simp)))
   all_goals
    go_wp2_with fail
    go_meet
    exact ⟨_, _, _, rfl, EA⟩
  case rest =>
    obtain ⟨g, A, c, rfl, EA⟩ := hcut
    have sE := s8.below EA.bel
    have kE0 := EA.qa.c0
    have kE1 := EA.qa.c1
    have kF1 := sE.eq.c1
    have iE : IsB wc (.agg #[.int .i64 aa, .slice A (a + (n3 - (a + 1))) c]) ⟨aa, fs.take a ++ fs.drop (a + 1)⟩ := EA.oq.isb sE.bel
    have rF := RF.out.below EA.bel
    have bE := sE.bel
    clear t1 t2 q1 q2 q2' d1 d2 al o6 d6 k6 l6 am o7 d7 k7 l7 an o8 d8 k8 l8 h1a h2a h1c h2c q7 q8 k9 l9 oc hcs hcl i3 k0 k1 s8 sE EA RF hlen LF
    generalize a + (n3 - (a + 1)) = N at *
    generalize fs.take a ++ fs.drop (a + 1) = lq at *
    generalize wc = w9 at *
    generalize hM : (if N = 0 then (22 : Int) else 0) = M at *
    have HM := Go.Lib.hid hM
    clear hM
    go_upto_if 44 with (fail)
    go_cut [7] (fun t wx => t = .int .i64 M ∧ w9 = wx)
    case first =>
      by_cases hn : N = 0
      · obtain rfl : M = 22 := by rw [← HM.out, if_pos hn]
        have i5 : ((N : Int) == 0) = true := by rw [beq_iff_eq]; omega
        clear HM hn
        go_wp2_with fail
        go_meet
        exact ⟨rfl, rfl⟩
      · obtain rfl : M = 0 := by rw [← HM.out, if_neg hn]
        have i5 : ((N : Int) == 0) = false := by rw [beq_eq_false_iff_ne]; omega
        clear HM hn
        go_wp2_with fail
        go_meet
        exact ⟨rfl, rfl⟩
    case rest =>
      obtain ⟨rfl, rfl⟩ := hcut
      go_wp2_with fail
      refine (F.may _ ⟨aa, lq⟩ w9 iE okl.out).mono ?_
      rintro e w10 ⟨rfl, b10⟩
      rw [LM.out]
      have kG1 := bcell b10 kF1
      have rG := rF.below b10
      have bG := below_chain bE b10
      have iG : IsB w10 (.agg #[.int .i64 (-1), .slice A3 n3 c3]) ⟨-1, fs⟩ := ⟨_, _, _, rfl, rG⟩
      clear kE0 kE1 kF1 iE rF bE b10 LM
      go_wp2_with fail
      refine (F.may _ ⟨-1, fs⟩ w10 iG okn.out.1).mono ?_
      rintro e w11 ⟨rfl, b11⟩
      rw [LN.out.1]
      have kH1 := bcell b11 kG1
      have rH := rG.below b11
      have bH := below_chain bG b11
      have iH : IsB w11 (.agg #[.int .i64 1048576, .slice A3 n3 c3]) ⟨1048576, fs⟩ := ⟨_, _, _, rfl, rH⟩
      clear kG1 rG bG iG b11
      go_wp2_with fail
      refine (F.may _ ⟨1048576, fs⟩ w11 iH okn.out.2).mono ?_
      rintro e w12 ⟨rfl, b12⟩
      rw [LN.out.2]
      have bI := below_chain bH b12
      go_wp2_with fail
      go_ret
      exact ⟨by simp, bI⟩

section
variable {H : Type} {enc : TypeId × Value → H}
set_option maxRecDepth 100000 in
theorem parts_main (F : BApi) (W : World) (base : Nat) (v0 v1 : Value) {d0 d1 : DataW H} {p0 p1 : List MemPlace} (o0 : Value.okWide Try.prog W .any base 24 v0) (o1 : Value.okWide Try.prog W .any base 3 v1)
    (h0 : DataW.Trod enc Try.prog W 0 (fun _ => true) true 24 v0 d0 p0) (h1 : DataW.Trod enc Try.prog W 0 (fun _ => true) true 3 v1 d1 p1) :
    Calls Try.prog 7 #[v0, v1] W fun e W' => e = .returned (.bool true) ∧ Below W.heap.size W W' := by
  obtain ⟨x, hv, hok⟩ := op_batch o0 h0
  obtain ⟨a, rfl, ha0, ha1⟩ := op_i64 Try.underlying3 o1 h1
  exact parts_walk F v0 x a W hv hok ⟨ha0, ha1⟩
end

end Go.Proofs.Ytjoifkmcfenhpaa.BtWalk

/-
  Walk of a statement of layer 10: BatchMany.
-/
namespace Go.Proofs.Ytjoifkmcfenhpaa.BtWalk
open Go.RowKit Go.WideShapes Go.ChangeShapes Go.Proofs.Ytjoifkmcfenhpaa.MemRow Go.Proofs.Ytjoifkmcfenhpaa.Ev Go.Proofs.Ytjoifkmcfenhpaa.NameMath Go.Proofs.Ytjoifkmcfenhpaa.NameWalk Go.Proofs.Ytjoifkmcfenhpaa.EvWalk Go.Proofs.Ytjoifkmcfenhpaa.NumMath Go.Proofs.Ytjoifkmcfenhpaa.NumMem Go.Proofs.Ytjoifkmcfenhpaa.NumWalk Go.Proofs.Ytjoifkmcfenhpaa.EcWalk Go.Proofs.Ytjoifkmcfenhpaa.EdWalk Go.Proofs.Ytjoifkmcfenhpaa.EeLaw Go.Proofs.Ytjoifkmcfenhpaa.Open

set_option maxHeartbeats 8000000 in
set_option maxRecDepth 100000 in
theorem many_walk (F : BApi) (v : Value) (x : Bat) (w : World) (hv : IsB w v x) (hok : BOk x) :
    Calls Try.prog 8 #[v] w fun e w' => e = .returned (.bool true) ∧ Below w.heap.size w w' := by
  have hv0 := hv
  obtain ⟨A, n, ca, rfl, _⟩ := hv
  have s1 := BoxB.new w (.int .i64 x.a) (.slice A n ca)
  go_enter Try.func8, Try.ntmps8
  go_wp2_with fail
  generalize w.alloc (.cells #[.int .i64 x.a, .slice A n ca] 24) = w1 at *
  refine (shown10_any F _).mono ?_
  rintro e w2 ⟨rfl, b2⟩
  have s2 := s1.below b2
  have k0 := s2.eq.c0
  have k1 := s2.eq.c1
  have hlt2 := s2.eq.lt
  clear s1 b2
  go_wp2_with fail
  refine (few10_any _ x w w2 hv0 s2.bel).mono ?_
  rintro e w3 ⟨A3, n3, c3, rfl, o3, b3⟩
  have s3 := s2.below b3
  have k0 := s3.eq.c0
  have k1 := s3.eq.c1
  have z0 := s3.eq.frozen 0
  have z1 := s3.eq.frozen 1
  have s4 := s3.all (.int .i64 x.a) (.slice A3 n3 c3)
  have o4 := o3.setB (g := w.heap.size) (by omega) (.int .i64 x.a) (.slice A3 n3 c3)
  have hok4 := fewX_ok hok
  unfold fewX at hok4
  clear s2 b3 s3 o3 hok
  go_upto_region 3 with (fail)
  generalize (w3.setCell ⟨w.heap.size, 0, none⟩ (.int .i64 x.a)).setCell ⟨w.heap.size, 1, none⟩ (.slice A3 n3 c3) = w4 at *
  generalize fewEs x.es = fs at *
  generalize x.a = a at *
  clear k0 k1 z0 z1 hv0
  have k0 := s4.eq.c0
  have k1 := s4.eq.c1
  have rE4 : RdE w4 A3 n3 c3 fs := o4.rd s4.bel
  have i4 : IsB w4 (.agg #[.int .i64 a, .slice A3 n3 c3]) ⟨a, fs⟩ := ⟨_, _, _, rfl, rE4⟩
  go_wp2_with fail
  refine (F.put _ ⟨a, fs⟩ w4 i4 hok4).mono ?_
  rintro e w5 ⟨b5, hp⟩
  have s5 := s4.below b5
  have rE := rE4.below b5
  clear k0 k1 s4 o4 i4 b5 rE4
  rcases hp with ⟨h0, A5, c5, rfl, r5⟩ | ⟨h0, rfl⟩
  case inr =>
    have m0 : (mayX ⟨a, fs⟩ != 0) = true := by rw [bne_iff_ne]; exact h0
    clear h0
    generalize mayX ⟨a, fs⟩ = M at *
    go_wp2_with fail
    go_ret
    exact ⟨rfl, s5.bel⟩
  have hle := encX_le h0
  obtain ⟨z1, z2, z3, z4, z5⟩ := (mayX_zero _).1 h0
  simp only at z1 z2 z3 z4 z5
  have LE := Go.Lib.hid rE.len
  have Z3 := Go.Lib.hid z3
  rw [LE.out] at z1 z2 z5
  have hlen : (encX ⟨a, fs⟩).length = (enc a).length + (enc (n3 : Int)).length + (evsE fs).length := by
    unfold encX
    simp only [List.length_append]
    rw [LE.out]
  generalize (encX ⟨a, fs⟩).length = m at *
  have HM := Go.Lib.hid hlen
  have hx0 : -9223372036854775808 ≤ a ∧ a ≤ 9223372036854775807 := by omega
  have hxn : -9223372036854775808 ≤ (n3 : Int) ∧ (n3 : Int) ≤ 9223372036854775807 := by omega
  have oke := hok4.evs
  simp only at oke
  clear h0 hlen z3 z4 z5 r5 hok4
  have hz : ([] : List UInt8).length ≤ 10000000 := by simp
  have k0 := s5.eq.c0
  have k1 := s5.eq.c1
  have b0 : Below w5.heap.size w5 w5.drew := bel_drew (Below.refl _ _)
  go_wp2_with fail
  go_region_held (fun w' => w'.cell? ⟨w.heap.size, 0, none⟩ = some (.int .i64 a) ∧ w'.cell? ⟨w.heap.size, 1, none⟩ = some (.slice A3 n3 c3))
    (first | exact ⟨k0, k1⟩ | exact ⟨bcell b6 k0, bcell b6 k1⟩ | exact ⟨bcell b7 k0, bcell b7 k1⟩)
    (first
      | (go_at_call 18; refine (refPut_laid none 0 0 [] (n3 : Int) w6 (Rd.nil _) hxn hz).mono ?_; rintro e w7 ⟨u7, l7, H7, rfl, ⟨A7, c7, rfl, o7⟩, bb⟩; have b7 := below_chain b6 bb; have hl7 : Hid (l7.length = (enc (n3 : Int)).length) := Go.Lib.hid (by rw [H7.out, List.nil_append]); have hl7' : l7.length ≤ 10 := (by rw [hl7.out]; exact enc_le _ hxn.1 hxn.2); have hwr : IntKind.i64.wrap ((l6.length : Int) + (l7.length : Int)) = (l6.length : Int) + (l7.length : Int) := IntWalk.i64_in _ (by omega); clear bb)
      | (go_at_call 18; refine (refPut_laid none 0 0 [] a w5.drew (Rd.nil _) hx0 hz).mono ?_; rintro e w6 ⟨u6, l6, H6, rfl, ⟨A6, c6, rfl, o6⟩, bb⟩; have b6 := below_chain b0 bb; have hl6 : Hid (l6.length = (enc a).length) := Go.Lib.hid (by rw [H6.out, List.nil_append]); have hl6' : l6.length ≤ 10 := (by rw [hl6.out]; exact enc_le _ hx0.1 hx0.2); clear bb))
  have s7 := s5.below b7
  have rE7 := rE.below b7
  have HS : Hid (l6.length + l7.length = (enc a).length + (enc (n3 : Int)).length + (evsE (fs.take 0)).length) := Go.Lib.hid (by rw [hl6.out, hl7.out]; rfl)
  clear k0 k1 b0 b6 b7 o6 o7 H6 H7 hwr s5 rE hl6 hl7
  generalize l6.length = p6 at *
  generalize l7.length = p7 at *
  have hz1 : ([] : List UInt8).length ≤ 1000000 := by simp
  go_wp2_with fail
  go_loopw [6, 7, 8, 9] (fun nv i _ _ wr => ∃ (j t : Nat), j ≤ n3 ∧ i = .int .i64 j ∧ nv = .int .i64 t ∧ Hid (t = (enc a).length + (enc (n3 : Int)).length + (evsE (fs.take j)).length) ∧ t ≤ 20000 * j + 20 ∧ RdE wr A3 n3 c3 fs ∧ BoxB wr w (.int .i64 a) (.slice A3 n3 c3)) (fun _ i _ _ _ => n3 - (intOf i).toNat)
  case atStart => exact ⟨0, p6 + p7, Nat.zero_le _, rfl, by push_cast; rfl, HS, by omega, rE7, s7⟩
  case round =>
    obtain ⟨j, t, hj, rfl, rfl, HQ, ht, rEr, sr⟩ := hrel
    clear s7 rE7 HS
    have k1 := sr.eq.c1
    by_cases hlt : j < n3
    · obtain ⟨b, o, rfl, _, kt⟩ := rEr.at_ (by omega)
      obtain ⟨A1, n1, c1, B1, m1, d1, x0, x1, x2, x3, r1, r2⟩ := kt j hlt
      have i2 : (j : Int) < n3 := by omega
      have hjl : j < fs.length := by rw [LE.out]; exact hlt
      have hoe := oke _ (ev_get hjl)
      have HE0 := Go.Lib.hid (Z3.out _ (ev_get hjl))
      have HT := Go.Lib.hid (ev_take fs j hjl)
      clear kt hjl
      generalize fs.getD j noEv = ev at *
      have iv : IsEv wr (.agg #[.string ev.s, .string ev.t, .slice A1 n1 c1, .slice B1 m1 d1]) ev := ⟨_, _, _, _, _, _, rfl, r1, r2⟩
      go_wp2_with fail
      refine (putE_any none 0 0 [] _ ev wr (Rd.nil _) hz1 iv hoe).mono ?_
      rintro e w8 ⟨hp, b8⟩
      have s8 := sr.below b8
      have rE8 := rEr.below b8
      rcases hp with ⟨_, v9, rfl, L9⟩ | ⟨hne, _⟩
      · obtain ⟨A9, c9, rfl, _⟩ := L9
        have hle9 : ([] ++ encE ev).length ≤ 20000 := by rw [List.nil_append]; exact encE_le (may_smallE HE0.out)
        have H9 : Hid (t + ([] ++ encE ev).length = (enc a).length + (enc (n3 : Int)).length + (evsE (fs.take (j + 1))).length) := Go.Lib.hid (by rw [HT.out, evsE_snoc, List.nil_append, List.length_append, HQ.out]; omega)
        clear x0 x1 x2 x3 r1 r2 iv k1 sr rEr b8 HT HQ
        generalize ([] ++ encE ev).length = q at *
        go_wp2_with fail
        go_roundw
        case rel => exact ⟨j + 1, t + q, by omega, by go_num, by go_num, H9, by omega, rE8, s8⟩
        case measure => simp [intOf]; omega
      · exact absurd HE0.out hne
    · obtain rfl : n3 = j := by omega
      have hm : m = t := by rw [HM.out, HQ.out, List.take_of_length_le (by rw [LE.out]; exact Nat.le_refl _)]
      subst hm
      go_wp2_with fail
      go_ret
      exact ⟨by simp, sr.bel⟩

section
variable {H : Type} {enc : TypeId × Value → H}
set_option maxRecDepth 100000 in
theorem many_main (F : BApi) (W : World) (base : Nat) (v0 : Value) {d0 : DataW H} {p0 : List MemPlace} (o0 : Value.okWide Try.prog W .any base 24 v0)
    (h0 : DataW.Trod enc Try.prog W 0 (fun _ => true) true 24 v0 d0 p0) :
    Calls Try.prog 8 #[v0] W fun e W' => e = .returned (.bool true) ∧ Below W.heap.size W W' := by
  obtain ⟨x, hv, hok⟩ := op_batch o0 h0
  exact many_walk F v0 x W hv hok
end

end Go.Proofs.Ytjoifkmcfenhpaa.BtWalk

