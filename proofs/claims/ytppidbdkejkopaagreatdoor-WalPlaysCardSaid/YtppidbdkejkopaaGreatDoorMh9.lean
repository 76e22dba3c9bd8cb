/-
  Joined texts: WlFew, WgCom, WgShown, WgIn, WgRound, HeldAt.
-/
import Derived.Test.YtppidbdkejkopaaGreatDoorProg
import Derived.Deep.RegionHeld
import Derived.Test.YtppidbdkejkopaaGreatDoorMh8
namespace Go.Proofs.YtppidbdkejkopaaGreatDoor.BtWalk
open Go.RowKit MemRow Ev NameMath NameWalk EvWalk NumMath NumMem NumWalk EcWalk EdWalk EeLaw
set_option maxHeartbeats 8000000 in
set_option maxRecDepth 100000 in
theorem few11_any (v : Value) (q : Wop) (w0 w : World) (hv : IsWop w0 v q) (hb0 : Below w0.heap.size w0 w) :
    Calls Tryz.prog 15 #[v] w fun e w' => ∃ A n ca, e = .returned (.agg #[.int .i64 q.kind, .int .i64 q.n, .int .i64 q.file, .int .i64 q.x.a, .slice A n ca]) ∧ OwnO w0 w' (w.heap.size + 1 + 1 + 1) A n ca (few6 q.x.es) ∧ Below w.heap.size w w' := by
  obtain ⟨C, n, cap, rfl, rC⟩ := hv
  obtain ⟨kd, nn, fl, ⟨a, es⟩⟩ := q
  simp only at rC
  have LC := Go.Lib.hid rC.len
  have hn := rC.le
  unfold maxLen at hn
  have s1 := MkO.new w0 w kd nn fl a (.slice C n cap)
  go_enter Tryz.func15, Tryz.ntmps15
  go_upto_region 2 with (fail)
  generalize ((w.alloc (.cells #[.int .i64 kd, .int .i64 nn, .int .i64 fl, .int .i64 a, .slice C n cap] 41)).alloc (.cells #[.int .i64 0, .int .i64 0, .int .i64 0, .int .i64 0, .slice none 0 0] 41)).alloc (.cells #[.int .i64 a, .slice none 0 0] 39) = w1 at *
  go_wp2_with fail
  go_loopw [4, 5] (fun i _ wr => ∃ (j : Nat) (A : Option Addr) (ca : Nat), j ≤ n ∧ j ≤ 6 ∧ i = .int .i64 j ∧ MkO w0 wr w kd nn fl a (.slice C n cap) A j ca (few6 (es.take j))) (fun i _ _ => n - (intOf i).toNat)
  case atStart => exact ⟨0, none, 0, Nat.zero_le _, by omega, rfl, s1⟩
  case round =>
    obtain ⟨j, A, ca, hjn, hj20, rfl, sr⟩ := hrel
    clear s1
    have k1 := sr.eq.c4
    by_cases hlt : j < n ∧ j < 6
    · obtain ⟨h1, h2⟩ := hlt
      obtain ⟨bt, ot, rfl, _, kt⟩ := rC.at_ (by omega)
      obtain ⟨T, nT, cT, Y, nY, cY, x0', x1', x2', x3', rT, rY⟩ := kt j h1
      have bb := below_chain hb0 sr.bel
      have x0 := bcell bb x0'
      have x1 := bcell bb x1'
      have x2 := bcell bb x2'
      have x3 := bcell bb x3'
      have i1 : (j : Int) < n := by omega
      have i2 : (j : Int) < 6 := by omega
      have HS := Go.Lib.hid (few6_snoc es j (by rw [LC.out]; exact h1) h2)
      clear kt x0' x1' x2' x3' bb
      generalize es.getD j noEv = ev at *
      go_upto_region 6 with (fail)
      have al : Below wr.heap.size wr (wr.alloc (.cells #[.string ev.s, .string ev.t, .slice T nT cT, .slice Y nY cY] 69)) := (Below.refl _ _).alloc (Nat.le_refl _) _
      have c5 := EvAt.new wr (.string ev.s) (.string ev.t) (.slice T nT cT) (.slice Y nY cY)
      have s5 := sr.below al
      have glt : w.heap.size + 1 + 1 < wr.heap.size := sr.out.lt
      have gA : ∀ a, A = some a → a.block ≠ wr.heap.size := fun a hA => by
        obtain ⟨cs, o, _, _⟩ := sr.own
        have := (OwnC.lt o a hA).2
        omega
      have GA := Go.Lib.hid gA
      generalize wr.alloc (.cells #[.string ev.s, .string ev.t, .slice T nT cT, .slice Y nY cY] 69) = w5 at *
      generalize wr.heap.size = g at *
      have LT := Go.Lib.hid rT.len
      have LY := Go.Lib.hid rY.len
      have hnT := RdC.le rT
      have hnY := RdC.le rY
      unfold maxLen at hnT hnY
      clear sr k1 x0 x1 x2 x3 al gA
      have k2 := c5.c2
      go_upto_if 31 with (fail)
      go_cut [5] (fun p wx => p = .pointer (some ⟨g, 0, none⟩) ∧ ∃ nT', EvAt wx g (.string ev.s) (.string ev.t) (.slice T nT' cT) (.slice Y nY cY) ∧ RdS w0 T nT' cT (ev.tags.take 12) ∧ MkO w0 wx w kd nn fl a (.slice (some ⟨bt, ot, none⟩) n cap) A j ca (few6 (es.take j)))
      case first =>
        by_cases h8 : 12 < nT
        · obtain ⟨q1, d1⟩ := slice_hi (P := Tryz.prog) 61 9 Tryz.underlying61 elem_strs string_size rT (m := 12) (by omega)
          rw [strs_take] at d1
          have q1' : ∀ W, (Instr.slice 61 (.slice T nT cT) none (some (.int .i64 12)) none).run Tryz.prog W = .ok (.slice T 12 cT) W := q1
          have i3 : (12 : Int) < nT := by omega
          have z5 := c5.frozen 2
          have c6 := c5.set2 (.slice T 12 cT)
          have s6 := s5.far glt GA.out 2 (.slice T 12 cT)
          have C6 := Go.Lib.hid c6
          have S6 := Go.Lib.hid s6
          clear q1 c6 s6
          go_wp2_with fail
          go_meet
          exact ⟨rfl, 12, C6.out, d1, S6.out⟩
        · have i3 : ¬ (12 : Int) < nT := by omega
          have d1 : RdS w0 T nT cT (ev.tags.take 12) := by rw [List.take_of_length_le (by rw [LT.out]; omega)]; exact rT
          go_wp2_with fail
          go_meet
          exact ⟨rfl, nT, c5, d1, s5⟩
      case rest =>
        obtain ⟨rfl, nT', c6, d6, s6⟩ := hcut
        clear k2 c5 s5
        have k3 := c6.c3
        go_upto_if 39 with (fail)
        go_cut [5] (fun p wx => p = .pointer (some ⟨g, 0, none⟩) ∧ ∃ nY', EvAt wx g (.string ev.s) (.string ev.t) (.slice T nT' cT) (.slice Y nY' cY) ∧ RdF w0 Y nY' cY (ev.fs.take 12) ∧ MkO w0 wx w kd nn fl a (.slice (some ⟨bt, ot, none⟩) n cap) A j ca (few6 (es.take j)))
        case first =>
          by_cases h8 : 12 < nY
          · obtain ⟨q1, d1⟩ := slice_hi (P := Tryz.prog) 67 132 Tryz.underlying67 elem_flds field_size rY (m := 12) (by omega)
            rw [flds_take] at d1
            have q1' : ∀ W, (Instr.slice 67 (.slice Y nY cY) none (some (.int .i64 12)) none).run Tryz.prog W = .ok (.slice Y 12 cY) W := q1
            have i3 : (12 : Int) < nY := by omega
            have z5 := c6.frozen 3
            have c7 := c6.set3 (.slice Y 12 cY)
            have s7 := s6.far glt GA.out 3 (.slice Y 12 cY)
            have C7 := Go.Lib.hid c7
            have S7 := Go.Lib.hid s7
            clear q1 c7 s7
            go_wp2_with fail
            go_meet
            exact ⟨rfl, 12, C7.out, d1, S7.out⟩
          · have i3 : ¬ (12 : Int) < nY := by omega
            have d1 : RdF w0 Y nY cY (ev.fs.take 12) := by rw [List.take_of_length_le (by rw [LY.out]; omega)]; exact rY
            go_wp2_with fail
            go_meet
            exact ⟨rfl, nY, c6, d1, s6⟩
        case rest =>
          obtain ⟨rfl, nY', c7, d7, s7⟩ := hcut
          clear k3 c6 s6
          have k0 := c7.c0
          have k1 := c7.c1
          have k2 := c7.c2
          have k3 := c7.c3
          have o1 := s7.out.c1
          have al : Below wc.heap.size wc (wc.alloc (.cells #[.string ev.s, .string ev.t, .slice T nT' cT, .slice Y nY' cY] 69)) := (Below.refl _ _).alloc (Nat.le_refl _) _
          have s8 := s7.below al
          have d8 : RdC 4 (wc.alloc (.cells #[.string ev.s, .string ev.t, .slice T nT' cT, .slice Y nY' cY] 69)) (some ⟨wc.heap.size, 0, none⟩) 1 1 [.string ev.s, .string ev.t, .slice T nT' cT, .slice Y nY' cY] := RdC.new wc 69 [.string ev.s, .string ev.t, .slice T nT' cT, .slice Y nY' cY] rfl (by decide)
          have big : w.heap.size + 1 + 1 + 1 ≤ (wc.alloc (.cells #[.string ev.s, .string ev.t, .slice T nT' cT, .slice Y nY' cY] 69)).heap.size := s8.out.lt
          have h63 : j + 1 ≤ maxLen := by unfold maxLen; omega
          have hsz : (j + 1) * 80 ≤ 140737488355328 := by omega
          obtain ⟨cs, oc, hcl, hcs⟩ := s8.own
          clear s7 c7 GA al LT LY hnT hnY
          go_wp2_with (at_builtin; refine wpList_append_cells rfl (.tmp 45) (.tmp 47) 37 rfl 69 (.agg #[.string ⟨#[]⟩, .string ⟨#[]⟩, .slice none 0 0, .slice none 0 0]) 80 Tryz.underlying37 event_info rfl (by decide) rfl rfl oc d8 (ev_one ev _ _ _ _ _ _) h63 hsz big ?_; intro A9 c9 w9 o9 g9 _; obtain ⟨z9, k9, n9⟩ := s8.more (e := fewE ev) oc hcs d6 d7 o9 g9)
          go_roundw
          case rel => exact ⟨j + 1, A9, c9, by omega, by omega, by go_num, by rw [HS.out]; exact n9⟩
          case measure => simp [intOf]; omega
    · have hq : few6 (es.take j) = few6 es := few6_take es j (by rw [LC.out]; omega)
      rw [hq] at sr
      clear hq
      have o0 := sr.out.c0
      have o1 := sr.out.c1
      have z3 := sr.eq.frozen 3
      have z4 := sr.eq.frozen 4
      have e3 := sr.eq.c3
      have e4 := sr.eq.c4
      have L9 := Go.Lib.hid sr.lay
      by_cases h1 : j < n
      · have i2 : ¬ (j : Int) < 6 := by omega
        have i1 : (j : Int) < n := by omega
        clear hlt
        go_upto_region 12 with (fail)
        have l9 := L9.out
        clear L9 o0 o1 z3 z4 e3 e4
        generalize (wr.setCell ⟨w.heap.size, 3, none⟩ (.int .i64 a)).setCell ⟨w.heap.size, 4, none⟩ (.slice A j ca) = w9 at *
        have e0 := l9.eq.c0
        have e1 := l9.eq.c1
        have e2 := l9.eq.c2
        have e3 := l9.eq.c3
        have e4 := l9.eq.c4
        have r0 := l9.res.c0
        have r1 := l9.res.c1
        have r2 := l9.res.c2
        have r3 := l9.res.c3
        have r4 := l9.res.c4
        have z0 := l9.res.frozen 0
        have z1 := l9.res.frozen 1
        have z2 := l9.res.frozen 2
        have z3 := l9.res.frozen 3
        have z4 := l9.res.frozen 4
        obtain ⟨f1, f2, f3⟩ := l9.fin (.int .i64 kd) (.int .i64 nn) (.int .i64 fl) (.int .i64 a) (.slice A j ca)
        have F1 := Go.Lib.hid f1
        have F2 := Go.Lib.hid f2
        have F3 := Go.Lib.hid f3
        unfold resO at F1 F2 F3
        clear f1 f2 f3 l9 sr
        go_wp2_with fail
        have q9 := F1.out
        have rq9 := F2.out
        have b9 := F3.out
        generalize ((((w9.setCell ⟨w.heap.size + 1, 0, none⟩ (.int .i64 kd)).setCell ⟨w.heap.size + 1, 1, none⟩ (.int .i64 nn)).setCell ⟨w.heap.size + 1, 2, none⟩ (.int .i64 fl)).setCell ⟨w.heap.size + 1, 3, none⟩ (.int .i64 a)).setCell ⟨w.heap.size + 1, 4, none⟩ (.slice A j ca) = w10 at *
        have y0 := q9.c0
        have y1 := q9.c1
        have y2 := q9.c2
        have y3 := q9.c3
        have y4 := q9.c4
        exact bodyPost_ret (v := .agg #[.int .i64 kd, .int .i64 nn, .int .i64 fl, .int .i64 a, .slice A j ca]) (by simp [results, Tryz.results15, go_sem, y0, y1, y2, y3, y4]) rfl ⟨_, _, _, rfl, rq9, b9⟩
      · have i1 : ¬ (j : Int) < n := by omega
        clear hlt
        go_upto_region 12 with (fail)
        have l9 := L9.out
        clear L9 o0 o1 z3 z4 e3 e4
        generalize (wr.setCell ⟨w.heap.size, 3, none⟩ (.int .i64 a)).setCell ⟨w.heap.size, 4, none⟩ (.slice A j ca) = w9 at *
        have e0 := l9.eq.c0
        have e1 := l9.eq.c1
        have e2 := l9.eq.c2
        have e3 := l9.eq.c3
        have e4 := l9.eq.c4
        have r0 := l9.res.c0
        have r1 := l9.res.c1
        have r2 := l9.res.c2
        have r3 := l9.res.c3
        have r4 := l9.res.c4
        have z0 := l9.res.frozen 0
        have z1 := l9.res.frozen 1
        have z2 := l9.res.frozen 2
        have z3 := l9.res.frozen 3
        have z4 := l9.res.frozen 4
        obtain ⟨f1, f2, f3⟩ := l9.fin (.int .i64 kd) (.int .i64 nn) (.int .i64 fl) (.int .i64 a) (.slice A j ca)
        have F1 := Go.Lib.hid f1
        have F2 := Go.Lib.hid f2
        have F3 := Go.Lib.hid f3
        unfold resO at F1 F2 F3
        clear f1 f2 f3 l9 sr
        go_wp2_with fail
        have q9 := F1.out
        have rq9 := F2.out
        have b9 := F3.out
        generalize ((((w9.setCell ⟨w.heap.size + 1, 0, none⟩ (.int .i64 kd)).setCell ⟨w.heap.size + 1, 1, none⟩ (.int .i64 nn)).setCell ⟨w.heap.size + 1, 2, none⟩ (.int .i64 fl)).setCell ⟨w.heap.size + 1, 3, none⟩ (.int .i64 a)).setCell ⟨w.heap.size + 1, 4, none⟩ (.slice A j ca) = w10 at *
        have y0 := q9.c0
        have y1 := q9.c1
        have y2 := q9.c2
        have y3 := q9.c3
        have y4 := q9.c4
        exact bodyPost_ret (v := .agg #[.int .i64 kd, .int .i64 nn, .int .i64 fl, .int .i64 a, .slice A j ca]) (by simp [results, Tryz.results15, go_sem, y0, y1, y2, y3, y4]) rfl ⟨_, _, _, rfl, rq9, b9⟩
end Go.Proofs.YtppidbdkejkopaaGreatDoor.BtWalk
namespace Go.Proofs.YtppidbdkejkopaaGreatDoor.WlWalk
open Go.RowKit MemRow Ev NameMath NameWalk EvWalk NumMem DkWalk FrMath BtWalk EdWalk
set_option maxRecDepth 100000 in
theorem kind11_any (c : Int) (n : Nat) (w : World) (hc : -9223372036854775808 ≤ c ∧ c ≤ 9223372036854775807) (h0 : 0 < n) (h1 : n ≤ 1000000) :
    Calls Tryz.prog 11 #[.int .i64 c, .int .i64 n] w fun e w' => e = .returned (.int .i64 (kindN c n)) ∧ w = w' := by
  have hk := kindN_eq c h0
  have hn0 : (n : Int) ≠ 0 := by omega
  have hn1 : (n : Int) ≠ -1 := by omega
  by_cases hneg : c < 0
  · rw [if_pos hneg] at hk
    have ht : Int.tmod (-(c + 1)) n = ((kindN c n : Nat) : Int) := by rw [hk]; exact Int.tmod_eq_emod_of_nonneg (by omega)
    have hl := kindN_lt c h0
    generalize kindN c n = k at *
    clear hk
    go_enter Tryz.func11, Tryz.ntmps11
    go_wp2_with fail
    go_ret
    exact ⟨by simp, rfl⟩
  · rw [if_neg hneg] at hk
    have ht : Int.tmod c n = ((kindN c n : Nat) : Int) := by rw [hk]; exact Int.tmod_eq_emod_of_nonneg (by omega)
    have hl := kindN_lt c h0
    generalize kindN c n = k at *
    clear hk
    go_enter Tryz.func11, Tryz.ntmps11
    go_wp2_with fail
    go_ret
    exact ⟨by simp, rfl⟩
section
variable {base : Nat} {w : World} {P Q : Thing} {gl g many : Nat} {last : Int}
set_option maxRecDepth 100000 in
theorem lastL_any (h : Pair base w P (With Q (LlT gl g many last))) :
    Calls Tryz.prog 18 #[.pointer (some ⟨gl, 0, none⟩)] w fun e w' => e = .returned (.int .i64 last) ∧ w = w' := by
  obtain ⟨_, l1, l2, _, _, _⟩ := ll_cells h
  go_enter Tryz.func18, Tryz.ntmps18
  go_wp2_with fail
  go_ret
  exact ⟨rfl, rfl⟩
set_option maxRecDepth 100000 in
theorem segsL_any (h : Pair base w P (With Q (LlT gl g many last))) :
    Calls Tryz.prog 19 #[.pointer (some ⟨gl, 0, none⟩)] w fun e w' => e = .returned (.int .i64 (many : Int)) ∧ w = w' := by
  obtain ⟨_, l1, l2, _, _, _⟩ := ll_cells h
  go_enter Tryz.func19, Tryz.ntmps19
  go_wp2_with fail
  go_ret
  exact ⟨rfl, rfl⟩
end
theorem chained_le : ∀ (xs : List Bat) (l : Int), Chained xs l → (0 ≤ l) → l ≤ 1048576 → l + (tot xs : Int) ≤ 1048576
  | [], l, _, _, h => by simp [tot]; exact h
  | x :: xs, l, ⟨h1, _, h3, h4⟩, h0, _ => by
    obtain ⟨_, _, _, _, z5⟩ := (mayX_zero x).1 h1
    have := chained_le xs (l + (x.es.length : Int)) h4 (by omega) (by rw [← h3]; exact z5)
    rw [tot_cons]
    push_cast
    omega
theorem LogD.tot_le {D : Dk} {ss : List (List Bat)} (h : LogD D ss) : (tot ss.flatten : Int) ≤ 1048576 := by
  have := chained_le ss.flatten 0 h.ch (by omega) (by omega)
  omega
theorem LogD.many_le {D : Dk} {ss : List (List Bat)} (h : LogD D ss) : ss.length ≤ 200 := by
  have := h.segs.le
  rwa [safed_len, List.length_map] at this
theorem appendW_can {D : Dk} {ss : List (List Bat)} {x : Bat} (h : LogD D ss) (hl : D.left = -1) (hx : mayX x = 0) (ha : x.a = (tot ss.flatten : Int)) (he : (encX x).length ≤ maxF) (hn : ss.length < 200) (hq : ((usedF D.fs + (frameF (encX x)).length : Nat) : Int) ≤ D.quota) :
    (appendW D ss.length (tot ss.flatten : Int) x).1 = 0 := by
  have hl0 : D.left ≠ 0 := by omega
  have hfl := frameF_length (encX x)
  have hnx : 1 ≤ nextW D ss.length ∧ nextW D ss.length ≤ 200 := by unfold nextW; split <;> omega
  have hlen := h.len
  have hA : (appendD D (segN (nextW D ss.length)) (frameF (encX x))).1 = 0 := by
    refine append_ok_if hl0 _ _ (segN_may hnx.1 hnx.2) ?_ (.inr (by omega)) hq
    have hm : maxF = 16384 := rfl
    by_cases hc : ss.length = 0 ∨ 2048 ≤ (readB D (segN ss.length)).length
    · have e : nextW D ss.length = ss.length + 1 := by unfold nextW; rw [if_pos hc]
      rw [e, h.segs.no (i := ss.length) (by rw [safed_len, List.length_map]; exact Nat.le_refl _)]
      simp only [Option.map_none, Option.getD_none, List.length_nil]
      omega
    · have e : nextW D ss.length = ss.length := by unfold nextW; rw [if_neg hc]
      have := (read_lk D (segN ss.length)).2
      rw [e, ← this]
      omega
  rcases appendW_log x h with ⟨h1, _⟩ | ⟨h1, _⟩ | ⟨_, h2, _⟩
  · exfalso
    apply h1
    unfold appendW
    rw [if_neg (by simpa using hx), if_neg (by simpa using ha), if_neg (by omega), if_neg (by simpa using hA)]
    obtain ⟨_, a2, _, a4⟩ := append_yes h.go hl0 _ _ hA
    have hg := append_go h.go (segN (nextW D ss.length)) (frameF (encX x))
    have hl2 : (appendD D (segN (nextW D ss.length)) (frameF (encX x))).2.left ≠ 0 := by rw [a2.left, left_off hl]; decide
    have hs := a4 (segN (nextW D ss.length))
    rw [if_pos rfl] at hs
    rw [if_neg (by rw [(sync_yes hg hl2 hs).1]; decide)]
  · exact h1
  · exact absurd hl h2
theorem openW_log {D : Dk} {ss : List (List Bat)} (h : LogD D ss) (hl : D.left = -1) : (openW D).1 = 0 ∧ LogD (openW D).2.1 ss ∧ (openW D).2.1.left = -1 ∧ (openW D).2.1.quota = D.quota ∧ (openW D).2.2.all = ss.flatten ∧ (openW D).2.2.many = ss.length ∧ (openW D).2.2.last = (tot ss.flatten : Int) := by
  obtain ⟨o1, o2, o3, o4, o5, o6, o7, o8⟩ := openW_segs h.go hl h.segs
  have hr := h.read
  rw [hr] at o6 o7 o8
  have hf : fixW (bts (safed (ss.map bytesW))) 0 = ss.map bytesW := by
    rw [bts_safed]
    have := fixW_of ss 0 [] h.ch
    rw [List.append_nil] at this
    rw [this]
    simp [fixW]
  rw [hf] at o2
  exact ⟨o1, ⟨o3, o2, h.ch⟩, o4, o5, o6, o7, o8⟩
theorem LogD.crash {D : Dk} {ss : List (List Bat)} (h : LogD D ss) (keep : Int) : LogD (crashD D keep) ss ∧ (crashD D keep).left = -1 ∧ (crashD D keep).quota = D.quota := by
  have hs := h.segs.crash h.go keep
  rw [cut_same (safed_safe _)] at hs
  exact ⟨⟨crash_go h.go keep, hs, h.ch⟩, rfl, rfl⟩
def exB (a : Int) : Bat := ⟨a, [exE]⟩
theorem exB_may {a : Int} (h0 : 0 ≤ a) (h1 : a ≤ 1048575) : mayX (exB a) = 0 := (mayX_zero _).2 ⟨Nat.le_refl 1, (by show 1 ≤ 16; decide), by intro e he; rw [exB, List.mem_singleton] at he; subst he; exact exE_may, h0, by show a + ((1 : Nat) : Int) ≤ 1048576; omega⟩
theorem exB_ok {a : Int} (h : -9223372036854775808 ≤ a ∧ a ≤ 9223372036854775807) : BOk (exB a) := ⟨by intro e he; rw [exB, List.mem_singleton] at he; subst he; exact exE_ok, h.1, h.2⟩
end Go.Proofs.YtppidbdkejkopaaGreatDoor.WlWalk
namespace Go.Proofs.YtppidbdkejkopaaGreatDoor.WlWalk
open Go.RowKit MemRow Ev NameMath NameWalk EvWalk NumMem NumMath DkWalk FrMath BtWalk EcWalk EdWalk
open Go.Lib (decDigits)
theorem exB_len {a : Int} (h0 : 0 ≤ a) (h1 : a ≤ 1048575) : (encX (exB a)).length ≤ 30 := by
  have e0 := exE_enc
  rw [List.nil_append] at e0
  have e1 := enc_le a (by omega) (by omega)
  have e2 : enc ((([exE] : List Ev).length : Nat) : Int) = [2] := by rw [enc_small (by decide) (by decide)]; rfl
  unfold encX exB evsE
  simp only [List.flatMap_cons, List.flatMap_nil]
  rw [e0, e2]
  simp only [List.length_append, List.length_cons, List.length_nil]
  omega
theorem exB_isb (w : World) (a : Int) : IsB (w.alloc (.cells #[.string ⟨#[115]⟩, .string ⟨#[116]⟩, .slice none 0 0, .slice none 0 0] 69)) (.agg #[.int .i64 a, .slice (some ⟨w.heap.size, 0, none⟩) 1 1]) (exB a) := by
  have e1 := EvAt.new w (.string ⟨#[115]⟩) (.string ⟨#[116]⟩) (.slice none 0 0) (.slice none 0 0)
  exact ⟨_, _, _, rfl, rfl, Nat.le_refl _, by decide, fun _ => ⟨w.heap.size, 0, rfl, e1.lt, fun i hi => by
      obtain rfl : i = 0 := by omega
      exact ⟨none, 0, 0, none, 0, 0, e1.c0, e1.c1, e1.c2, e1.c3, RdC.nil _, RdC.nil _⟩⟩⟩
theorem seg12 : segN 12 = ⟨#[108, 111, 103, 95, 49, 50]⟩ := by
  rw [segN_in (by decide) (by decide)]
  have e : decDigits 12 = [49, 50] := by first | rfl | (rw [decDigits, if_neg (by decide), decDigits, if_pos (by decide)]; rfl) | simp [decDigits]
  rw [e]
  rfl
theorem openL_log {base : Nat} {w : World} {Q : Thing} {g : Nat} {D : Dk} {ss : List (List Bat)} (hp : Pair base w (LdT g D) Q) (kq : Keeps Q) (hb : base ≤ w.heap.size) (ht : TabB base w) (h : LogD D ss) (hl : D.left = -1) :
    Calls Tryz.prog 13 #[.pointer (some ⟨g, 0, none⟩)] w fun e w' => ∃ D' gl A n c, e = .returned (.tuple #[.pointer (some ⟨gl, 0, none⟩), .slice A n c, .int .i64 0]) ∧ LogD D' ss ∧ D'.left = -1 ∧ D'.quota = D.quota ∧ Pair base w' (LdT g D') (With (With Q (LlT gl g ss.length (tot ss.flatten : Int))) (BsT base A n c ss.flatten)) ∧ Below base w w' := by
  obtain ⟨o1, o2, o3, o4, o5, o6, o7⟩ := openW_log h hl
  refine (openL_any hp kq hb h.go ht).mono ?_
  rintro e w' ⟨⟨_, gl, A, n, c, rfl, p⟩ | ⟨h1, _⟩, b⟩
  · rw [o5, o6, o7] at p
    exact ⟨_, gl, A, n, c, rfl, o2, o3, o4, p, b⟩
  · exact absurd o1 h1
set_option maxHeartbeats 8000000 in
set_option maxRecDepth 100000 in
theorem shown11_any (w : World) (ht : TabB w.heap.size w) : Calls Tryz.prog 9 #[] w fun e w' => e = .returned (.bool true) ∧ Below w.heap.size w w' := by
  go_enter Tryz.func9, Tryz.ntmps9
  go_wp2_with fail
  refine (pr_alone w 1000).mono ?_
  rintro e w1 ⟨g, rfl, p1, b1⟩
  have hL : LogD (newD 1000) [] := LogD.new (by decide)
  have hb1 := b1.size
  go_wp2_with fail
  refine (openL_log p1 noT_keeps hb1 (ht.on b1) hL rfl).mono ?_
  rintro e w2 ⟨D2, gl, A, n, c, rfl, l2, f2, q2, p2, b2⟩
  have B2 := b1.trans b2
  have hb2 := Nat.le_trans hb1 b2.size
  have hn : n = 0 := by
    obtain ⟨_, _, _, ⟨_, _, _, hbs, _⟩, _⟩ := p2
    exact hbs.own.len.symm
  subst hn
  have p3 := pair_first p2
  have k3 : Keeps (With NoT (LlT gl g ([] : List (List Bat)).length (tot ([] : List (List Bat)).flatten : Int))) := with_keeps noT_keeps (bxT_keeps _ _ _)
  have al : Below w2.heap.size w2 (w2.alloc (.cells #[.string ⟨#[115]⟩, .string ⟨#[116]⟩, .slice none 0 0, .slice none 0 0] 69)) := (Below.refl _ _).alloc (Nat.le_refl _) _
  have p4 := p3.below (ldT_keeps g D2) k3 al
  have B4 := B2.trans (bel_up hb2 al)
  have hb4 := Nat.le_trans hb2 al.size
  have iv := exB_isb w2 0
  have hu : usedF D2.fs = 0 := by rw [l2.used]; rfl
  have hfl := frameF_length (encX (exB 0))
  have hxl := exB_len (a := 0) (by omega) (by omega)
  have hcan := appendW_can (x := exB 0) l2 f2 (exB_may (by omega) (by omega)) rfl (by unfold maxF; omega) (by simp) (by rw [hu, q2]; show ((0 + (frameF (encX (exB 0))).length : Nat) : Int) ≤ 1000; omega)
  obtain ⟨a1, a2, a3, a4⟩ := appendL_eq D2 ([] : List (List Bat)).length (tot ([] : List (List Bat)).flatten : Int) (exB 0)
  have happ : (appendL D2 ([] : List (List Bat)).length (tot ([] : List (List Bat)).flatten : Int) (exB 0)).1 = 0 ∧ (appendL D2 ([] : List (List Bat)).length (tot ([] : List (List Bat)).flatten : Int) (exB 0)).2.2.2 = 1 := by
    refine ⟨a1.trans hcan, ?_⟩
    rw [a3]
    rcases appendW_log (exB 0) l2 with ⟨h1, _⟩ | ⟨_, ss', _, h2, h3, _⟩ | ⟨_, h2, _⟩
    · exact absurd hcan h1
    · rw [h3, h2]
      rfl
    · exact absurd f2 h2
  clear p1 p2 p3 b1 b2 B2 hb1 hu hfl hxl hcan a1 a2 a3 a4 hL
  go_wp2_with fail
  generalize w2.alloc (.cells #[.string ⟨#[115]⟩, .string ⟨#[116]⟩, .slice none 0 0, .slice none 0 0] 69) = w4 at *
  refine (appL_any p4 noT_keeps hb4 l2.go (ht.on B4) iv (exB_ok (by omega)) (by simp) (by simp [tot])).mono ?_
  rw [happ.1, happ.2]
  generalize (appendL D2 ([] : List (List Bat)).length (tot ([] : List (List Bat)).flatten : Int) (exB 0)) = R at *
  rintro e w5 ⟨rfl, p5, b5⟩
  have B5 := B4.trans b5
  have hs := segL_any 12 w5 (ht.on B5).here
  have e12 : segZ 12 = ⟨#[108, 111, 103, 95, 49, 50]⟩ := seg12
  rw [e12] at hs
  have hlast := lastL_any p5
  have hb5 := Nat.le_trans hb4 b5.size
  clear p4 iv B4 al hb4 b5 l2 f2 q2 happ
  go_wp2_with (first
    | (go_at_call 18; refine hlast.mono ?_; rintro e w6 ⟨rfl, rfl⟩)
    | (go_at_call 23; refine hs.mono ?_; rintro e w7 ⟨rfl, b7⟩))
  go_ret
  exact ⟨rfl, B5.trans (bel_up hb5 b7)⟩
end Go.Proofs.YtppidbdkejkopaaGreatDoor.WlWalk
namespace Go.Proofs.YtppidbdkejkopaaGreatDoor.WlWalk
open Go.RowKit MemRow Ev NameMath NameWalk EvWalk NumMem DkWalk FrMath BtWalk EcWalk EdWalk
def EvT (W0 : World) (E : Option Addr) (i d : Nat) (es : List Ev) : Thing := fun w G => (∀ w', Below W0.heap.size W0 w' → (∀ k, G k → w'.heap[k]? = w.heap[k]?) → RdE w' E i d es) ∧ ∀ k, G k → k < w.heap.size
theorem evT_keeps (W0 : World) (E : Option Addr) (i d : Nat) (es : List Ev) : Keeps (EvT W0 E i d es) :=
  ⟨fun h hs hk => ⟨fun w2 hb h2 => h.1 w2 hb fun k hf => (h2 k hf).trans (hk k hf), fun k hf => Nat.lt_of_lt_of_le (h.2 k hf) hs⟩, fun h => h.2⟩
theorem EvT.now {W0 w : World} {E : Option Addr} {i d : Nat} {es : List Ev} {G : Nat → Prop} (h : EvT W0 E i d es w G) (hb : Below W0.heap.size W0 w) : RdE w E i d es := h.1 w hb fun _ _ => rfl
theorem evT_of {W0 w w' : World} {lo : Nat} {E : Option Addr} {i d : Nat} {es : List Ev} (h : OwnO W0 w' lo E i d es) (hlo : w.heap.size ≤ lo) : EvT W0 E i d es w' (fun k => w.heap.size ≤ k ∧ k < w'.heap.size) := by
  refine ⟨fun w2 hb hk => ?_, fun k hk => hk.2⟩
  obtain ⟨cs, o, hl, hc⟩ := h
  have o2 : OwnC 4 w2 lo 69 E i d cs := own_keep o fun a ha => hk _ ⟨Nat.le_trans hlo (OwnC.lt o a ha).1, (OwnC.lt o a ha).2⟩
  exact OwnO.rd (base := lo) ⟨cs, o2, hl, hc⟩ hb
theorem pair_ev {W0 w : World} {P Q : Thing} {E : Option Addr} {i d : Nat} {es : List Ev} (hp : Pair W0.heap.size w P (With Q (EvT W0 E i d es))) (hB : Below W0.heap.size W0 w) : RdE w E i d es := by
  obtain ⟨_, _, _, ⟨_, _, _, hr, _⟩, _⟩ := hp
  exact hr.now hB
end Go.Proofs.YtppidbdkejkopaaGreatDoor.WlWalk
namespace Go.Proofs.YtppidbdkejkopaaGreatDoor.WlWalk
open Go.RowKit MemRow Ev NameMath NameWalk EvWalk NumMem DkWalk FrMath BtWalk EcWalk EdWalk
theorem sameBs_true {A B : Option Addr} {n m ca cb : Nat} {xs : List Bat} {w : World} (ha : RdBs w A n ca xs) (hb : RdBs w B m cb xs) :
    Calls Tryz.prog 26 #[.slice A n ca, .slice B m cb] w fun e w' => e = .returned (.bool true) ∧ Below w.heap.size w w' :=
  (refSameBs_any A B n m ca cb xs xs w ha hb).mono fun _ _ ⟨R, hR, he, hb⟩ => by
    obtain rfl : R = true := hR.2 rfl
    exact ⟨he, hb⟩
theorem few_ok {q : Wop} (h : WopOk q) {z : Int} (hz : 0 ≤ z ∧ z ≤ 1048576) : BOk ⟨z, few6 q.x.es⟩ := ⟨fun e he => by
  obtain ⟨e0, h0, rfl⟩ := List.mem_map.1 he
  exact fewE_ok (h.x.evs e0 (List.mem_of_mem_take h0)), (by show -9223372036854775808 ≤ z; omega), (by show z ≤ 9223372036854775807; omega)⟩
end Go.Proofs.YtppidbdkejkopaaGreatDoor.WlWalk
namespace Go.Proofs.YtppidbdkejkopaaGreatDoor.HeldAt
open Go
theorem take_at {P : Program} {ops : Array Oper} {Q : Exit → Act → World → Prop} {md : Region.Mode} {S : World → Prop} {i d : Nat} {oi : Oper} {v : Value} {fuel : Nat} {listed : Array Bool} {a : Act} {w : World} (hi : ops[i]? = some oi) (hd : oi.dst = some d)
    (hs : Region.noSelect ops = true) (hf : Region.free md ops listed i = true) (hr : (Region.ready md ops listed).contains i = true)
    (hQ : ∀ c a w, Q (.panic c) (a.put oi.dst v) w → Q (.panic c) a w) (hy : YieldsIf P ops S oi v a) (hS : S w)
    (h : wpAnyH P md ops Q S fuel (listed.setIfInBounds i true) (a.put (some d) v) w) : wpAnyH P md ops Q S (fuel + 1) listed a w :=
  wpAnyH_take hi hs hf hr hQ hy hS (by rw [hd]; exact h)
theorem wpAnyH_more {P : Program} {ops : Array Oper} {Q : Exit → Act → World → Prop} {md : Region.Mode} {S S' : World → Prop} (hs : ∀ w, S' w → S w) : ∀ {fuel : Nat} {listed : Array Bool} {a : Act} {w : World}, wpAnyH P md ops Q S' fuel listed a w → wpAnyH P md ops Q S fuel listed a w
  | 0, _, _, _, h => h
  | _ + 1, _, _, _, h => ⟨h.1, fun i hi => wpOp_mono (fun _ w' h' => ⟨hs w' h'.1, wpAnyH_more hs h'.2⟩) (h.2 i hi)⟩
end Go.Proofs.YtppidbdkejkopaaGreatDoor.HeldAt
