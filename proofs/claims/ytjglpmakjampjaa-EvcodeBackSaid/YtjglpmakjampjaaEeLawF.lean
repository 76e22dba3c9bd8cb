/-
  Walk of a statement of layer 5: EvcodeBack.
-/
import Derived.Test.YtjglpmakjampjaaEeLawD
import Derived.Test.YtjglpmakjampjaaEeCut
namespace Go.Proofs.Ytjglpmakjampjaa.EeLaw
open Go.RowKit Go.WideShapes Go.ChangeShapes Go.Proofs.Ytjglpmakjampjaa.MemRow Go.Proofs.Ytjglpmakjampjaa.Ev Go.Proofs.Ytjglpmakjampjaa.NameMath Go.Proofs.Ytjglpmakjampjaa.NameWalk Go.Proofs.Ytjglpmakjampjaa.EvWalk Go.Proofs.Ytjglpmakjampjaa.NumMath Go.Proofs.Ytjglpmakjampjaa.NumMem Go.Proofs.Ytjglpmakjampjaa.NumWalk Go.Proofs.Ytjglpmakjampjaa.EcWalk Go.Proofs.Ytjglpmakjampjaa.EdWalk Go.Proofs.Ytjglpmakjampjaa.Open

/-! ### A row of the call's own that holds events whose rows are older -/
def EvsR (w0 : World) : List Ev → List Value → Prop
  | [], cs => cs = []
  | e :: es, cs => ∃ T nT cT F nF cF cs', cs = .string e.s :: .string e.t :: .slice T nT cT :: .slice F nF cF :: cs' ∧ RdS w0 T nT cT e.tags ∧ RdF w0 F nF cF e.fs ∧ EvsR w0 es cs'
theorem EvsR.snoc {w : World} {e : Ev} {T F : Option Addr} {nT cT nF cF : Nat} (o1 : RdS w T nT cT e.tags) (o2 : RdF w F nF cF e.fs) :
    ∀ (es : List Ev) (cs : List Value), EvsR w es cs → EvsR w (es ++ [e]) (cs ++ [.string e.s, .string e.t, .slice T nT cT, .slice F nF cF])
  | [], cs, h => by
    obtain rfl : cs = [] := h
    exact ⟨T, nT, cT, F, nF, cF, [], rfl, o1, o2, rfl⟩
  | x :: es, cs, ⟨T1, n1, c1, F1, m1, d1, cs', hc, p1, p2, h⟩ => by
    subst hc
    exact ⟨T1, n1, c1, F1, m1, d1, cs' ++ [.string e.s, .string e.t, .slice T nT cT, .slice F nF cF], rfl, p1, p2, EvsR.snoc o1 o2 es cs' h⟩
theorem EvsR.at_ {w : World} : ∀ (es : List Ev) (cs : List Value), EvsR w es cs → ∀ i, i < es.length →
    ∃ T nT cT F nF cF, cs[i * 4]? = some (.string (es.getD i noEv).s) ∧ cs[i * 4 + 1]? = some (.string (es.getD i noEv).t) ∧ cs[i * 4 + 2]? = some (.slice T nT cT) ∧ cs[i * 4 + 3]? = some (.slice F nF cF) ∧ RdS w T nT cT (es.getD i noEv).tags ∧ RdF w F nF cF (es.getD i noEv).fs
  | [], _, _, i, hi => by simp at hi
  | e :: es, cs, ⟨T, nT, cT, F, nF, cF, cs', hc, o1, o2, h⟩, i, hi => by
    subst hc
    cases i with
    | zero => exact ⟨T, nT, cT, F, nF, cF, rfl, rfl, rfl, rfl, o1, o2⟩
    | succ i =>
      obtain ⟨T1, n1, c1, F1, m1, d1, q0, q1, q2, q3, p1, p2⟩ := EvsR.at_ es cs' h i (by simpa using hi)
      have e4 : (i + 1) * 4 = i * 4 + 4 := by omega
      rw [e4]
      exact ⟨T1, n1, c1, F1, m1, d1, by simpa using q0, by simpa using q1, by simpa using q2, by simpa using q3, by simpa using p1, by simpa using p2⟩
def OwnR (w0 w : World) (base : Nat) (A : Option Addr) (n cap : Nat) (es : List Ev) : Prop := ∃ cs, OwnC 4 w base 26 A n cap cs ∧ es.length = n ∧ EvsR w0 es cs
theorem OwnR.rd {w0 w : World} {base : Nat} {A : Option Addr} {n cap : Nat} {es : List Ev} (h : OwnR w0 w base A n cap es) (hb : Below w0.heap.size w0 w) : RdE w A n cap es := by
  obtain ⟨cs, o, hl, hc⟩ := h
  have r := OwnC.rd o
  refine ⟨hl, r.2.1, r.2.2.1, fun hn => ?_⟩
  obtain ⟨b, a, hA, hlt, hcell⟩ := RdC.at_ r (by omega) hn
  refine ⟨b, a, hA, hlt, fun i hi => ?_⟩
  obtain ⟨T, nT, cT, F, nF, cF, q0, q1, q2, q3, p1, p2⟩ := EvsR.at_ es cs hc i (by omega)
  exact ⟨T, nT, cT, F, nF, cF, hcell _ _ q0, by rw [Nat.add_assoc]; exact hcell _ _ q1, by rw [Nat.add_assoc]; exact hcell _ _ q2, by rw [Nat.add_assoc]; exact hcell _ _ q3, RdC.below p1 hb, RdC.below p2 hb⟩
theorem RdE.first {w : World} {A : Option Addr} {n cap : Nat} {es : List Ev} (h : RdE w A n cap es) {k : Nat} (hk : k ≤ n) : RdE w A k cap (es.take k) := by
  have hl := h.len
  refine ⟨by rw [List.length_take]; omega, Nat.le_trans hk h.2.1, h.2.2.1, fun hn => ?_⟩
  obtain ⟨b, o, hA, hlt, hc⟩ := h.at_ (by omega)
  refine ⟨b, o, hA, hlt, fun i hi => ?_⟩
  have := hc i (by omega)
  have e : (es.take k).getD i noEv = es.getD i noEv := by simp [List.getD, hi]
  rw [e]
  exact this

/-! ### A row of numbers -/
def intsV (zs : List Int) : List Value := zs.map fun z => .int .i64 z
theorem intsV_one (zs : List Int) : ∀ v ∈ intsV zs, v.oneCell' = true := by
  intro v hv
  simp only [intsV, List.mem_map] at hv
  obtain ⟨c, _, rfl⟩ := hv
  rfl
theorem int_info : (Try.prog.info? 3).map (fun i => (i.zero, i.size, i.bytes)) = some (some (.int .i64 0), 1, 8) := by kernel_rfl
theorem own_one (w : World) (t : TypeId) (v : Value) {base : Nat} (hb : base ≤ w.heap.size) : OwnC 1 (w.alloc (.cells #[v] t)) base t (some ⟨w.heap.size, 0, none⟩) 1 1 [v] :=
  ⟨rfl, .inr ⟨w.heap.size, 1, #[v], rfl, hb, heap_alloc_new w _, Nat.le_refl _, by decide, rfl, rfl⟩⟩

/-- What stands while events are laid down: the bytes, the events, where they end. -/
structure BkAt (wr w : World) (B : Option Addr) (m c : Nat) (x : List UInt8) (I : Option Addr) (q ci : Nat) (ys : List Ev) (E : Option Addr) (ce : Nat) (zs : List Int) : Prop where
  ob : OwnC 1 wr w.heap.size 5 B m c (cellsOf x)
  oi : OwnR w wr w.heap.size I q ci ys
  oe : OwnC 1 wr w.heap.size 3 E (q + 1) ce (intsV zs)
  be : Below w.heap.size w wr
section
variable {wr w w' : World} {B I E : Option Addr} {m c q ci ce : Nat} {x : List UInt8} {ys : List Ev} {zs : List Int}
theorem BkAt.below (h : BkAt wr w B m c x I q ci ys E ce zs) (hb : Below wr.heap.size wr w') : BkAt w' w B m c x I q ci ys E ce zs := by
  obtain ⟨cs, o, hl, hc⟩ := h.oi
  exact ⟨OwnC.below h.ob hb, ⟨cs, OwnC.below o hb, hl, hc⟩, OwnC.below h.oe hb, below_chain h.be hb⟩
end
/-- The first k numbers are where the events end. -/
def EndsAt (ys : List Ev) (zs : List Int) : Prop := zs.length = ys.length + 1 ∧ ∀ k, k ≤ ys.length → zs.getD k 0 = (endAt ys k : Int)
theorem EndsAt.nil : EndsAt [] [0] := ⟨rfl, fun k hk => by
  have h : k = 0 := by simpa using hk
  subst h
  rfl⟩
theorem EndsAt.more {ys : List Ev} {zs : List Int} {e : Ev} {n : Nat} (h : EndsAt ys zs) (hn : n = ((ys ++ [e]).flatMap encE).length) : EndsAt (ys ++ [e]) (zs ++ [(n : Int)]) := by
  obtain ⟨hl, hk⟩ := h
  refine ⟨by simp [hl], fun k hk' => ?_⟩
  rw [List.length_append] at hk'
  simp only [List.length_singleton] at hk'
  rcases Nat.lt_or_ge ys.length k with h1 | h1
  · obtain rfl : k = ys.length + 1 := by omega
    rw [endAt_all _ (by simp), ← hn]
    simp [List.getD, ← hl]
  · rw [endAt_snoc ys e h1, ← hk k h1]
    simp [List.getD, List.getElem?_append_left (show k < zs.length by omega)]

theorem elem_events : Try.prog.elem 41 = 26 := by kernel_rfl
theorem event_size : (Try.prog.info? 26).map (·.size) = some 4 := by kernel_rfl
theorem ints_cell {w : World} {base : Nat} {A : Option Addr} {n cap : Nat} {zs : List Int} (h : OwnC 1 w base 3 A n cap (intsV zs)) {j : Nat} (hj : j < n) : ∃ b o, A = some ⟨b, o, none⟩ ∧ b < w.heap.size ∧ w.cell? ⟨b, o + j, none⟩ = some (.int .i64 (zs.getD j 0)) := by
  have hl := OwnC.len h
  obtain ⟨b, o, hA, hlt, hc⟩ := RdC.at_ (OwnC.rd h) (by omega) (show 0 < n by omega)
  refine ⟨b, o, hA, hlt, hc j _ ?_⟩
  have hz : j < zs.length := by simp only [intsV, List.length_map] at hl; omega
  simp [intsV, List.getD, List.getElem?_eq_getElem hz]

set_option maxHeartbeats 8000000 in
set_option maxRecDepth 100000 in
theorem back_walk (A : Option Addr) (n cap : Nat) (es : List Ev) (a : Int) (w : World) (hl : RdE w A n cap es) (oks : ∀ x ∈ es, EvOk x) (ha0 : -9223372036854775808 ≤ a) (ha1 : a ≤ 9223372036854775807) :
    Calls Try.prog 5 #[.slice A n cap, .int .i64 a] w fun e w' => e = .returned (.bool true) ∧ Below w.heap.size w w' := by
  have hn := hl.le
  unfold maxLen at hn
  have LE := Go.Lib.hid hl.len
  go_enter Try.func5, Try.ntmps5
  go_wp2_with fail
  refine (shown5_any _).mono ?_
  rintro e w2 ⟨rfl, b2⟩
  go_upto_region 3 with (fail)
  have b3 : Below w2.heap.size w2 (w2.alloc (.cells #[] 5)) := (Below.refl _ _).alloc (Nat.le_refl _) _
  have o3 : OwnC 1 (w2.alloc (.cells #[] 5)) w.heap.size 5 (some ⟨w2.heap.size, 0, none⟩) 0 0 (cellsOf []) := OwnC.empty w2 5 b2.size
  have B3 := below_chain b2 b3
  generalize w2.alloc (.cells #[] 5) = w3 at *
  generalize w2.heap.size = g2 at *
  clear b2 b3
  go_upto_region 4 with (fail)
  have b4 : Below w3.heap.size w3 (w3.alloc (.cells #[] 26)) := (Below.refl _ _).alloc (Nat.le_refl _) _
  have o4 : OwnC 4 (w3.alloc (.cells #[] 26)) w.heap.size 26 (some ⟨w3.heap.size, 0, none⟩) 0 0 [] := OwnC.empty w3 26 B3.size
  have B4 := below_chain B3 b4
  have o34 := OwnC.below o3 b4
  generalize w3.alloc (.cells #[] 26) = w4 at *
  generalize w3.heap.size = g3 at *
  clear B3 b4 o3
  go_upto_region 5 with (fail)
  have b5 : Below w4.heap.size w4 (w4.alloc (.cells #[.int .i64 0] 3)) := (Below.refl _ _).alloc (Nat.le_refl _) _
  have s5 : BkAt (w4.alloc (.cells #[.int .i64 0] 3)) w (some ⟨g2, 0, none⟩) 0 0 [] (some ⟨g3, 0, none⟩) 0 0 [] (some ⟨w4.heap.size, 0, none⟩) 1 [0] :=
    ⟨OwnC.below o34 b5, ⟨[], OwnC.below o4 b5, rfl, rfl⟩, own_one w4 3 _ B4.size, below_chain B4 b5⟩
  generalize w4.alloc (.cells #[.int .i64 0] 3) = w5 at *
  generalize w4.heap.size = g4 at *
  clear B4 b5 o34 o4
  go_upto_block 0 with (fail)
  go_cut [6, 7, 8, 9, 10, 11] (fun bv iv ev _ _ _ wx => ∃ (B : Option Addr) (m c : Nat) (x : List UInt8) (I : Option Addr) (q ci : Nat) (ys : List Ev) (E : Option Addr) (ce : Nat) (zs : List Int), bv = .slice B m c ∧ iv = .slice I q ci ∧ ev = .slice E (q + 1) ce ∧ q ≤ 12 ∧ Hid (LaidEs x ys) ∧ Hid (EndsAt ys zs) ∧ BkAt wx w B m c x I q ci ys E ce zs)
  case first =>
    go_wp2_with fail
    go_loopw [6, 7, 8, 9, 10, 11] (fun bv iv ev i _ _ wr => ∃ (j : Nat) (B : Option Addr) (m c : Nat) (x : List UInt8) (I : Option Addr) (q ci : Nat) (ys : List Ev) (E : Option Addr) (ce : Nat) (zs : List Int), i = .int .i64 j ∧ j ≤ n ∧ j ≤ 12 ∧ bv = .slice B m c ∧ iv = .slice I q ci ∧ ev = .slice E (q + 1) ce ∧ q ≤ j ∧ Hid (LaidEs x ys) ∧ Hid (EndsAt ys zs) ∧ BkAt wr w B m c x I q ci ys E ce zs) (fun _ _ _ i _ _ _ => n - (intOf i).toNat)
    case atStart => exact ⟨0, _, 0, 0, [], _, 0, 0, [], _, 1, [0], rfl, Nat.zero_le _, by omega, rfl, rfl, rfl, Nat.le_refl _, Go.Lib.hid LaidEs.nil, Go.Lib.hid EndsAt.nil, s5⟩
    case round =>
      obtain ⟨j, B, m, c, x, I, q, ci, ys, E, ce, zs, rfl, hjn, hj12, rfl, rfl, rfl, hqj, HX, HZ, sq⟩ := hrel
      clear s5
      have hyl : ys.length = q := by obtain ⟨_, _, h, _⟩ := sq.oi; exact h
      have HYL := Go.Lib.hid hyl
      clear hyl
      by_cases hlt : j < n ∧ j < 12
      · obtain ⟨h1, h2⟩ := hlt
        have i1 : (j : Int) < n := by omega
        have i2 : (j : Int) < 12 := by omega
        obtain ⟨be, oe, rfl, _, ke⟩ := hl.at_ (by omega)
        have ke1 := ke j h1
        have hok := fewE_ok (oks _ (ev_get (l := es) (j := j) (by rw [LE.out]; exact h1)))
        clear ke
        generalize es.getD j noEv = ev at *
        obtain ⟨A1, n1, k1, B1, m1, q1, x0, x1, x2, x3, rx1, rx2⟩ := ke1
        have vx : IsEv w (.agg #[.string ev.s, .string ev.t, .slice A1 n1 k1, .slice B1 m1 q1]) ev := ⟨_, _, _, _, _, _, rfl, rx1, rx2⟩
        have y0 := bcell sq.be x0
        have y1 := bcell sq.be x1
        have y2 := bcell sq.be x2
        have y3 := bcell sq.be x3
        have hxl : x.length ≤ 1000000 := by have h3 := HX.out.le; have h4 := HYL.out; omega
        go_wp2_with fail
        refine (few_any _ ev w wr vx).mono ?_
        rintro e w6 ⟨u6, rfl, hv6, b6⟩
        have s6 := sq.below b6
        have rb6 : Rd w6 B m c x := Own.rd s6.ob
        clear y0 y1 y2 y3 sq
        go_wp2_with fail
        refine (putE_any B m c x u6 (fewE ev) w6 rb6 hxl (hv6.below s6.be) hok).mono ?_
        rintro e w7 ⟨hp, b7⟩
        have s7 := s6.below b7
        rcases hp with ⟨h0, v7, rfl, A7, c7, rfl, o7⟩ | ⟨h0, rfl⟩
        · have hx7 := HX.out.more h0
          have HX7 := Go.Lib.hid hx7
          have o7' : OwnC 1 w7 w.heap.size 5 A7 (x ++ encE (fewE ev)).length c7 (cellsOf (x ++ encE (fewE ev))) := own_lower o7 s6.be.size
          have hz7 := HZ.out.more (e := fewE ev) (n := (x ++ encE (fewE ev)).length) (by rw [hx7.eq])
          have HZ7 := Go.Lib.hid hz7
          have y0 := bcell s7.be x0
          have y1 := bcell s7.be x1
          have y2 := bcell s7.be x2
          have y3 := bcell s7.be x3
          have hm7 : (x ++ encE (fewE ev)).length ≤ 2000000 := by
            have h3 := encE_le (may_smallE h0)
            rw [List.length_append]
            omega
          clear s6 rb6 o7 b6 b7 hx7 hz7 h0 hv6
          generalize x ++ encE (fewE ev) = x' at *
          generalize x'.length = m7 at *
          go_wp2_with fail
          refine (few_any _ ev w w7 vx).mono ?_
          rintro e w8 ⟨u8, rfl, hv8, b8⟩
          obtain ⟨C8, p8, cc8, D8, q8, cd8, rfl, rC, rD⟩ := hv8
          have s8 := s7.below b8
          have o8 := OwnC.below o7' b8
          clear y0 y1 y2 y3 x0 x1 x2 x3 s7 o7' b8
          generalize fewE ev = fe at *
          have al : Below w8.heap.size w8 (w8.alloc (.cells #[.string fe.s, .string fe.t, .slice C8 p8 cc8, .slice D8 q8 cd8] 26)) := (Below.refl _ _).alloc (Nat.le_refl _) _
          have s9 := s8.below al
          have o9 := OwnC.below o8 al
          obtain ⟨cs, oc, hcl, hcs⟩ := s9.oi
          have oe9 := s9.oe
          have be9 := s9.be
          have d9 : RdC 4 (w8.alloc (.cells #[.string fe.s, .string fe.t, .slice C8 p8 cc8, .slice D8 q8 cd8] 26)) (some ⟨w8.heap.size, 0, none⟩) 1 1 [.string fe.s, .string fe.t, .slice C8 p8 cc8, .slice D8 q8 cd8] := RdC.new w8 26 [.string fe.s, .string fe.t, .slice C8 p8 cc8, .slice D8 q8 cd8] rfl (by decide)
          have one : ∀ v ∈ ([.string fe.s, .string fe.t, .slice C8 p8 cc8, .slice D8 q8 cd8] : List Value), v.oneCell' = true := by
            intro v hv
            simp only [List.mem_cons, List.not_mem_nil, or_false] at hv
            rcases hv with rfl | rfl | rfl | rfl <;> rfl
          have h63 : q + 1 ≤ maxLen := by unfold maxLen; omega
          have hsz : (q + 1) * 80 ≤ 140737488355328 := by omega
          have big := be9.size
          clear s8 o8 s9 al
          go_upto_region 12 with (at_builtin; refine wpList_append_cells rfl (.tmp 46) (.tmp 52) 41 rfl 26 (.agg #[.string ⟨#[]⟩, .string ⟨#[]⟩, .slice none 0 0, .slice none 0 0]) 80 Try.underlying41 event_info rfl (by decide) rfl rfl oc d9 one h63 hsz big ?_; intro I10 c10 w10 o10 g10 _)
          have low := fun r e => row_low oc (r := r) e
          have ob10 := OwnC.grown o9 g10 (own_unlike o9 oc (by decide))
          have oe10 := OwnC.grown oe9 g10 (own_unlike oe9 oc (by decide))
          have be10 := be9.grown g10 big (fun r e => low r e)
          have hr10 := EvsR.snoc rC rD ys cs hcs
          clear o9 oe9 oc d9 one big low g10 be9 hsz h63
          have al : Below w10.heap.size w10 (w10.alloc (.cells #[.int .i64 m7] 3)) := (Below.refl _ _).alloc (Nat.le_refl _) _
          have ob11 := OwnC.below ob10 al
          have oe11 := OwnC.below oe10 al
          have oi11 := OwnC.below o10 al
          have be11 := below_chain be10 al
          have big := be11.size
          have d11 : RdC 1 (w10.alloc (.cells #[.int .i64 m7] 3)) (some ⟨w10.heap.size, 0, none⟩) 1 1 (intsV [(m7 : Int)]) := RdC.new w10 3 (intsV [(m7 : Int)]) rfl (by decide)
          have h63 : q + 1 + 1 ≤ maxLen := by unfold maxLen; omega
          have hsz : (q + 1 + 1) * 8 ≤ 140737488355328 := by omega
          clear ob10 oe10 o10 be10 al
          go_wp2_with (at_builtin; refine wpList_append_cells rfl (.tmp 54) (.tmp 57) 48 rfl 3 (.int .i64 0) 8 Try.underlying48 int_info rfl (by decide) rfl rfl oe11 d11 (intsV_one _) h63 hsz big ?_; intro E12 c12 w12 o12 g12 _)
          go_roundw
          case rel =>
            have low := fun r e => row_low oe11 (r := r) e
            refine ⟨j + 1, A7, m7, c7, x', I10, q + 1, c10, ys ++ [fe], E12, c12, zs ++ [(m7 : Int)], by go_num, by omega, by omega, rfl, rfl, rfl, by omega, HX7, HZ7, ⟨OwnC.grown ob11 g12 (own_unlike ob11 oe11 (by decide)), ⟨_, OwnC.grown oi11 g12 (own_unlike oi11 oe11 (by decide)), by rw [List.length_append, HYL.out]; rfl, hr10⟩, ?_, be11.grown g12 big (fun r e => low r e)⟩⟩
            have e1 : intsV (zs ++ [(m7 : Int)]) = intsV zs ++ intsV [(m7 : Int)] := by simp [intsV]
            rw [e1]
            exact o12
          case measure => simp [intOf]; omega
        · have m0' : (mayE (fewE ev) == 0) = false := by rw [beq_eq_false_iff_ne]; exact h0
          clear h0
          generalize mayE (fewE ev) = M at *
          go_wp2_with fail
          go_roundw
          case rel => exact ⟨j + 1, B, m, c, x, I, q, ci, ys, E, ce, zs, by go_num, by omega, by omega, rfl, rfl, rfl, by omega, HX, HZ, s7⟩
          case measure => simp [intOf]; omega
      · have hq12 : q ≤ 12 := by omega
        by_cases h1 : j < n
        · have i2 : ¬ (j : Int) < 12 := by omega
          have i1 : (j : Int) < n := by omega
          clear hlt
          go_wp2_with fail
          go_meet
          exact ⟨B, m, c, x, I, q, ci, ys, E, ce, zs, rfl, rfl, rfl, hq12, HX, HZ, sq⟩
        · have i1 : ¬ (j : Int) < n := by omega
          clear hlt
          go_wp2_with fail
          go_meet
          exact ⟨B, m, c, x, I, q, ci, ys, E, ce, zs, rfl, rfl, rfl, hq12, HX, HZ, sq⟩
  case rest =>
    obtain ⟨B, m, c, x, I, q, ci, ys, E, ce, zs, rfl, rfl, rfl, hq12, HX, HZ, sq⟩ := hcut
    clear s5
    have hyl : ys.length = q := by obtain ⟨_, _, h, _⟩ := sq.oi; exact h
    have HYL := Go.Lib.hid hyl
    have hxl : x.length ≤ 100000000 := by have h3 := HX.out.le; omega
    have HXL := Go.Lib.hid hxl
    have rb : Rd _ B m c x := Own.rd sq.ob
    have HLX := Go.Lib.hid rb.len
    clear hyl hxl
    go_wp2_with fail
    refine (all5_any B m c x _ rb HXL.out).mono ?_
    rintro e w6 ho
    obtain ⟨A6, m6, c6, rfl, hm6, r6, b6⟩ := HX.out.out ho
    have s6 := sq.below b6
    have ri := OwnR.rd s6.oi s6.be
    clear ho sq rb b6 hm6
    go_wp2_with fail
    refine (refSameAll_any A6 I m6 q c6 ci ys ys w6 r6 ri).mono ?_
    rintro e w7 ⟨R, hR, rfl, b7⟩
    obtain rfl : R = true := hR.2 rfl
    have s7 := s6.below b7
    clear hR r6 ri s6 b7
    have B7 := s7.be
    by_cases hneg : a < 0
    · go_wp2_with fail
      go_ret
      exact ⟨rfl, B7⟩
    obtain ⟨k', rfl⟩ := Int.eq_ofNat_of_zero_le (by omega : 0 ≤ a)
    by_cases hge : m ≤ k'
    · go_wp2_with fail
      go_ret
      exact ⟨rfl, B7⟩
    have hkm : k' < m := by omega
    have i0 : ¬ (k' : Int) < 0 := by omega
    have i3 : ¬ (m : Int) ≤ k' := by omega
    clear hneg hge
    have oe7 := s7.oe
    go_wp2_with fail
    go_loopw [15, 16] (fun wv i wr => ∃ (j : Nat) (W : Int), j ≤ q + 1 ∧ i = .int .i64 j ∧ wv = .int .i64 W ∧ Hid ((W = -1 ∧ ∀ k, k < j → zs.getD k 0 ≠ (k' : Int)) ∨ ∃ k, k < j ∧ W = (k : Nat) ∧ zs.getD k 0 = (k' : Int)) ∧ w7 = wr) (fun _ i _ => q + 1 - (intOf i).toNat)
    case atStart => exact ⟨0, -1, Nat.zero_le _, rfl, rfl, Go.Lib.hid (.inl ⟨rfl, fun k hk => by omega⟩), rfl⟩
    case round =>
      obtain ⟨j, W, hj, rfl, rfl, HW, rfl⟩ := hrel
      by_cases hlt : j < q + 1
      · obtain ⟨be, oe, rfl, _, hcz⟩ := ints_cell oe7 hlt
        have i1 : (j : Int) < (q : Int) + 1 := by omega
        generalize hz : zs.getD j 0 = z at *
        have HZJ := Go.Lib.hid hz
        clear hz
        by_cases hzk : z = (k' : Int)
        · subst hzk
          have hw2 : ∃ k, k < j + 1 ∧ (j : Int) = (k : Nat) ∧ zs.getD k 0 = (k' : Int) := ⟨j, Nat.lt_succ_self j, rfl, HZJ.out⟩
          have HW2 := Go.Lib.hid hw2
          clear hw2
          go_wp2_with fail
          go_roundw
          case rel => exact ⟨j + 1, j, by omega, by go_num, rfl, Go.Lib.hid (.inr HW2.out), by first | rfl | trivial⟩
          case measure => simp [intOf]; omega
        · have hzb : (z == (k' : Int)) = false := by rw [beq_eq_false_iff_ne]; exact hzk
          have hw2 : (W = -1 ∧ ∀ k, k < j + 1 → zs.getD k 0 ≠ (k' : Int)) ∨ ∃ k, k < j + 1 ∧ W = (k : Nat) ∧ zs.getD k 0 = (k' : Int) := by
            rcases HW.out with ⟨h1, h2⟩ | ⟨k, h1, h2, h3⟩
            · refine .inl ⟨h1, fun k hk => ?_⟩
              rcases Nat.lt_or_ge k j with h4 | h4
              · exact h2 k h4
              · obtain rfl : k = j := by omega
                rw [HZJ.out]
                exact hzk
            · exact .inr ⟨k, by omega, h2, h3⟩
          have HW2 := Go.Lib.hid hw2
          clear hw2 hzk
          go_wp2_with fail
          go_roundw
          case rel => exact ⟨j + 1, W, by omega, by go_num, rfl, HW2, by first | rfl | trivial⟩
          case measure => simp [intOf]; omega
      · have i1 : ¬ (j : Int) < (q : Int) + 1 := by omega
        obtain rfl : j = q + 1 := by omega
        have rb7 : Rd w7 B m c x := Own.rd s7.ob
        have rk := rb7.first (k := k') (by omega)
        have qs := slice_upto B m c k' (by have := rb7.le_cap; omega)
        have hxk : (x.take k').length ≤ 100000000 := by rw [List.length_take]; have := HXL.out; omega
        have HXK := Go.Lib.hid hxk
        clear rb7 hxk oe7
        rcases HW.out with ⟨rfl, hno⟩ | ⟨k, hk, rfl, hzk⟩
        · have hnone : allF (x.take k') = none := by
            rw [HX.out.eq]
            refine allF_cut ys k' HX.out.may (fun k hk he => hno k (by rw [← HYL.out]; omega) ?_) ?_
            · rw [HZ.out.2 k hk, he]
            · rw [← HX.out.eq, HLX.out]
              omega
          have HNONE := Go.Lib.hid hnone
          clear hnone hno
          generalize x.take k' = xk at *
          go_wp2_with fail
          refine (all5_any B k' c xk w7 rk HXK.out).mono ?_
          rintro e w8 ⟨b8, ho⟩
          have B8 := below_chain B7 b8
          rcases ho with ⟨es8, A8, m8, c8, h8, _⟩ | ⟨_, rfl⟩
          · rw [HNONE.out] at h8
            cases h8
          · go_wp2_with fail
            go_ret
            exact ⟨rfl, B8⟩
        · have hkq : k ≤ q := by omega
          have hxe : x.take k' = (ys.take k).flatMap encE := by
            have h1 := HZ.out.2 k (by rw [HYL.out]; exact hkq)
            rw [hzk] at h1
            have h2 : k' = endAt ys k := by omega
            rw [HX.out.eq, h2, take_endAt]
          have hle : LaidEs (x.take k') (ys.take k) := ⟨hxe, fun e he => HX.out.may e (List.mem_of_mem_take he)⟩
          have HLE := Go.Lib.hid hle
          clear hxe hle hzk HW
          generalize x.take k' = xk at *
          go_wp2_with fail
          refine (all5_any B k' c xk w7 rk HXK.out).mono ?_
          rintro e w8 ho
          obtain ⟨A8, m8, c8, rfl, hm8, r8, b8⟩ := HLE.out.out ho
          have s8 := s7.below b8
          have ri := RdE.first (OwnR.rd s8.oi s8.be) hkq
          have qe : ∀ W, (Instr.slice 41 (.slice I q ci) none (some (.int .i64 (k : Int))) none).run Try.prog W = .ok (.slice I k ci) W := by
            obtain ⟨cs, oc, _, _⟩ := s8.oi
            exact (slice_hi (P := Try.prog) 41 26 Try.underlying41 elem_events event_size (OwnC.rd oc) hkq).1
          have B8 := s8.be
          have i4 : ¬ (k : Int) < 0 := by omega
          clear ho b8 s7 s8 rk qs hm8
          generalize ys.take k = yk at *
          go_wp2_with fail
          refine (refSameAll_any A8 I m8 k c8 ci yk yk w8 r8 ri).mono ?_
          rintro e w9 ⟨R, hR, rfl, b9⟩
          obtain rfl : R = true := hR.2 rfl
          have B9 := below_chain B8 b9
          go_wp2_with fail
          go_ret
          exact ⟨rfl, B9⟩

section
variable {H : Type} {enc : TypeId × Value → H}
set_option maxRecDepth 100000 in
theorem back_main (W : World) (base : Nat) (v0 v1 : Value) {d0 d1 : DataW H} {p0 p1 : List MemPlace} (o0 : Value.okWide Try.prog W .any base 41 v0) (o1 : Value.okWide Try.prog W .any base 3 v1)
    (h0 : DataW.Trod enc Try.prog W 0 (fun _ => true) true 41 v0 d0 p0) (h1 : DataW.Trod enc Try.prog W 0 (fun _ => true) true 3 v1 d1 p1) :
    Calls Try.prog 5 #[v0, v1] W fun e W' => e = .returned (.bool true) ∧ Below W.heap.size W W' := by
  obtain ⟨A, n, cap, es, rfl, hl, oks⟩ := op_events o0 h0
  obtain ⟨a, rfl, ha0, ha1⟩ := op_i64 Try.underlying3 o1 h1
  exact back_walk A n cap es a W hl oks ha0 ha1
end

end Go.Proofs.Ytjglpmakjampjaa.EeLaw
