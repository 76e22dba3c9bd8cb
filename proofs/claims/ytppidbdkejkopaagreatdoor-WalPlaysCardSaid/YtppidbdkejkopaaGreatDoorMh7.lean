/-
  Joined texts: WgLaw, WgIter, WgRng, BtRows, WlRows, WlGood, WlRefO, WgCut, WgMath, BtCom, WgTake, BtLand, EdList, EdListF, EdDecM, EdDec.
-/
import Derived.RangeFuncNested
import Derived.RangeFuncLeaves
import Derived.Test.YtppidbdkejkopaaGreatDoorProg
import Derived.RangeFuncBound
import Derived.RangeFuncCalls
import Derived.Shelf.RegionOpen
import Derived.OwnWalkIn
import Derived.TacticsInMore
import Derived.LoopNIn
import Derived.LoopIn
import Derived.Sort.CutIn
import Derived.RangeFuncRecord
import Derived.Deep.DeepCutAuto
import Derived.Deep.CutBlock
import Derived.Test.YtppidbdkejkopaaGreatDoorMh6
namespace Go.Proofs.YtppidbdkejkopaaGreatDoor.WlWalk
open Go.RowKit
structure RecW (r : Nat) (o : Obj) (W : World) : Prop where
  lp : W.heap[r + 1]? = some o
  dfr : W.heap[r]? = some (.deferred (some []))
def thPost (J : World → Prop) (Jx : Code → World → Prop) : Exit → Act → World → Prop
  | .normal, _, W => J W
  | .ret, _, W => Jx .ret W
  | .exit id, _, W => Jx (.exit id) W
  | .goto t, _, W => Jx (.goto t) W
  | .panic _, _, _ => False
  | .outgrown, _, _ => False
theorem wpIn_rangeFunc_th {n : Nat} {P : Program} {α : Type} {g : Operand} {ps : Array Tmp} {assign body : Code} {Q : Exit → Act → World → Prop} {a : Act} {w : World}
    {gf : Nat} {lb : Array Value} (hg : a.eval g = .func (.func gf) #[] lb) (eg : ∀ args w, (callFunc gf args).run P w = .ok (.enter gf args) w)
    {encs : α → Array Value} (hps : ∀ x, (encs x).size = ps.size)
    (J : Obj → Nat → World → Prop) (Jb : Obj → Nat → α → World → Prop) (Jd : Obj → World → Prop) (Jx : Obj → Code → World → Prop)
    (gb : ∀ {o k x W}, Jb o k x W → RecW w.heap.size o W) (gj : ∀ {o k W}, J o k W → RecW w.heap.size o W)
    (gd : ∀ {o W}, Jd o W → RecW w.heap.size o W) (gx : ∀ {o c W}, Jx o c W → RecW w.heap.size o W)
    (pb : ∀ {o k x W} (o' : Obj), Jb o k x W → Jb o' k x (W.putObj (w.heap.size + 1) o')) (pj : ∀ {o k W} (o' : Obj), J o k W → J o' k (W.putObj (w.heap.size + 1) o'))
    (pd : ∀ {o W} (o' : Obj), Jd o W → Jd o' (W.putObj (w.heap.size + 1) o')) (px : ∀ {o c W} (o' : Obj), Jx o c W → Jx o' c (W.putObj (w.heap.size + 1) o'))
    (h0 : ∀ o, J o 0 ((w.alloc (.deferred (some []))).alloc o))
    (hseq : ∀ (o : Obj) (X : World → Prop) (W : World), J o 0 W →
      (∀ k x W1, Jb o k x W1 → YieldAt Fence.wide (n - 1 - 1) P (w.heap.size + 1) (encs x) W1 fun e W' => (e = .returned (.bool true) ∧ J o (k + 1) W') ∨ (e = .returned (.bool false) ∧ X W')) →
      CallsIn Fence.wide (n - 1) P gf (#[.func (.yield (w.heap.size + 1)) #[] #[]] ++ lb) W fun e W' => (∃ v, e = .returned v) ∧ (Jd o W' ∨ X W'))
    (a₁ : α → Act)
    (hassign : ∀ (l : Nat) (x : α) (W : World) (K : Act → World → Prop), K (a₁ x) W →
      assign.wpIn (Fence.wide.inRound l) (n - 1 - 1) P (Exit.then K (fun _ _ _ => False)) { tmps := (ps.zip (encs x)).foldl (fun t (p, v) => t.setIfInBounds p v) a.tmps, defers := [] } W)
    (hbody : ∀ (o : Obj) (k : Nat) (x : α) (W : World), Jb o k x W → body.wpIn (Fence.wide.inRound (w.heap.size + 1)) (n - 1 - 1) P (thPost (J o (k + 1)) (Jx o)) (a₁ x) W)
    (hdone : ∀ (o : Obj) (W : World), Jd o W → Q .normal { a with defers := { target := .collected w.heap.size, args := #[] } :: a.defers } W)
    (hstop : ∀ (o : Obj) (c : Code) (W : World), Jx o c W → c.wpIn Fence.wide n P Q { a with defers := { target := .collected w.heap.size, args := #[] } :: a.defers } W) :
    (Code.rangeFunc g ps assign body).wpIn Fence.wide n P Q a w := by
  refine wpIn_rangeFunc ?_
  intro fn hfn
  rw [show Fence.wide.round = none from rfl]
  obtain ⟨rk, hrec⟩ : ∃ rk : LoopState → Option Code → Loop, rk = fun st pe => { state := st, pending := pe, fn, tmps := a.tmps, params := ps, assign, body, defers := w.heap.size } := ⟨_, rfl⟩
  obtain ⟨W1, hW1⟩ : ∃ W1, (w.alloc (.deferred (some []))).alloc (.loop (rk .ready none)) = W1 := ⟨_, rfl⟩
  have hJ1 : J (.loop (rk .ready none)) 0 W1 := by rw [← hW1]; exact h0 _
  refine ⟨w.heap.size + 1, [{ target := .collected w.heap.size, args := #[] }], W1, { target := .fn (.func gf) lb, args := #[.func (.yield (w.heap.size + 1)) #[] #[]] }, W1, gf,
    #[.func (.yield (w.heap.size + 1)) #[] #[]] ++ lb, W1, ?_, ?_, ?_, ?_, (fun h => by cases h), ?_⟩
  · rw [← hW1, hrec]; exact run_enterLoop_outer _ _ _ _ _
  · simp only [resolve, hg]
    simp [go_sem]
  · intro f' hf'; trivial
  · simp [invoke, go_sem, eg]
  · refine (hseq (.loop (rk .ready none)) (fun W => ∃ c, Jx (.loop (rk .done (some c))) c W) W1 hJ1 ?_).mono ?_
    · rintro k x W hb
      have hl := (gb hb).lp
      have hlt : w.heap.size + 1 < W.heap.size := (Array.getElem?_eq_some_iff.1 hl).1
      have hy := run_yield (P := P) (args := encs x) hl (by rw [hrec]; exact hps x)
      rw [hrec] at hy
      refine ⟨fn, _, assign, body, hy, roundIn_of_wpIn hfn (hassign _ x W _ ⟨_, run_beginRound hl (by rw [hrec]), ?_⟩)⟩
      refine wpIn_mono (hbody _ k x _ (pb _ hb)) ?_
      have fin : ∀ (jump : Option Code) (W3 : World), W3.heap[w.heap.size + 1]? = some (.loop { rk .ready none with state := .busy }) →
          (Instr.endRound (w.heap.size + 1) jump).run P W3 = .ok (.bool jump.isNone) (W3.putObj (w.heap.size + 1) (.loop (rk (if jump.isNone then .ready else .done) jump))) := fun jump W3 hl3 => by
        have := run_endRound (P := P) jump hl3
        rw [hrec] at this ⊢
        exact this
      rintro e a3 W3 hp
      cases e with
      | normal => exact ⟨_, _, fin none W3 (gj hp).lp, .inl ⟨rfl, pj _ hp⟩⟩
      | ret => exact ⟨_, _, fin (some .ret) W3 (gx hp).lp, .inr ⟨rfl, .ret, px _ hp⟩⟩
      | exit id => exact ⟨_, _, fin (some (.exit id)) W3 (gx hp).lp, .inr ⟨rfl, .exit id, px _ hp⟩⟩
      | goto t => exact ⟨_, _, fin (some (.goto t)) W3 (gx hp).lp, .inr ⟨rfl, .goto t, px _ hp⟩⟩
      | panic ch => exact hp.elim
      | outgrown => exact hp.elim
    · rintro e W2 ⟨⟨v, rfl⟩, (hd | ⟨c, hx⟩)⟩
      · exact ⟨none, _, by have := run_endLoop (P := P) (gd hd).lp (by rw [hrec]; simp); rw [hrec] at this; exact this, hdone _ _ (pd _ hd)⟩
      · exact ⟨some c, _, by have := run_endLoop (P := P) (gx hx).lp (by rw [hrec]; simp); rw [hrec] at this; exact this, hstop _ c _ (px _ hx)⟩
end Go.Proofs.YtppidbdkejkopaaGreatDoor.WlWalk
namespace Go.Proofs.YtppidbdkejkopaaGreatDoor.WlWalk
open Go.RowKit MemRow Ev NameMath NameWalk EvWalk NumMem DkWalk
set_option maxHeartbeats 2000000 in
set_option maxRecDepth 100000 in
theorem segs_any (g : Nat) (w : World) :
    Calls Tryz.prog 36 #[.pointer (some ⟨g, 0, none⟩)] w fun e w' => e = .returned (.func (.func 67) #[] #[.pointer (some ⟨w.heap.size, 0, none⟩)]) ∧ w' = w.alloc (.cells #[.pointer (some ⟨g, 0, none⟩)] 24) := by
  go_enter Tryz.func36, Tryz.ntmps36
  go_wp2_with fail
  go_ret
  exact ⟨rfl, rfl⟩
structure SegAt (base g bx : Nat) (D : Dk) (Q : Thing) (W : World) : Prop where
  hb : base ≤ W.heap.size
  ht : TabB base W
  box : W.cell? ⟨bx, 0, none⟩ = some (.pointer (some ⟨g, 0, none⟩))
  lt : bx < W.heap.size
  pr : Pair base W (LdT g D) Q
  kq : Keeps Q
  go : DkGo D
theorem SegAt.below {base g bx : Nat} {D : Dk} {Q : Thing} {W W' : World} (h : SegAt base g bx D Q W) (b : Below W.heap.size W W') : SegAt base g bx D Q W' :=
  ⟨Nat.le_trans h.hb b.size, h.ht.on (bel_up h.hb b), (b.cell (p := ⟨bx, 0, none⟩) h.lt).trans h.box, Nat.lt_of_lt_of_le h.lt b.size, h.pr.below (ldT_keeps g D) h.kq b, h.kq, h.go⟩
attribute [local go_sem] Oper.semAt_some
set_option maxHeartbeats 4000000 in
set_option maxRecDepth 100000 in
theorem segIter_any {m l bx base g : Nat} (Jr : Nat → World → Prop) (Jd Jx : World → Prop) (w : World)
    (hr : ∀ k W, Jr k W → k < 200 → ∃ D Q, SegAt base g bx D Q W ∧
      (readC D (segN (k + 1)) = 0 → ∀ W' B n c, Below W.heap.size W W' → Pair base W' (LdT g D) (With Q (SlT B n c (readB D (segN (k + 1))))) →
        YieldAt Fence.wide (m - 1) Tryz.prog l #[.int .i64 ((k : Int) + 1), .slice B n c] W' fun e W2 => (e = .returned (.bool true) ∧ Jr (k + 1) W2) ∨ (e = .returned (.bool false) ∧ Jx W2)) ∧
      (readC D (segN (k + 1)) ≠ 0 → ∀ W', Below W.heap.size W W' → Jd W'))
    (he : ∀ W, Jr 200 W → Jd W) (h0 : Jr 0 w) :
    CallsIn Fence.wide m Tryz.prog 67 (#[.func (.yield l) #[] #[]] ++ #[.pointer (some ⟨bx, 0, none⟩)]) w fun e W' => (∃ v, e = .returned v) ∧ (Jd W' ∨ Jx W') := by
  have SEG : Hid (∀ (n : Nat) (W : World), TabW W → Calls Tryz.prog 23 #[.int .i64 ((n : Int) + 1)] W fun e w' => e = .returned (.string (segN (n + 1))) ∧ Below W.heap.size W w') := Go.Lib.hid fun n W h => segL_any ((n : Int) + 1) W h
  have HR := Go.Lib.hid hr
  have HE := Go.Lib.hid he
  clear hr he
  refine callsIn_of_wp Tryz.func67 rfl trivial ?_ rfl
  simp only [Tryz.ntmps67, List.size_toArray, List.length_cons, List.length_nil, Nat.reduceAdd, Nat.reduceSub, Array.replicate_succ, Array.replicate_zero, List.push_toArray, List.append_toArray, List.nil_append, List.cons_append]
  gi_wp2
  gi_loopw [3, 4, 5, 6] (fun _ _ _ i wr => ∃ k : Nat, k ≤ 200 ∧ i = .int .i64 (k : Int) ∧ Hid (Jr k wr)) (fun _ _ _ i _ => 200 - (intOf i).toNat)
  case atStart => exact ⟨0, Nat.zero_le _, rfl, Go.Lib.hid h0⟩
  case round =>
    obtain ⟨k, hk, rfl, HJ⟩ := hrel
    by_cases hlt : k < 200
    · have i1 : (k : Int) < 200 := by omega
      obtain ⟨D, Q, hs, hy, hn⟩ := HR.out k wr HJ.out hlt
      have HY := Go.Lib.hid hy
      have HN := Go.Lib.hid hn
      have wz : IntKind.i64.wrap ((k : Int) + 1) = (k : Int) + 1 := IntWalk.i64_in _ (by omega)
      have bd : Below wr.heap.size wr wr.drew := bel_drew (Below.refl _ _)
      have sd := hs.below bd
      have c0 : wr.drew.cell? ⟨bx, 0, none⟩ = some (.pointer (some ⟨g, 0, none⟩)) := sd.box
      have c1 := hs.box
      clear hy hn
      have kq := hs.kq
      have go := hs.go
      have hmx : Tryz.prog.follows .mixedOrders = true := by kernel_rfl
      have HSS := Go.Lib.hid (SEG.out k wr.drew sd.ht.here)
      gi_upto_region 3 with (fail)
      gi_region_with_o (first
        | (refine ⟨trivial, (fun h => by cases h), ?_⟩; gi_at_call 34; refine (callsIn_wide.2 (pr_reads s5.pr kq s5.hb go (seg_size (k + 1)))).mono ?_; rintro e w6 ⟨B6, n6, c6, rfl, p6, b6⟩)
        | (refine ⟨trivial, (fun h => by cases h), ?_⟩; gi_at_call 23; refine (callsIn_wide.2 HSS.out).mono ?_; rintro e w5 ⟨rfl, b5⟩; have s5 := sd.below b5; have c5 := s5.box))
      all_goals
        have b06 := bd.trans (bel_up bd.size (b5.trans (bel_up b5.size b6)))
        clear HSS c0 c1 sd s5 c5 bd b5 b6 hs SEG HR
        generalize hrc : readC D (segN (k + 1)) = rc at *
        by_cases hz : rc = 0
        · subst hz
          obtain ⟨fn, tmps, assign, body, hy, hR⟩ := HY.out rfl w6 B6 n6 c6 b06 p6
          clear HY HN b06 p6 hrc
          gi_wp2
          refine ⟨(fun h => by cases h), hR.mono ?_⟩
          rintro e W' (⟨rfl, hJ2⟩ | ⟨rfl, hx⟩)
          · have HJ2 := Go.Lib.hid hJ2
            clear hJ2
            gi_wp2
            go_roundw
            case rel => exact ⟨k + 1, by omega, by go_num, HJ2⟩
            case measure => simp [intOf]; omega
          · have HX := Go.Lib.hid hx
            clear hx
            gi_wp2
            refine bodyPost_ret (results_none rfl _ _ _) rfl ?_
            exact ⟨⟨_, rfl⟩, .inr HX.out⟩
        · have i2 : (rc != 0) = true := by rw [bne_iff_ne]; exact hz
          have HD := Go.Lib.hid (HN.out hz w6 b06)
          clear HY HN b06 p6 hrc hz
          gi_wp2
          refine ⟨(fun _ h => by cases h), ?_⟩
          gi_wp2
          refine bodyPost_ret (results_none rfl _ _ _) rfl ?_
          exact ⟨⟨_, rfl⟩, .inl HD.out⟩
    · obtain rfl : k = 200 := by omega
      gi_wp2
      go_end0
      exact ⟨⟨_, rfl⟩, .inl (HE.out _ HJ.out)⟩
end Go.Proofs.YtppidbdkejkopaaGreatDoor.WlWalk
namespace Go.Proofs.YtppidbdkejkopaaGreatDoor.WlWalk
open Go.RowKit MemRow Ev NameMath NameWalk EvWalk NumMem DkWalk
def RecT (r : Nat) (o : Obj) : Thing := fun W G => RecW r o W ∧ G r ∧ G (r + 1) ∧ ∀ k, G k → k < W.heap.size
theorem recT_keeps (r : Nat) (o : Obj) : Keeps (RecT r o) :=
  ⟨fun ⟨h, i, j, hl⟩ hs hk => ⟨⟨(hk _ j).trans h.lp, (hk _ i).trans h.dfr⟩, i, j, fun k h => Nat.lt_of_lt_of_le (hl k h) hs⟩, fun h => h.2.2.2⟩
section
variable {base : Nat} {W : World} {P Q : Thing} {r : Nat} {o : Obj}
theorem rec_get (h : Pair base W P (With Q (RecT r o))) : RecW r o W := by
  obtain ⟨_, _, _, ⟨_, _, _, hr, _⟩, _⟩ := h
  exact hr.1
theorem putObj_other (W : World) {b k : Nat} (o : Obj) (h : k ≠ b) : (W.putObj b o).heap[k]? = W.heap[k]? := World.putObj_heap_other h
theorem rec_put (kp : Keeps P) (kq : Keeps Q) (h : Pair base W P (With Q (RecT r o))) (o' : Obj) : Pair base (W.putObj (r + 1) o') P (With Q (RecT r o')) ∧ Below base W (W.putObj (r + 1) o') := by
  obtain ⟨F, G, hp, ⟨G1, G2, h1, ⟨hw, hi, hj, hl⟩, i1, i2, hlt, hx⟩, hF, hG, hd⟩ := h
  have hsz : (W.putObj (r + 1) o').heap.size = W.heap.size := World.putObj_size
  refine ⟨⟨F, G, kp.keep hp (by omega) fun k hf => putObj_other W o' fun e => hd k hf (by rw [e]; exact i2 _ hj), ⟨G1, G2, kq.keep h1 (by omega) fun k hf => putObj_other W o' fun e => hx k hf (by rw [e]; exact hj), ⟨⟨World.putObj_heap_same (hl _ hj), (putObj_other W o' (by omega)).trans hw.dfr⟩, hi, hj, fun k hk => by rw [hsz]; exact hl k hk⟩, i1, i2, fun k hk => by rw [hsz]; exact hlt k hk, hx⟩, hF, hG, hd⟩, ?_⟩
  exact (Below.refl base W).grown (grownBy_putObj' W (r + 1) o') (by have := hl _ hj; have := hG _ (i2 _ hj); omega) fun k e => by cases e; exact hG _ (i2 _ hj)
theorem rec_end (kp : Keeps P) (kq : Keeps Q) (h : Pair base W P (With Q (RecT r o))) (o' : Obj) : Pair base (W.putObj r o') P Q ∧ Below base W (W.putObj r o') := by
  obtain ⟨F, G, hp, ⟨G1, G2, h1, ⟨hw, hi, hj, hl⟩, i1, i2, hlt, hx⟩, hF, hG, hd⟩ := h
  have hsz : (W.putObj r o').heap.size = W.heap.size := World.putObj_size
  refine ⟨⟨F, G1, kp.keep hp (by omega) fun k hf => putObj_other W o' fun e => hd k hf (by rw [e]; exact i2 _ hi), kq.keep h1 (by omega) fun k hf => putObj_other W o' fun e => hx k hf (by rw [e]; exact hi), hF, fun k hk => hG k (i1 k hk), fun k hf hg => hd k hf (i1 k hg)⟩, ?_⟩
  exact (Below.refl base W).grown (grownBy_putObj' W r o') (by have := hl _ hi; have := hG _ (i2 _ hi); omega) fun k e => by cases e; exact hG _ (i2 _ hi)
theorem rec_new (kp : Keeps P) (kq : Keeps Q) (hb : base ≤ W.heap.size) (h : Pair base W P Q) (o : Obj) : Pair base ((W.alloc (.deferred (some []))).alloc o) P (With Q (RecT W.heap.size o)) ∧ Below W.heap.size W ((W.alloc (.deferred (some []))).alloc o) := by
  have b : Below W.heap.size W ((W.alloc (.deferred (some []))).alloc o) := ((Below.refl _ W).alloc (Nat.le_refl _) _).alloc (by simp) _
  refine ⟨pair_more h kp kq hb b ⟨⟨?_, ?_⟩, ⟨Nat.le_refl _, by simp only [World.alloc, Array.size_push]; omega⟩, ⟨by omega, by simp only [World.alloc, Array.size_push]; omega⟩, fun k hk => hk.2⟩, b⟩
  · have := World.alloc_heap_new (W.alloc (.deferred (some []))) o
    rwa [World.size_alloc] at this
  · exact (Below.heap_alloc _ _ _ (by simp)).trans (World.alloc_heap_new W _)
end
structure YdX where
  i : Int
  B : Option Addr
  n : Nat
  c : Nat
abbrev encY (x : YdX) : Array Value := #[.int .i64 x.i, .slice x.B x.n x.c]
theorem bx_cell {base : Nat} {w : World} {P Q : Thing} {b : Nat} {v : Value} {t : TypeId} (h : Pair base w P (With Q (BxT b #[v] t))) : w.cell? ⟨b, 0, none⟩ = some v ∧ w.frozen? ⟨b, 0, none⟩ = false ∧ b < w.heap.size := by
  have hh := pair_bx h
  exact ⟨by rw [cell_of_row w b 0 _ _ _ hh]; rfl, by simp [World.frozen?, hh], (Array.getElem?_eq_some_iff.1 hh).1⟩
theorem bx_set {base : Nat} {w : World} {P Q : Thing} {b : Nat} {v : Value} {t : TypeId} (kp : Keeps P) (kq : Keeps Q) (h : Pair base w P (With Q (BxT b #[v] t))) (u : Value) : Pair base (w.setCell ⟨b, 0, none⟩ u) P (With Q (BxT b #[u] t)) ∧ Below base w (w.setCell ⟨b, 0, none⟩ u) := by
  have hh := pair_bx h
  refine lg_put kp kq h ?_
  simp only [World.setCell, Array.getElem?_modify, hh]
  rfl
theorem bx_new {base : Nat} {w : World} {P Q : Thing} (kp : Keeps P) (kq : Keeps Q) (hb : base ≤ w.heap.size) (h : Pair base w P Q) (cs : Array Value) (t : TypeId) : Pair base (w.alloc (.cells cs t)) P (With Q (BxT w.heap.size cs t)) ∧ Below w.heap.size w (w.alloc (.cells cs t)) := by
  have b : Below w.heap.size w (w.alloc (.cells cs t)) := (Below.refl _ w).alloc (Nat.le_refl _) _
  exact ⟨pair_more h kp kq hb b ⟨heap_alloc_new w _, ⟨Nat.le_refl _, by simp⟩, fun k hk => hk.2⟩, b⟩
end Go.Proofs.YtppidbdkejkopaaGreatDoor.WlWalk
namespace Go.Proofs.YtppidbdkejkopaaGreatDoor.BtWalk
open Go.RowKit MemRow Ev NameMath NameWalk EvWalk NumMath NumMem NumWalk EcWalk EdWalk EeLaw
theorem batch_info : (Tryz.prog.info? 39).map (fun i => (i.zero, i.size, i.bytes)) = some (some (.agg #[.int .i64 0, .slice none 0 0]), 2, 32) := by kernel_rfl
def BaCells (w : World) (b o : Nat) (x : Bat) : Prop := ∃ A n ca, w.cell? ⟨b, o, none⟩ = some (.int .i64 x.a) ∧ w.cell? ⟨b, o + 1, none⟩ = some (.slice A n ca) ∧ RdE w A n ca x.es
theorem BaCells.below {w w' : World} {b o : Nat} {x : Bat} (h : BaCells w b o x) (hb : Below w.heap.size w w') : BaCells w' b o x := by
  obtain ⟨A, n, ca, h0, h1, h2⟩ := h
  exact ⟨A, n, ca, bcell hb h0, bcell hb h1, h2.below hb⟩
def RdBs (w : World) (A : Option Addr) (n cap : Nat) (xs : List Bat) : Prop :=
  xs.length = n ∧ n ≤ cap ∧ cap ≤ maxLen ∧ (0 < n → ∃ b o, A = some ⟨b, o, none⟩ ∧ b < w.heap.size ∧ ∀ i, i < n → BaCells w b (o + i * 2) (xs.getD i noBat))
section
variable {w w' : World} {A : Option Addr} {n cap : Nat} {xs : List Bat}
theorem RdBs.nil (w : World) : RdBs w none 0 0 [] := ⟨rfl, Nat.le_refl _, Nat.zero_le _, fun h => absurd h (by omega)⟩
theorem RdBs.len (h : RdBs w A n cap xs) : xs.length = n := h.1
theorem RdBs.le (h : RdBs w A n cap xs) : n ≤ maxLen := Nat.le_trans h.2.1 h.2.2.1
theorem RdBs.at_ (h : RdBs w A n cap xs) (hn : 0 < n) : ∃ b o, A = some ⟨b, o, none⟩ ∧ b < w.heap.size ∧ ∀ i, i < n → BaCells w b (o + i * 2) (xs.getD i noBat) := h.2.2.2 hn
theorem RdBs.below (h : RdBs w A n cap xs) (hb : Below w.heap.size w w') : RdBs w' A n cap xs :=
  ⟨h.1, h.2.1, h.2.2.1, fun hn => by
    obtain ⟨b, o, hA, hlt, hc⟩ := h.2.2.2 hn
    exact ⟨b, o, hA, Nat.lt_of_lt_of_le hlt hb.size, fun i hi => (hc i hi).below hb⟩⟩
end
def BatsC (w : World) (base : Nat) : List Bat → List Value → Prop
  | [], cs => cs = []
  | x :: xs, cs => ∃ A n c cs', cs = .int .i64 x.a :: .slice A n c :: cs' ∧ OwnE w base A n c x.es ∧ BatsC w base xs cs'
theorem BatsC.map {w w' : World} {base base' : Nat} (h1 : ∀ (A : Option Addr) (n c : Nat) (es : List Ev), OwnE w base A n c es → OwnE w' base' A n c es) : ∀ (xs : List Bat) (cs : List Value), BatsC w base xs cs → BatsC w' base' xs cs
  | [], _, h => h
  | _ :: xs, _, ⟨A, n, c, cs', e, o, h⟩ => ⟨A, n, c, cs', e, h1 _ _ _ _ o, BatsC.map h1 xs cs' h⟩
theorem BatsC.snoc {w : World} {base : Nat} {x : Bat} {A : Option Addr} {n c : Nat} (o : OwnE w base A n c x.es) : ∀ (xs : List Bat) (cs : List Value), BatsC w base xs cs → BatsC w base (xs ++ [x]) (cs ++ [.int .i64 x.a, .slice A n c])
  | [], cs, h => by
    obtain rfl : cs = [] := h
    exact ⟨A, n, c, [], rfl, o, rfl⟩
  | y :: xs, cs, ⟨A1, n1, c1, cs', hc, p, h⟩ => by
    subst hc
    exact ⟨A1, n1, c1, cs' ++ [.int .i64 x.a, .slice A n c], rfl, p, BatsC.snoc o xs cs' h⟩
theorem BatsC.at_ {w : World} {base : Nat} : ∀ (xs : List Bat) (cs : List Value), BatsC w base xs cs → ∀ i, i < xs.length → ∃ A n c, cs[i * 2]? = some (.int .i64 (xs.getD i noBat).a) ∧ cs[i * 2 + 1]? = some (.slice A n c) ∧ OwnE w base A n c (xs.getD i noBat).es
  | [], _, _, i, hi => by simp at hi
  | x :: xs, cs, ⟨A, n, c, cs', hc, o, h⟩, i, hi => by
    subst hc
    cases i with
    | zero => exact ⟨A, n, c, rfl, rfl, o⟩
    | succ i =>
      obtain ⟨A1, n1, c1, q0, q1, p⟩ := BatsC.at_ xs cs' h i (by simpa using hi)
      have e2 : (i + 1) * 2 = i * 2 + 2 := by omega
      rw [e2]
      exact ⟨A1, n1, c1, by simpa using q0, by simpa using q1, by simpa using p⟩
def OwnBs (w : World) (base : Nat) (A : Option Addr) (n cap : Nat) (xs : List Bat) : Prop := ∃ cs, OwnC 2 w base 39 A n cap cs ∧ xs.length = n ∧ BatsC w base xs cs
theorem ownE_grown {w w' : World} {base base' : Nat} {A B : Option Addr} {n c m d : Nat} {es : List Ev} {cs : List Value} (h : OwnE w base A n c es) (ho : OwnC 2 w base' 39 B m d cs) (hg : w.grownBy w' (B.map (·.block))) : OwnE w' base A n c es := by
  obtain ⟨ds, o, hl, hc⟩ := h
  exact ⟨ds, OwnC.grown o hg (own_unlike o ho (by decide)), hl, EvsC.map (fun _ _ _ _ h => OwnC.grown h hg (own_unlike h ho (by decide))) (fun _ _ _ _ h => OwnC.grown h hg (own_unlike h ho (by decide))) es ds hc⟩
section
variable {w w' : World} {base n cap : Nat} {A : Option Addr} {xs : List Bat}
theorem OwnBs.nil (w : World) (base : Nat) : OwnBs w base none 0 0 [] := ⟨[], OwnC.nil _ _, rfl, rfl⟩
theorem OwnBs.empty (w : World) {base : Nat} (hb : base ≤ w.heap.size) : OwnBs (w.alloc (.cells #[] 39)) base (some ⟨w.heap.size, 0, none⟩) 0 0 [] := ⟨[], OwnC.empty w _ hb, rfl, rfl⟩
theorem OwnBs.len (h : OwnBs w base A n cap xs) : xs.length = n := by
  obtain ⟨_, _, h, _⟩ := h
  exact h
theorem OwnBs.lower {base' : Nat} (h : OwnBs w base A n cap xs) (hb : base' ≤ base) : OwnBs w base' A n cap xs := by
  obtain ⟨cs, o, hl, hc⟩ := h
  exact ⟨cs, own_lower o hb, hl, BatsC.map (fun _ _ _ _ h => h.lower hb) xs cs hc⟩
theorem OwnBs.below (h : OwnBs w base A n cap xs) (hb : Below w.heap.size w w') : OwnBs w' base A n cap xs := by
  obtain ⟨cs, o, hl, hc⟩ := h
  exact ⟨cs, OwnC.below o hb, hl, BatsC.map (fun _ _ _ _ h => h.below hb) xs cs hc⟩
theorem OwnBs.off {g : Nat} (h : OwnBs w base A n cap xs) (hg : w.grownBy w' (some g)) (hb : g < base) : OwnBs w' base A n cap xs := by
  obtain ⟨cs, o, hl, hc⟩ := h
  exact ⟨cs, own_off' o hg hb, hl, BatsC.map (fun _ _ _ _ h => h.off hg hb) xs cs hc⟩
theorem OwnBs.rd (h : OwnBs w base A n cap xs) : RdBs w A n cap xs := by
  obtain ⟨cs, o, hl, hc⟩ := h
  have r := OwnC.rd o
  refine ⟨hl, r.2.1, r.2.2.1, fun hn => ?_⟩
  obtain ⟨b, a, hA, hlt, hcell⟩ := RdC.at_ r (by omega) hn
  refine ⟨b, a, hA, hlt, fun i hi => ?_⟩
  obtain ⟨A1, n1, c1, q0, q1, p⟩ := BatsC.at_ xs cs hc i (by omega)
  exact ⟨A1, n1, c1, hcell _ _ q0, by rw [Nat.add_assoc]; exact hcell _ _ q1, p.rd⟩
theorem OwnBs.more {A' : Option Addr} {cap' : Nat} {cs : List Value} {x : Bat} {B : Option Addr} {m d : Nat} (ho : OwnC 2 w base 39 A n cap cs) (hl : xs.length = n) (hc : BatsC w base xs cs) (o : OwnE w base B m d x.es)
    (ho' : OwnC 2 w' base 39 A' (n + 1) cap' (cs ++ [.int .i64 x.a, .slice B m d])) (hg : w.grownBy w' (A.map (·.block))) : OwnBs w' base A' (n + 1) cap' (xs ++ [x]) :=
  have k : ∀ (C : Option Addr) (i j : Nat) (es : List Ev), OwnE w base C i j es → OwnE w' base C i j es := fun _ _ _ _ h => ownE_grown h ho hg
  ⟨_, ho', by rw [List.length_append, hl]; rfl, BatsC.snoc (k _ _ _ _ o) xs cs (BatsC.map k xs cs hc)⟩
end
theorem bat_one (x : Bat) (A : Option Addr) (n c : Nat) : ∀ v ∈ ([.int .i64 x.a, .slice A n c] : List Value), v.oneCell' = true := by
  intro v hv
  simp only [List.mem_cons, List.not_mem_nil, or_false] at hv
  rcases hv with rfl | rfl <;> rfl
theorem bat_take (l : List Bat) (j : Nat) (h : j < l.length) : l.take (j + 1) = l.take j ++ [l.getD j noBat] := by
  rw [List.take_succ_eq_append_getElem h]
  simp [List.getD, List.getElem?_eq_getElem h]
theorem sameX_of (v u : Value) (x y : Bat) (R : Bool) (w : World) (hv : IsB w v x) (hu : IsB w u y) (h : R = true ↔ x = y) : Calls Tryz.prog 56 #[v, u] w fun e w' => e = .returned (.bool R) ∧ Below w.heap.size w w' := by
  refine (refSameX_any v u x y w hv hu).mono ?_
  rintro e w' ⟨S, hS, rfl, b⟩
  have e1 : S = R := by
    cases S <;> cases R <;> simp_all
  subst e1
  exact ⟨rfl, b⟩
set_option maxHeartbeats 8000000 in
set_option maxRecDepth 100000 in
theorem refSameBs_any (A B : Option Addr) (n m ca cb : Nat) (xs ys : List Bat) (w : World) (ha : RdBs w A n ca xs) (hb : RdBs w B m cb ys) :
    Calls Tryz.prog 26 #[.slice A n ca, .slice B m cb] w fun e w' => ∃ R : Bool, (R = true ↔ xs = ys) ∧ e = .returned (.bool R) ∧ Below w.heap.size w w' := by
  have hn := ha.le
  have hm := hb.le
  unfold maxLen at hn hm
  have la := ha.len
  have lb := hb.len
  by_cases hnm : n = m
  · subst hnm
    have LA := Go.Lib.hid la
    have LB := Go.Lib.hid lb
    clear la lb
    go_enter Tryz.func26, Tryz.ntmps26
    go_wp2_with fail
    go_loopw [5, 6] (fun i _ wr => ∃ j : Nat, j ≤ n ∧ i = .int .i64 j ∧ xs.take j = ys.take j ∧ Below w.heap.size w wr) (fun i _ _ => n - (intOf i).toNat)
    case atStart => exact ⟨0, Nat.zero_le _, rfl, rfl, Below.refl _ _⟩
    case round =>
      obtain ⟨j, hj, rfl, hq, hw⟩ := hrel
      have HQ := Go.Lib.hid hq
      clear hq
      by_cases hlt : j < n
      · obtain ⟨ba, oa, rfl, _, ka⟩ := RdBs.at_ (ha.below hw) (by omega)
        obtain ⟨bb, ob, rfl, _, kb⟩ := RdBs.at_ (hb.below hw) (by omega)
        have ta := bat_take xs j (by rw [LA.out]; exact hlt)
        have tb := bat_take ys j (by rw [LB.out]; exact hlt)
        have hxe : xs = ys → xs.getD j noBat = ys.getD j noBat := fun h => by rw [h]
        have i1 : (j : Int) < n := by omega
        have kx := ka j hlt
        have ky := kb j hlt
        have TA := Go.Lib.hid ta
        have TB := Go.Lib.hid tb
        have HXE := Go.Lib.hid hxe
        clear ka kb ta tb hxe
        generalize xs.getD j noBat = x at *
        generalize ys.getD j noBat = y at *
        obtain ⟨A1, n1, k1, x0, x1, rx⟩ := kx
        obtain ⟨A2, n2, k2, y0, y1, ry⟩ := ky
        have b0 : Below wr.heap.size wr wr.drew := bel_drew (Below.refl _ _)
        have vx : IsB wr.drew (.agg #[.int .i64 x.a, .slice A1 n1 k1]) x := ⟨_, _, _, rfl, rx.below b0⟩
        have vy : IsB wr.drew (.agg #[.int .i64 y.a, .slice A2 n2 k2]) y := ⟨_, _, _, rfl, ry.below b0⟩
        clear rx ry
        obtain ⟨T, hT⟩ : ∃ T : Bool, T = true ↔ x = y := by
          by_cases h : x = y
          · exact ⟨true, ⟨fun _ => h, fun _ => rfl⟩⟩
          · exact ⟨false, ⟨(fun h => by cases h), fun h2 => absurd h2 h⟩⟩
        have HT := Go.Lib.hid hT
        clear hT
        go_wp2_with fail
        go_region_held (fun w' => w'.cell? ⟨ba, oa + j * 2, none⟩ = some (.int .i64 x.a) ∧ w'.cell? ⟨ba, oa + j * 2 + 1, none⟩ = some (.slice A1 n1 k1) ∧ w'.cell? ⟨bb, ob + j * 2, none⟩ = some (.int .i64 y.a) ∧ w'.cell? ⟨bb, ob + j * 2 + 1, none⟩ = some (.slice A2 n2 k2))
          (first | exact ⟨x0, x1, y0, y1⟩ | exact ⟨bcell b8 x0, bcell b8 x1, bcell b8 y0, bcell b8 y1⟩)
          (first | (go_at_call 56; refine (sameX_of _ _ x y T _ vx vy HT.out).mono ?_; rintro e w8 ⟨rfl, bb⟩; have b8 := below_chain b0 bb; clear bb))
        cases T with
        | true =>
          have hxy : x = y := HT.out.1 rfl
          have HXY := Go.Lib.hid hxy
          clear hxy
          go_wp2_with fail
          go_roundw
          case rel => exact ⟨j + 1, by omega, by go_num, by rw [TA.out, TB.out, HQ.out, HXY.out], below_chain hw b8⟩
          case measure => simp [intOf]; omega
        | false =>
          go_wp2_with fail
          go_ret
          refine ⟨false, ⟨(fun h => by cases h), fun h => ?_⟩, rfl, below_chain hw b8⟩
          have := HT.out.2 (HXE.out h)
          cases this
      · obtain rfl : n = j := by omega
        go_wp2_with fail
        go_ret
        have h1 := HQ.out
        rw [List.take_of_length_le (by rw [LA.out]; exact Nat.le_refl _), List.take_of_length_le (by rw [LB.out]; exact Nat.le_refl _)] at h1
        exact ⟨true, ⟨fun _ => h1, fun _ => rfl⟩, rfl, hw⟩
  · have i1 : ((n : Int) != (m : Int)) = true := by rw [bne_iff_ne]; omega
    have hne : xs ≠ ys := fun h => hnm (by rw [← la, ← lb, h])
    have HNE := Go.Lib.hid hne
    clear la lb hne
    go_enter Tryz.func26, Tryz.ntmps26
    go_wp2_with fail
    go_ret
    exact ⟨false, ⟨(fun h => by cases h), fun h => absurd h HNE.out⟩, rfl, Below.refl _ _⟩
end Go.Proofs.YtppidbdkejkopaaGreatDoor.BtWalk
namespace Go.Proofs.YtppidbdkejkopaaGreatDoor.WlWalk
open Go.RowKit MemRow Ev NameMath NameWalk EvWalk NumMem DkWalk BtWalk EdWalk
theorem own_keep {k : Nat} {w w' : World} {base : Nat} {t : TypeId} {A : Option Addr} {n cap : Nat} {cs : List Value} (h : OwnC k w base t A n cap cs) (hk : ∀ a, A = some a → w'.heap[a.block]? = w.heap[a.block]?) : OwnC k w' base t A n cap cs := by
  refine ⟨h.1, ?_⟩
  rcases h.2 with h2 | ⟨g, c, cur, hv, hb, hg, rest⟩
  · exact .inl h2
  · refine .inr ⟨g, c, cur, hv, hb, ?_, rest⟩
    injection hv with e1 _ _
    exact (hk _ e1).trans hg
theorem ownE_keep {w w' : World} {base : Nat} {A : Option Addr} {n cap : Nat} {es : List Ev} {t : TypeId} {k' n' c' : Nat} {cs' : List Value} {B : Option Addr} {base' : Nat} (h : OwnE w base A n cap es) (ho : OwnC k' w base' t B n' c' cs') (t1 : 69 ≠ t) (t2 : 9 ≠ t) (t3 : 132 ≠ t)
    (hk : ∀ k, base ≤ k → k < w.heap.size → (∀ b, B = some b → k ≠ b.block) → w'.heap[k]? = w.heap[k]?) : OwnE w' base A n cap es := by
  have one : ∀ (k : Nat) (t0 : TypeId) (C : Option Addr) (i c : Nat) (ds : List Value), t0 ≠ t → OwnC k w base t0 C i c ds → OwnC k w' base t0 C i c ds := fun k t0 C i c ds ht o =>
    own_keep o fun a ha => hk _ (OwnC.lt o a ha).1 (OwnC.lt o a ha).2 fun b hb e => own_unlike o ho ht a ha (by rw [hb, e]; rfl)
  obtain ⟨ds, o, hl, hc⟩ := h
  exact ⟨ds, one _ _ _ _ _ _ t1 o, hl, EvsC.map (fun _ _ _ _ h => one _ _ _ _ _ _ t2 h) (fun _ _ _ _ h => one _ _ _ _ _ _ t3 h) es ds hc⟩
def BatsK (lo : Nat) (xs : List Bat) (cs : List Value) : Thing := fun w G => (∀ w' : World, (∀ k, G k → w'.heap[k]? = w.heap[k]?) → BatsC w' lo xs cs) ∧ ∀ k, G k → k < w.heap.size
theorem batsK_keeps (lo : Nat) (xs : List Bat) (cs : List Value) : Keeps (BatsK lo xs cs) :=
  ⟨fun h hs hk => ⟨fun w2 h2 => h.1 w2 fun k hf => (h2 k hf).trans (hk k hf), fun k hf => Nat.lt_of_lt_of_le (h.2 k hf) hs⟩, fun h => h.2⟩
theorem BatsK.now {lo : Nat} {xs : List Bat} {cs : List Value} {w : World} {G : Nat → Prop} (h : BatsK lo xs cs w G) : BatsC w lo xs cs := h.1 w fun _ _ => rfl
theorem batsK_of {w : World} {lo : Nat} {B : Option Addr} {m d : Nat} {cs : List Value} {xs : List Bat} (ho : OwnC 2 w lo 39 B m d cs) (hc : BatsC w lo xs cs) :
    BatsK lo xs cs w (fun k => (lo ≤ k ∧ k < w.heap.size) ∧ ∀ b, B = some b → k ≠ b.block) :=
  ⟨fun w' hk => BatsC.map (fun _ _ _ _ h => ownE_keep h ho (by decide) (by decide) (by decide) fun k h1 h2 h3 => hk k ⟨⟨h1, h2⟩, h3⟩) xs cs hc, fun _ h => h.1.2⟩
def BsT (lo : Nat) (A : Option Addr) (n c : Nat) (xs : List Bat) : Thing := fun w G => ∃ cs G1, OwnC 2 w lo 39 A n c cs ∧ xs.length = n ∧ BatsK lo xs cs w G1 ∧ (∀ a, A = some a → G a.block ∧ ¬ G1 a.block) ∧ (∀ k, G1 k → G k) ∧ ∀ k, G k → k < w.heap.size
theorem bsT_keeps (lo : Nat) (A : Option Addr) (n c : Nat) (xs : List Bat) : Keeps (BsT lo A n c xs) :=
  ⟨fun ⟨cs, G1, o, hl, hb, ha, hi, hlt⟩ hs hk => ⟨cs, G1, own_keep o fun a e => hk _ (ha a e).1, hl, (batsK_keeps _ _ _).keep hb hs fun k h => hk k (hi k h), ha, hi, fun k h => Nat.lt_of_lt_of_le (hlt k h) hs⟩, fun ⟨_, _, _, _, _, _, _, hlt⟩ => hlt⟩
theorem BsT.own {lo : Nat} {A : Option Addr} {n c : Nat} {xs : List Bat} {w : World} {G : Nat → Prop} (h : BsT lo A n c xs w G) : OwnBs w lo A n c xs := by
  obtain ⟨cs, G1, o, hl, hb, _⟩ := h
  exact ⟨cs, o, hl, hb.now⟩
theorem bsT_of {w : World} {lo : Nat} {B : Option Addr} {m d : Nat} {xs : List Bat} (h : OwnBs w lo B m d xs) : BsT lo B m d xs w (fun k => lo ≤ k ∧ k < w.heap.size) := by
  obtain ⟨cs, o, hl, hc⟩ := h
  exact ⟨cs, _, o, hl, batsK_of o hc, fun a ha => ⟨OwnC.lt o a ha, fun h => h.2 a ha rfl⟩, fun k h => h.1, fun k h => h.2⟩
theorem BsT.lower {lo lo' : Nat} {A : Option Addr} {n c : Nat} {xs : List Bat} {w : World} {G : Nat → Prop} (h : BsT lo A n c xs w G) (hb : lo' ≤ lo) : BsT lo' A n c xs w G := by
  obtain ⟨cs, G1, o, hl, hk, ha, hi, hlt⟩ := h
  exact ⟨cs, G1, own_lower o hb, hl, ⟨fun w' h2 => BatsC.map (fun _ _ _ _ h => h.lower hb) xs cs (hk.1 w' h2), hk.2⟩, ha, hi, hlt⟩
theorem pair_bs {base : Nat} {w : World} {P Q : Thing} {lo : Nat} {A : Option Addr} {n c : Nat} {xs : List Bat} (h : Pair base w P (With Q (BsT lo A n c xs))) : OwnBs w lo A n c xs := by
  obtain ⟨_, _, _, ⟨_, _, _, hr, _⟩, _⟩ := h
  exact hr.own
def TwoT (lo : Nat) (A : Option Addr) (n c : Nat) (xs : List Bat) (B : Option Addr) (m d : Nat) (ys : List Bat) : Thing := fun w G => ∃ cs ds G1, OwnC 2 w lo 39 A n c cs ∧ xs.length = n ∧ BatsK lo xs cs w G1 ∧ OwnC 2 w lo 39 B m d ds ∧ ys.length = m ∧ BatsK lo ys ds w G1 ∧ (∀ a, A = some a → G a.block ∧ ¬ G1 a.block) ∧ (∀ b, B = some b → G b.block ∧ ¬ G1 b.block) ∧ (∀ a b, A = some a → B = some b → a.block ≠ b.block) ∧ (∀ k, G1 k → G k) ∧ ∀ k, G k → k < w.heap.size
theorem twoT_keeps (lo : Nat) (A : Option Addr) (n c : Nat) (xs : List Bat) (B : Option Addr) (m d : Nat) (ys : List Bat) : Keeps (TwoT lo A n c xs B m d ys) :=
  ⟨fun ⟨cs, ds, G1, o, hl, hb, o', hl', hb', ha, ha', hab, hi, hlt⟩ hs hk => ⟨cs, ds, G1, own_keep o fun a e => hk _ (ha a e).1, hl, (batsK_keeps _ _ _).keep hb hs fun k h => hk k (hi k h), own_keep o' fun a e => hk _ (ha' a e).1, hl', (batsK_keeps _ _ _).keep hb' hs fun k h => hk k (hi k h), ha, ha', hab, hi, fun k h => Nat.lt_of_lt_of_le (hlt k h) hs⟩, fun ⟨_, _, _, _, _, _, _, _, _, _, _, _, _, hlt⟩ => hlt⟩
section
variable {lo : Nat} {A B : Option Addr} {n c m d : Nat} {xs ys : List Bat} {w : World} {G : Nat → Prop}
theorem TwoT.first (h : TwoT lo A n c xs B m d ys w G) : BsT lo A n c xs w G := by
  obtain ⟨cs, ds, G1, o, hl, hb, _, _, _, ha, _, _, hi, hlt⟩ := h
  exact ⟨cs, G1, o, hl, hb, ha, hi, hlt⟩
theorem twoT_of {G1 G2 : Nat → Prop} (h1 : BsT lo A n c xs w G1) (h2 : BsT lo B m d ys w G2) (hd : ∀ k, G1 k → ¬ G2 k) : TwoT lo A n c xs B m d ys w (fun k => G1 k ∨ G2 k) := by
  obtain ⟨cs, H1, o, hl, hb, ha, hi, hlt⟩ := h1
  obtain ⟨ds, H2, o', hl', hb', ha', hi', hlt'⟩ := h2
  refine ⟨cs, ds, fun k => H1 k ∨ H2 k, o, hl, ⟨fun w' hk => hb.1 w' fun k h => hk k (.inl h), fun k hk => ?_⟩, o', hl', ⟨fun w' hk => hb'.1 w' fun k h => hk k (.inr h), fun k hk => ?_⟩, fun a e => ⟨.inl (ha a e).1, fun h => ?_⟩, fun a e => ⟨.inr (ha' a e).1, fun h => ?_⟩, fun a b e1 e2 e => hd _ (ha a e1).1 (by rw [e]; exact (ha' b e2).1), fun k h => ?_, fun k h => ?_⟩
  · rcases hk with h | h
    · exact hlt k (hi k h)
    · exact hlt' k (hi' k h)
  · rcases hk with h | h
    · exact hlt k (hi k h)
    · exact hlt' k (hi' k h)
  · rcases h with h | h
    · exact (ha a e).2 h
    · exact hd _ (ha a e).1 (hi' _ h)
  · rcases h with h | h
    · exact hd _ (hi _ h) (ha' a e).1
    · exact (ha' a e).2 h
  · rcases h with h | h
    · exact .inl (hi k h)
    · exact .inr (hi' k h)
  · rcases h with h | h
    · exact hlt k h
    · exact hlt' k h
theorem TwoT.more (h : TwoT lo A n c xs B m d ys w G) {i : Nat} (hi : i < m) : ∃ cs E j e, OwnC 2 w lo 39 A n c cs ∧ xs.length = n ∧ OwnE w lo E j e (ys.getD i noBat).es ∧ (∃ b o, B = some ⟨b, o, none⟩ ∧ b < w.heap.size ∧ w.cell? ⟨b, o + i * 2, none⟩ = some (.int .i64 (ys.getD i noBat).a) ∧ w.cell? ⟨b, o + (i * 2 + 1), none⟩ = some (.slice E j e)) ∧
    ∀ A' c' w', OwnC 2 w' lo 39 A' (n + 1) c' (cs ++ [.int .i64 (ys.getD i noBat).a, .slice E j e]) → w.grownBy w' (A.map (·.block)) → (A'.map (·.block) = A.map (·.block) ∨ A'.map (·.block) = some w.heap.size) →
      TwoT lo A' (n + 1) c' (xs ++ [ys.getD i noBat]) B m d ys w' (fun k => G k ∨ A'.map (·.block) = some k) ∧ (∀ k, k < w.heap.size → ¬ G k → w'.heap[k]? = w.heap[k]?) ∧ w.heap.size ≤ w'.heap.size := by
  obtain ⟨cs, ds, G1, o, hl, hb, o', hl', hb', ha, ha', hab, hi1, hlt⟩ := h
  have hy : i < ys.length := by omega
  obtain ⟨E, j, e, c0, c1, oe⟩ := BatsC.at_ ys ds hb'.now i hy
  obtain ⟨b, a, hB, hlt2, hcell⟩ := RdC.at_ (OwnC.rd o') (by omega) (by omega)
  refine ⟨cs, E, j, e, o, hl, oe, ⟨b, a, hB, hlt2, hcell _ _ c0, hcell _ _ c1⟩, fun A' c' w' o2 hg hA' => ?_⟩
  obtain ⟨_, _, _, gs, gb⟩ := hg
  have na : ∀ k, (∀ a, A = some a → a.block ≠ k) → some k ≠ A.map (·.block) := fun k hk e => by
    cases A with
    | none => cases e
    | some a => injection e with e; exact hk a rfl e.symm
  have k1 : ∀ k, G1 k → w'.heap[k]? = w.heap[k]? := fun k hk => gb k (hb.2 k hk) (na k fun a e1 e2 => (ha a e1).2 (by rw [e2]; exact hk))
  have sm : ∀ w2 : World, (∀ k, G1 k → w2.heap[k]? = w.heap[k]?) → OwnE w2 lo E j e (ys.getD i noBat).es := fun w2 h2 => by
    obtain ⟨E', j', e', _, c1', oe'⟩ := BatsC.at_ ys ds (hb'.1 w2 h2) i hy
    rw [c1] at c1'
    injection c1' with c1'
    injection c1' with q1 q2 q3
    subst q1 q2 q3
    exact oe'
  refine ⟨⟨_, ds, G1, o2, by rw [List.length_append, hl]; rfl, ⟨fun w2 h2 => ?_, fun k hk => Nat.lt_of_lt_of_le (hb.2 k hk) gs⟩, own_keep o' fun a e => gb _ (hlt _ (ha' a e).1) (na _ fun a1 e1 e2 => hab a1 a e1 e e2), hl', ⟨fun w2 h2 => hb'.1 w2 fun k hk => (h2 k hk).trans (k1 k hk), fun k hk => Nat.lt_of_lt_of_le (hb.2 k hk) gs⟩, fun a1 e1 => ⟨.inr (by rw [e1]; rfl), fun hG => ?_⟩, fun b1 e1 => ⟨.inl (ha' b1 e1).1, (ha' b1 e1).2⟩, fun a1 b1 e1 e2 e3 => ?_, fun k hk => .inl (hi1 k hk), fun k hk => ?_⟩, fun k hk hG => gb k hk (na k fun a1 e1 e2 => hG (by rw [← e2]; exact (ha a1 e1).1)), gs⟩
  · have h3 : ∀ k, G1 k → w2.heap[k]? = w.heap[k]? := fun k hk => (h2 k hk).trans (k1 k hk)
    exact BatsC.snoc (sm w2 h3) xs cs (hb.1 w2 h3)
  · rw [e1] at hA'
    rcases hA' with q | q
    · cases A with
      | none => cases q
      | some a2 => injection q with q; have q' : a1.block = a2.block := q; exact (ha a2 rfl).2 (by rw [← q']; exact hG)
    · injection q with q
      have := hb.2 _ hG
      simp only at q
      omega
  · rw [e1] at hA'
    rcases hA' with q | q
    · cases A with
      | none => cases q
      | some a2 => injection q with q; exact hab a2 b1 rfl e2 (q.symm.trans e3)
    · injection q with q
      have := hlt _ (ha' b1 e2).1
      simp only at q
      omega
  · rcases hk with hk | hk
    · exact Nat.lt_of_lt_of_le (hlt k hk) gs
    · cases A' with
      | none => cases hk
      | some a' => injection hk with hk; rw [← hk]; exact (OwnC.lt o2 a' rfl).2
end
section
variable {base : Nat} {w : World} {P Q : Thing} {lo : Nat} {A B : Option Addr} {n c m d : Nat} {xs ys : List Bat}
theorem pair_grow (h : Pair base w P (With Q (TwoT lo A n c xs B m d ys))) (kp : Keeps P) (kq : Keeps Q) (hb : base ≤ w.heap.size) {i : Nat} (hi : i < m) : ∃ cs E j e, OwnC 2 w lo 39 A n c cs ∧ xs.length = n ∧ OwnE w lo E j e (ys.getD i noBat).es ∧ (∃ b o, B = some ⟨b, o, none⟩ ∧ b < w.heap.size ∧ w.cell? ⟨b, o + i * 2, none⟩ = some (.int .i64 (ys.getD i noBat).a) ∧ w.cell? ⟨b, o + (i * 2 + 1), none⟩ = some (.slice E j e)) ∧
    ∀ A' c' w', OwnC 2 w' lo 39 A' (n + 1) c' (cs ++ [.int .i64 (ys.getD i noBat).a, .slice E j e]) → w.grownBy w' (A.map (·.block)) → (A'.map (·.block) = A.map (·.block) ∨ A'.map (·.block) = some w.heap.size) →
      Pair base w' P (With Q (TwoT lo A' (n + 1) c' (xs ++ [ys.getD i noBat]) B m d ys)) ∧ Below base w w' := by
  obtain ⟨F, G, hp, ⟨G1, G2, hq, ht, i1, i2, hlt, hx⟩, hF, hG, hd⟩ := h
  have h0 := ht
  obtain ⟨cs, E, j, e, o, hl, oe, hB, hmore⟩ := ht.more hi
  refine ⟨cs, E, j, e, o, hl, oe, hB, fun A' c' w' o2 hg hA' => ?_⟩
  obtain ⟨ht', hk, hs⟩ := hmore A' c' w' o2 hg hA'
  obtain ⟨g1, g2, g3, _, _⟩ := hg
  have new : ∀ k, A'.map (·.block) = some k → G2 k ∨ k = w.heap.size := fun k e => by
    rcases hA' with q | q
    · rw [q] at e
      cases A with
      | none => cases e
      | some a =>
        injection e with e
        obtain ⟨_, _, _, _, _, _, _, _, _, ha, _⟩ := h0
        exact .inl (by rw [← e]; exact (ha a rfl).1)
    · rw [q] at e
      injection e with e
      exact .inr e.symm
  have hA2 : ∀ k, A'.map (·.block) = some k → k < w'.heap.size := fun k e => by
    cases A' with
    | none => cases e
    | some a' => injection e with e; rw [← e]; exact (OwnC.lt o2 a' rfl).2
  refine ⟨⟨F, fun k => G k ∨ A'.map (·.block) = some k, kp.keep hp hs fun k hf => hk k (kp.lt hp k hf) fun h2 => hd k hf (i2 k h2), ⟨G1, _, kq.keep hq hs fun k hf => hk k (kq.lt hq k hf) fun h2 => hx k hf h2, ht', fun k h1 => .inl (i1 k h1), fun k h2 => ?_, fun k hk => ?_, fun k h1 h2 => ?_⟩, hF, fun k hk => ?_, fun k hf hk => ?_⟩, ?_⟩
  · rcases h2 with h2 | h2
    · exact .inl (i2 k h2)
    · exact .inr h2
  · rcases hk with h | h
    · exact Nat.lt_of_lt_of_le (hlt k h) hs
    · exact hA2 k h
  · rcases h2 with h2 | h2
    · exact hx k h1 h2
    · rcases new k h2 with h3 | h3
      · exact hx k h1 h3
      · have := kq.lt hq k h1; omega
  · rcases hk with h | h
    · exact hG k h
    · rcases new k h with h3 | h3
      · exact hG k (i2 k h3)
      · omega
  · rcases hk with h | h
    · exact hd k hf h
    · rcases new k h with h3 | h3
      · exact hd k hf (i2 k h3)
      · have := kp.lt hp k hf; omega
  · exact ⟨g1, g2, g3, hs, fun k hkb => hk k (by omega) fun h2 => by have := hG k (i2 k h2); omega⟩
theorem pair_two {w' : World} (h : Pair base w P (With Q (BsT lo A n c xs))) (kp : Keeps P) (kq : Keeps Q) (hb : base ≤ w.heap.size) (hlo : lo ≤ w.heap.size) (hbl : Below w.heap.size w w') (ho : OwnBs w' w.heap.size B m d ys) : Pair base w' P (With Q (TwoT lo A n c xs B m d ys)) := by
  have h1 := pair_more (R := BsT w.heap.size B m d ys) h kp (with_keeps kq (bsT_keeps _ _ _ _ _)) hb hbl (bsT_of ho)
  obtain ⟨F, G, hp, ⟨G1, G2, ⟨H1, H2, hq, hr, a1, a2, a3, a4⟩, hs, i1, i2, hl, hx⟩, hF, hG, hd⟩ := h1
  refine ⟨F, G, hp, ⟨H1, _, hq, twoT_of hr (hs.lower hlo) (fun k hk h2 => hx k (a2 k hk) h2), fun k hk => i1 k (a1 k hk), fun k hk => ?_, hl, fun k hk h2 => ?_⟩, hF, hG, hd⟩
  · rcases hk with hk | hk
    · exact i1 k (a2 k hk)
    · exact i2 k hk
  · rcases h2 with h2 | h2
    · exact a4 k hk h2
    · exact hx k (a1 k hk) h2
theorem pair_one (h : Pair base w P (With Q (TwoT lo A n c xs B m d ys))) : Pair base w P (With Q (BsT lo A n c xs)) := by
  obtain ⟨F, G, hp, ⟨G1, G2, hq, ht, i1, i2, hlt, hx⟩, hF, hG, hd⟩ := h
  exact ⟨F, G, hp, ⟨G1, G2, hq, ht.first, i1, i2, hlt, hx⟩, hF, hG, hd⟩
end
end Go.Proofs.YtppidbdkejkopaaGreatDoor.WlWalk
namespace Go.Proofs.YtppidbdkejkopaaGreatDoor.WlWalk
open Go.RowKit MemRow Ev NameMath NameWalk EvWalk NumMem FrMath BtWalk EdWalk
theorem good_step_none {b : List UInt8} {last L : Int} {ys : List Bat} {j : Nat} (hq : goodB b last = ys ++ goodB (b.drop j) L) (hj : (bytesW ys).length = j) (h : goodB (b.drop j) L = []) : goodB b last = ys ∧ goodN b last = j := by
  rw [h, List.append_nil] at hq
  exact ⟨hq, by unfold goodN; rw [hq, hj]⟩
theorem good_step {b : List UInt8} {last L : Int} {ys : List Bat} {j : Nat} {y : Bat} {x : List UInt8} (hq : goodB b last = ys ++ goodB (b.drop j) L) (hf : takeF (b.drop j) = some x) (ht : takeX x = some y) (ha : y.a = L) :
    goodB b last = (ys ++ [y]) ++ goodB (b.drop (j + (8 + x.length))) (L + (y.es.length : Int)) := by
  rw [hq]
  have e : goodB (b.drop j) L = y :: goodB (b.drop (j + (8 + x.length))) (L + (y.es.length : Int)) := by
    unfold goodB
    rw [scanF_some hf, chain_on ht ha, List.drop_drop]
  rw [e, List.append_assoc]
  rfl
set_option maxHeartbeats 8000000 in
set_option maxRecDepth 100000 in
theorem refGood_any (A : Option Addr) (n cap : Nat) (b : List UInt8) (last : Int) (w : World) (h : Rd w A n cap b) (hn : n ≤ 100000) (hl0 : 0 ≤ last ∧ last ≤ 1048576) :
    Calls Tryz.prog 42 #[.slice A n cap, .int .i64 last] w fun e w' => ∃ B m c, e = .returned (.tuple #[.slice B m c, .int .i64 (goodN b last : Nat)]) ∧ OwnBs w' w.heap.size B m c (goodB b last) ∧ Below w.heap.size w w' ∧ last + (tot (goodB b last) : Int) ≤ 1048576 := by
  have al : Below w.heap.size w (w.alloc (.cells #[] 39)) := (Below.refl _ _).alloc (Nat.le_refl _) _
  have o1 := OwnBs.empty w (Nat.le_refl w.heap.size)
  have R0 := Go.Lib.hid h
  have HL := Go.Lib.hid h.len
  clear h
  go_enter Tryz.func42, Tryz.ntmps42
  go_wp2_with fail
  go_loopw [1, 6, 7, 8, 9, 10, 11] (fun lv ov i _ _ _ _ wr => ∃ (B : Option Addr) (m c j : Nat) (L : Int) (ys : List Bat), lv = .int .i64 L ∧ ov = .slice B m c ∧ i = .int .i64 j ∧ j ≤ n ∧ (0 ≤ L ∧ L ≤ 1048576) ∧ 8 * m ≤ j ∧ Hid (goodB b last = ys ++ goodB (b.drop j) L) ∧ Hid ((bytesW ys).length = j) ∧ Hid (L = last + (tot ys : Int)) ∧ OwnBs wr w.heap.size B m c ys ∧ Below w.heap.size w wr) (fun _ _ i _ _ _ _ _ => n - (intOf i).toNat)
  case atStart => exact ⟨_, 0, 0, 0, last, [], rfl, rfl, rfl, Nat.zero_le _, hl0, Nat.zero_le _, Go.Lib.hid rfl, Go.Lib.hid rfl, Go.Lib.hid (by simp [tot]), o1, al⟩
  case round =>
    obtain ⟨B, m, c, j, L, ys, rfl, rfl, rfl, hj, hL, h8, HQ, HJ, HT, oj, Bj⟩ := hrel
    clear o1 al
    have HEND := Go.Lib.hid (fun (hz : goodB (b.drop j) L = []) => good_step_none HQ.out HJ.out hz)
    obtain ⟨A1, q1, r1⟩ := FrWalk.slice_low (R0.out.below Bj) hj
    go_wp2_with fail
    refine (FrWalk.refTakeF_any A1 (n - j) (cap - j) (b.drop j) wr r1).mono ?_
    rintro e w2 ⟨A2, m2, c2, rfl, o2, b2⟩
    have oj2 := oj.below b2
    have B2 := below_chain Bj b2
    clear r1 q1 oj Bj
    cases ht : takeF (b.drop j) with
    | none =>
      have hz : goodB (b.drop j) L = [] := by unfold goodB; rw [scanF_none ht]; rfl
      have E1 := Go.Lib.hid (HEND.out hz)
      have hle : L = last + (tot ys : Int) := HT.out
      have hE : last + (tot ys : Int) ≤ 1048576 := by omega
      have HE := Go.Lib.hid hE
      rw [FrWalk.takeN_none ht]
      clear ht hz hle hE b2
      go_wp2_with fail
      go_ret2
      exact ⟨B, m, c, by (rw [E1.out.2]; rfl), by rw [E1.out.1]; exact oj2, B2, by rw [E1.out.1]; exact HE.out⟩
    | some x =>
      obtain ⟨hx, hd⟩ := takeF_some ht
      have hle := congrArg List.length hd
      rw [List.length_append, frameF_length, List.length_drop, HL.out] at hle
      rw [FrWalk.takeN_some ht]
      rw [FrWalk.takeB_some ht] at o2
      have hxl : x.length ≤ 1000000 := by unfold maxF at hx; omega
      have i1 : ((((8 + x.length : Nat) : Int)) == 0) = false := by rw [beq_eq_false_iff_ne]; omega
      have HF := Go.Lib.hid ht
      have hkn : j + (8 + x.length) ≤ n := by omega
      have HKN := Go.Lib.hid hkn
      clear ht hd hle hx
      generalize hk : 8 + x.length = k at *
      have HK := Go.Lib.hid hk
      have HXL := Go.Lib.hid hxl
      clear hk hxl hkn
      go_wp2_with fail
      refine (refTakeX_any A2 m2 c2 x w2 o2.rd HXL.out).mono ?_
      rintro e w3 ⟨b3, hp⟩
      have oj3 := oj2.below b3
      have B3 := below_chain B2 b3
      rcases hp with ⟨y, A4, m4, c4, hty, rfl, oy⟩ | ⟨hty, rfl⟩
      · have al4 := batch_bel w3 (.int .i64 y.a) (.slice A4 m4 c4)
        have x4 := BxAt.new w3 (.int .i64 y.a) (.slice A4 m4 c4)
        have oj4 := oj3.below al4
        have oy4 := (oy.below al4).lower (base' := w.heap.size) B2.size
        have B4 := below_chain B3 al4
        have hmay := ((takeX_iff x y).1 hty).1
        obtain ⟨z1, z2, _, z4, z5⟩ := (mayX_zero y).1 hmay
        have hm4 := oy.len
        have HTY := Go.Lib.hid hty
        clear oj2 oj3 oy b2 b3 B2 B3 al4 o2 hty hmay
        go_upto_region 7 with (fail)
        generalize w3.alloc (.cells #[.int .i64 y.a, .slice A4 m4 c4] 39) = w4 at *
        generalize w3.heap.size = gx at *
        have k0 := x4.c0
        have k1 := x4.c1
        by_cases ha : y.a = L
        · have HNEW := Go.Lib.hid (good_step HQ.out HF.out HTY.out ha)
          have hbw : (bytesW (ys ++ [y])).length = j + k := by
            rw [bytesW_append, bytesW_one, List.length_append, frameF_length, HJ.out, ← HK.out, ((takeX_iff x y).1 HTY.out).2]
            omega
          have HBW := Go.Lib.hid hbw
          have htt : L + (m4 : Int) = last + (tot (ys ++ [y]) : Int) := by
            have e1 : tot [y] = y.es.length := by simp [tot]
            rw [tot_append, e1, HT.out, hm4]
            push_cast
            omega
          have HTT := Go.Lib.hid htt
          have i2 : (y.a != L) = false := by rw [bne_eq_false_iff_eq]; exact ha
          have hL2 : 0 ≤ L + (m4 : Int) ∧ L + (m4 : Int) ≤ 1048576 := by omega
          rw [HK.out, hm4] at HNEW
          clear hbw htt
          have al5 : Below w4.heap.size w4 (w4.alloc (.cells #[.int .i64 y.a, .slice A4 m4 c4] 39)) := batch_bel w4 _ _
          have oj5 := oj4.below al5
          have oy5 := oy4.below al5
          have B5 := below_chain B4 al5
          have d5 : RdC 2 (w4.alloc (.cells #[.int .i64 y.a, .slice A4 m4 c4] 39)) (some ⟨w4.heap.size, 0, none⟩) 1 1 [.int .i64 y.a, .slice A4 m4 c4] := RdC.new w4 39 [.int .i64 y.a, .slice A4 m4 c4] rfl (by decide)
          obtain ⟨cs, oc, hlc, hbc⟩ := oj5
          have h63 : m + 1 ≤ maxLen := by unfold maxLen; omega
          have hsz : (m + 1) * 32 ≤ 140737488355328 := by omega
          have big := B5.size
          have hkn := HKN.out
          have hm8 : 8 * (m + 1) ≤ j + k := by have := HK.out; omega
          clear oj4 oy4 B4 x4 al5 HQ HT HJ HEND ha
          go_wp2_with (at_builtin; refine wpList_append_cells rfl (.tmp 44) (.tmp 46) 30 rfl 39 (.agg #[.int .i64 0, .slice none 0 0]) 32 Tryz.underlying30 batch_info rfl (by decide) rfl rfl oc d5 (bat_one y _ _ _) h63 hsz big ?_; intro A8 c8 w8 o8 g8 _)
          have o9 := OwnBs.more oc hlc hbc oy5 o8 g8
          have B9 := below_grown_own oc B5 g8 big
          clear oc hbc d5 o8 oy5
          go_roundw
          case rel => exact ⟨A8, m + 1, c8, j + k, L + (m4 : Int), ys ++ [y], by go_num, rfl, by go_num, hkn, hL2, hm8, HNEW, HBW, HTT, o9, B9⟩
          case measure => simp [intOf]; have := HK.out; omega
        · have hz : goodB (b.drop j) L = [] := by unfold goodB; rw [scanF_some HF.out, chain_off HTY.out ha]
          have E1 := Go.Lib.hid (HEND.out hz)
          have hE : last + (tot ys : Int) ≤ 1048576 := by have := HT.out; omega
          have HE := Go.Lib.hid hE
          have i2 : (y.a != L) = true := by rw [bne_iff_ne]; exact ha
          clear hz hE ha
          go_wp2_with fail
          go_ret2
          exact ⟨B, m, c, by (rw [E1.out.2]; rfl), by rw [E1.out.1]; exact oj4, B4, by rw [E1.out.1]; exact HE.out⟩
      · have hz : goodB (b.drop j) L = [] := by unfold goodB; rw [scanF_some HF.out, chain_none hty]
        have E1 := Go.Lib.hid (HEND.out hz)
        have hE : last + (tot ys : Int) ≤ 1048576 := by have := HT.out; omega
        have HE := Go.Lib.hid hE
        have al4 := batch_bel w3 (.int .i64 0) (.slice none 0 0)
        have oj4 := oj3.below al4
        have B4 := below_chain B3 al4
        clear hz hE hty oj2 oj3 B2 B3 b2 b3
        go_wp2_with fail
        go_ret2
        exact ⟨B, m, c, by (rw [E1.out.2]; rfl), by rw [E1.out.1]; exact oj4, B4, by rw [E1.out.1]; exact HE.out⟩
end Go.Proofs.YtppidbdkejkopaaGreatDoor.WlWalk
namespace Go.Proofs.YtppidbdkejkopaaGreatDoor.WlWalk
open Go.RowKit MemRow Ev NameMath NameWalk EvWalk NumMem DkWalk FrMath BtWalk EdWalk
def OpenOut (base : Nat) (g : Nat) (Q : Thing) (R : Int × Dk × Rd11) (e : Ending) (w' : World) : Prop :=
  (R.1 = 0 ∧ ∃ gl A n c, e = .returned (.tuple #[.pointer (some ⟨gl, 0, none⟩), .slice A n c, .int .i64 0]) ∧ Pair base w' (RfT g R.2.1) (With (With Q (LgT gl g R.2.2.many R.2.2.last)) (BsT base A n c R.2.2.all))) ∨
  (R.1 ≠ 0 ∧ e = .returned (.tuple #[.pointer none, .slice none 0 0, .int .i64 R.1]) ∧ Pair base w' (RfT g R.2.1) Q)
def ReadAt (D : Dk) (D' : Dk) (k : Nat) (last : Int) (all : List Bat) (cut : Int) : Prop :=
  (cut = -1 ∧ k ≤ manyW D ∧ openR (manyW D) D 0 0 [] = openR (manyW D - k) D' k last all) ∨
  (∃ z : Nat, cut = z ∧ openR (manyW D) D 0 0 [] = ⟨0, D', all, k, last, some z⟩)
theorem manyF_le (D : Dk) : ∀ f n, manyF D f n ≤ n + f := by
  intro f
  induction f with
  | zero => intro n; exact Nat.le_refl _
  | succ f ih =>
    intro n
    rw [manyF_step]
    split
    · have := ih (n + 1); omega
    · omega
theorem manyW_le (D : Dk) : manyW D ≤ 200 := by
  have := manyF_le D 200 0
  unfold manyW
  omega
theorem readB_le {D : Dk} (ok : DkOk D) (s : ByteArray) : (readB D s).length ≤ 65536 := by
  unfold readB
  split
  · exact (ok.fls _ (fl_get (by assumption))).1
  · simp
theorem tot_take_le (ys : List Bat) (q : Nat) : tot (ys.take q) ≤ tot ys := by
  have h := tot_append (ys.take q) (ys.drop q)
  rw [List.take_append_drop] at h
  omega
theorem len_le_tot : ∀ {ys : List Bat}, (∀ y ∈ ys, mayX y = 0) → ys.length ≤ tot ys
  | [], _ => Nat.le_refl _
  | y :: ys, h => by
    have h1 := len_le_tot (ys := ys) fun z hz => h z (List.mem_cons_of_mem _ hz)
    have h2 := ((mayX_zero y).1 (h y (List.mem_cons_self ..))).1
    rw [tot_cons, List.length_cons]
    omega
theorem openR_step {f k : Nat} {D' : Dk} {last : Int} {all ys : List Bat} {gn m : Nat} (h1 : goodB (readB D' (segN (k + 1))) last = ys) (h2 : goodN (readB D' (segN (k + 1))) last = gn) (h3 : (readB D' (segN (k + 1))).length = m) :
    openR (f + 1) D' k last all = if gn < m then ⟨0, D', all ++ ys, k + 1, last + (tot ys : Int), some gn⟩ else if (syncD D' (segN (k + 1))).1 ≠ 0 then ⟨(syncD D' (segN (k + 1))).1, (syncD D' (segN (k + 1))).2, all, k + 1, last, none⟩
      else openR f (syncD D' (segN (k + 1))).2 (k + 1) (last + (tot ys : Int)) (all ++ ys) := by
  subst h1 h2 h3
  rfl
set_option maxHeartbeats 8000000 in
set_option maxRecDepth 100000 in
theorem refOpen_any {base : Nat} {w : World} {Q : Thing} {g : Nat} {D : Dk} (hp : Pair base w (RfT g D) Q) (kq : Keeps Q) (hb : base ≤ w.heap.size) (ok : DkOk D) (ht : TabB base w) :
    Calls Tryz.prog 14 #[.pointer (some ⟨g, 0, none⟩)] w fun e w' => OpenOut base g Q (openW D) e w' ∧ Below base w w' := by
  have hM := manyW_le D
  generalize hR : openW D = R
  have HR := Go.Lib.hid hR
  clear hR
  go_enter Tryz.func14, Tryz.ntmps14
  go_wp2_with fail
  refine (refMany_any hp kq hb ok ht).mono ?_
  rintro e w1 ⟨rfl, p1, B1⟩
  have hb1 := Nat.le_trans hb B1.size
  have al2 : Below w1.heap.size w1 (w1.alloc (.cells (lgV g 0 0) 44)) := (Below.refl _ _).alloc (Nat.le_refl _) _
  have p2 := pair_more (R := LgT w1.heap.size g 0 0) p1 (rfT_keeps g D) kq hb1 al2 ⟨heap_alloc_new w1 _, ⟨Nat.le_refl _, by simp⟩, fun k hk => hk.2⟩
  have B2 := B1.trans (bel_up hb1 al2)
  have hb2 := Nat.le_trans hb1 al2.size
  have al3 : Below (w1.alloc (.cells (lgV g 0 0) 44)).heap.size (w1.alloc (.cells (lgV g 0 0) 44)) ((w1.alloc (.cells (lgV g 0 0) 44)).alloc (.cells #[] 39)) := (Below.refl _ _).alloc (Nat.le_refl _) _
  have p3 := pair_more (R := BsT base (some ⟨(w1.alloc (.cells (lgV g 0 0) 44)).heap.size, 0, none⟩) 0 0 []) p2 (rfT_keeps g D) (with_keeps kq (bxT_keeps _ _ _)) hb2 al3 ((bsT_of (OwnBs.empty _ (Nat.le_refl _))).lower hb2)
  have B3 := B2.trans (bel_up hb2 al3)
  clear hp p1 p2 B1 B2 al2 al3 hb1 hb2
  generalize hmw : manyW D = M at hM
  have HMW : Hid (manyW D = M) := Go.Lib.hid hmw
  clear hmw
  go_wp2_with fail
  change Pair base ((w1.alloc (.cells #[.pointer (some ⟨g, 0, none⟩), .int .i64 0, .int .i64 0] 44)).alloc (.cells #[] 39)) (RfT g D) (With (With Q (LgT w1.heap.size g 0 0)) (BsT base (some ⟨(w1.alloc (.cells #[.pointer (some ⟨g, 0, none⟩), .int .i64 0, .int .i64 0] 44)).heap.size, 0, none⟩) 0 0 [])) at p3
  change Below base w ((w1.alloc (.cells #[.pointer (some ⟨g, 0, none⟩), .int .i64 0, .int .i64 0] 44)).alloc (.cells #[] 39)) at B3
  rw [show (w1.alloc (.cells #[.pointer (some ⟨g, 0, none⟩), .int .i64 0, .int .i64 0] 44)).heap.size = w1.heap.size + 1 from by simp only [World.alloc, Array.size_push]] at p3
  generalize w1.heap.size = gl at *
  generalize w1.alloc (.cells #[.pointer (some ⟨g, 0, none⟩), .int .i64 0, .int .i64 0] 44) = w2 at *
  generalize w2.alloc (.cells #[] 39) = w3 at *
  go_loopw [7, 8, 9, 10, 11, 12, 13, 14, 15] (fun av cv i _ _ _ _ _ _ wr => ∃ (A : Option Addr) (n c k j : Nat) (last ct : Int) (all : List Bat) (D' : Dk), av = .slice A n c ∧ cv = .int .i64 ct ∧ i = .int .i64 (j : Int) ∧ Hid (ReadAt D D' k last all ct) ∧ (ct = -1 → j = k + 1) ∧ j ≤ 201 ∧ (-1 ≤ ct ∧ ct ≤ 100000) ∧ k ≤ 200 ∧ (0 ≤ last ∧ last ≤ 1048576) ∧ (n : Int) ≤ last ∧ Hid (DkOk D') ∧ Pair base wr (RfT g D') (With (With Q (LgT gl g k last)) (BsT base A n c all)) ∧ Below base w wr) (fun _ _ i _ _ _ _ _ _ _ => 201 - (intOf i).toNat)
  case atStart => exact ⟨_, 0, 0, 0, 1, 0, -1, [], D, rfl, rfl, rfl, Go.Lib.hid (.inl ⟨rfl, Nat.zero_le _, by rw [Nat.sub_zero]⟩), fun _ => rfl, by omega, by omega, by omega, by omega, by omega, Go.Lib.hid ok, p3, B3⟩
  case round =>
    obtain ⟨A, n, c, k, j, last, ct, all, D', rfl, rfl, rfl, HRA, hjk, hj, hct, hk, hl, hn, OK, pj, Bj⟩ := hrel
    clear p3 B3
    have hbj := Nat.le_trans hb Bj.size
    go_upto_region 6 with (fail)
    go_cut [30] (fun v wx => v = .bool (decide (j ≤ M ∧ ct < 0)) ∧ wr = wx)
    case first =>
      by_cases h1 : j ≤ M
      · have i1 : (j : Int) ≤ M := by omega
        by_cases h2 : ct < 0
        · go_wp2_with fail
          go_meet
          exact ⟨by simp [h1, h2], rfl⟩
        · go_wp2_with fail
          go_meet
          exact ⟨by simp [h1, h2], rfl⟩
      · have i1 : ¬ (j : Int) ≤ M := by omega
        go_wp2_with fail
        go_meet
        exact ⟨by simp [h1], rfl⟩
    obtain ⟨rfl, rfl⟩ := hcut
    by_cases hc : j ≤ M ∧ ct < 0
    · rw [show decide (j ≤ M ∧ ct < 0) = true by simpa using hc]
      obtain ⟨hjM, hc0⟩ := hc
      obtain rfl : ct = -1 := by omega
      obtain rfl : j = k + 1 := hjk rfl
      have HO : Hid (∃ f, M - k = f + 1 ∧ M - (k + 1) = f ∧ openR (manyW D) D 0 0 [] = openR (f + 1) D' k last all) := Go.Lib.hid ⟨M - k - 1, by omega, by omega, by
        rcases HRA.out with ⟨_, _, h⟩ | ⟨z, h, _⟩
        · rw [h, HMW.out]; congr 1; omega
        · omega⟩
      clear HRA
      have tj := (ht.on Bj).here
      have hs := refSeg_any ((k : Int) + 1) wr tj
      have e1 : segZ ((k : Int) + 1) = segN (k + 1) := by unfold segZ; congr 1
      rw [e1] at hs
      have HS := Go.Lib.hid hs
      clear hs e1 tj
      go_wp2_with fail
      refine (HS.out).mono ?_
      rintro e w4 ⟨rfl, b4⟩
      have kk : Keeps (With (With Q (LgT gl g k last)) (BsT base A n c all)) := with_keeps (with_keeps kq (bxT_keeps _ _ _)) (bsT_keeps _ _ _ _ _)
      have p4 := pj.below (rfT_keeps g D') kk b4
      have B4 := Bj.trans (bel_up hbj b4)
      have hb4 := Nat.le_trans hbj b4.size
      clear pj Bj b4 HS
      go_wp2_with fail
      refine (rw_read p4 kk OK.out (segN (k + 1))).mono ?_
      rintro e w5 ⟨C, m, cc, rfl, r5, p5, b5⟩
      have B5 := B4.trans (bel_up hb4 b5)
      have hb5 := Nat.le_trans hb4 b5.size
      clear p4 B4 b5 hb4
      obtain ⟨l0, l1, l2, f1, f2⟩ := lg_cells (pair_first p5)
      have hm5 := r5.len
      have hm6 := readB_le OK.out (segN (k + 1))
      go_wp2_with fail
      refine (refGood_any C m cc (readB D' (segN (k + 1))) last w5 r5 (by omega) hl).mono ?_
      rintro e w6 ⟨Y, y, cy, rfl, o6, b6, hsum⟩
      have p6 := pair_two p5 (rfT_keeps g D') (with_keeps kq (bxT_keeps _ _ _)) hb5 hb5 b6 o6
      have B6 := B5.trans (bel_up hb5 b6)
      have hb6 := Nat.le_trans hb5 b6.size
      have hly := o6.len
      have hgl := good_le (readB D' (segN (k + 1))) last
      have hty := len_le_tot fun z hz => ((goodB_chained (readB D' (segN (k + 1))) last).all z hz).1
      replace HO : Hid (∃ f, M - k = f + 1 ∧ M - (k + 1) = f ∧ openR (manyW D) D 0 0 [] = if goodN (readB D' (segN (k + 1))) last < m then ⟨0, D', all ++ goodB (readB D' (segN (k + 1))) last, k + 1, last + (tot (goodB (readB D' (segN (k + 1))) last) : Int), some (goodN (readB D' (segN (k + 1))) last)⟩ else if (syncD D' (segN (k + 1))).1 ≠ 0 then ⟨(syncD D' (segN (k + 1))).1, (syncD D' (segN (k + 1))).2, all, k + 1, last, none⟩
      else openR f (syncD D' (segN (k + 1))).2 (k + 1) (last + (tot (goodB (readB D' (segN (k + 1))) last) : Int)) (all ++ goodB (readB D' (segN (k + 1))) last)) := Go.Lib.hid (by
        obtain ⟨f, h1, h2, h3⟩ := HO.out
        exact ⟨f, h1, h2, by rw [h3, openR_step rfl rfl hm5]⟩)
      rw [hm5] at hgl hm6
      generalize goodB (readB D' (segN (k + 1))) last = ys at *
      generalize goodN (readB D' (segN (k + 1))) last = gn at *
      generalize readB D' (segN (k + 1)) = bs at *
      clear o6 p5 B5 b6 l0 l1 l2 f1 f2 hb5 kk hm5 r5
      rw [hly] at hty
      have HLY := Go.Lib.hid hly
      clear hly
      go_wp2_with fail
      go_loopw [7, 14] (fun av i wr2 => ∃ (A2 : Option Addr) (c2 q : Nat), q ≤ y ∧ av = .slice A2 (n + q) c2 ∧ i = .int .i64 (q : Int) ∧ Pair base wr2 (RfT g D') (With (With Q (LgT gl g k (last + (tot (ys.take q) : Int)))) (TwoT base A2 (n + q) c2 (all ++ ys.take q) Y y cy ys)) ∧ Below base w wr2) (fun _ i _ => y - (intOf i).toNat)
      case atStart => exact ⟨A, c, 0, Nat.zero_le _, rfl, rfl, by (have e1 : last + ((tot (ys.take 0) : Nat) : Int) = last := by simp [tot]); rw [e1, List.take_zero, List.append_nil]; exact p6, B6⟩
      case round =>
        obtain ⟨A2, c2, q, hq, rfl, rfl, p7, B7⟩ := hrel
        clear p6 B6
        have hb7 := Nat.le_trans hb B7.size
        by_cases hqy : q < y
        · have i1 : (q : Int) < y := by omega
          have hk7 : Keeps (With Q (LgT gl g k (last + (tot (ys.take q) : Int)))) := with_keeps kq (bxT_keeps _ _ _)
          obtain ⟨cs, E, je, ce, oA, hl7, oE, ⟨b, o, rfl, hbl, c0, c1⟩, _⟩ := pair_grow p7 (rfT_keeps g D') hk7 hb7 hqy
          have hje := oE.len
          rw [← Nat.add_assoc] at c1
          obtain ⟨l0, l1, l2, f1, f2⟩ := lg_cells (pair_first p7)
          have tq : tot (ys.take (q + 1)) = tot (ys.take q) + je := by
            rw [bat_take ys q (by rw [HLY.out]; exact hqy), tot_append, tot_cons, tot_nil, hje]
            rfl
          have tq2 := tot_take_le ys (q + 1)
          have wz : IntKind.i64.wrap (last + (tot (ys.take q) : Int) + (je : Int)) = last + (tot (ys.take q) : Int) + (je : Int) := IntWalk.i64_in _ (by omega)
          have hcap := oA.rd.2.2.1
          obtain ⟨p8, b8⟩ := lg_set2 (rfT_keeps g D') (with_keeps kq (twoT_keeps _ _ _ _ _ _ _ _ _)) (pair_place p7) (last + (tot (ys.take q) : Int) + (je : Int))
          have hb8 := Nat.le_trans hb7 b8.size
          have bd9 := bel_drew (Below.refl (wr.setCell ⟨gl, 2, none⟩ (.int .i64 (last + (tot (ys.take q) : Int) + (je : Int)))).heap.size (wr.setCell ⟨gl, 2, none⟩ (.int .i64 (last + (tot (ys.take q) : Int) + (je : Int)))))
          have p9 := Go.Lib.hid ((pair_place p8).below (rfT_keeps g D') (with_keeps (with_keeps kq (bxT_keeps _ _ _)) (twoT_keeps _ _ _ _ _ _ _ _ _)) bd9)
          have B9 := Go.Lib.hid ((B7.trans b8).trans (bel_up hb8 bd9))
          have HTQ : Hid (last + (tot (ys.take q) : Int) + (je : Int) = last + ((tot (ys.take (q + 1)) : Nat) : Int)) := Go.Lib.hid (by omega)
          clear p7 p8 b8 bd9 B7 oA oE hb8 tq tq2 hk7
          go_upto_region 13 with (fail)
          go_region_with (fail)
          all_goals
            generalize (wr.setCell ⟨gl, 2, none⟩ (.int .i64 (last + (tot (ys.take q) : Int) + (je : Int)))).drew = w8 at *
            rw [HTQ.out] at p9
            clear c0 c1 l0 l1 l2 f1 f2 wz hje HTQ hl7
            have hb9 := Nat.le_trans hb B9.out.size
            have hk9 : Keeps (With Q (LgT gl g k (last + (tot (ys.take (q + 1)) : Int)))) := with_keeps kq (bxT_keeps _ _ _)
            obtain ⟨cs1, E1, j1, e1, oA1, hl1, oE1, ⟨b1, o1, hB1, hbl1, c0, c1⟩, _⟩ := pair_grow p9.out (rfT_keeps g D') hk9 hb9 hqy
            injection hB1 with hB1
            injection hB1 with hB1 hB2
            subst hB1 hB2
            have al := batch_bel w8 (.int .i64 (ys.getD q noBat).a) (.slice E1 j1 e1)
            have p10 := p9.out.below (rfT_keeps g D') (with_keeps hk9 (twoT_keeps _ _ _ _ _ _ _ _ _)) al
            have B10 := Go.Lib.hid (B9.out.trans (bel_up hb9 al))
            have hb10 := Nat.le_trans hb9 al.size
            obtain ⟨cs3, E3, j3, e3, oA3, hl3, _, ⟨b3, o3, hB3, _, _, c13⟩, grow⟩ := pair_grow p10 (rfT_keeps g D') hk9 hb10 hqy
            injection hB3 with hB3
            injection hB3 with hB3 hB4
            subst hB3 hB4
            have hcc := (bcell al c1).symm.trans c13
            injection hcc with hcc
            injection hcc with q1 q2 q3
            subst q1 q2 q3
            rw [← Nat.add_assoc] at c1
            have GROW := Go.Lib.hid grow
            have d5 : RdC 2 (w8.alloc (.cells #[.int .i64 (ys.getD q noBat).a, .slice E1 j1 e1] 39)) (some ⟨w8.heap.size, 0, none⟩) 1 1 [.int .i64 (ys.getD q noBat).a, .slice E1 j1 e1] := RdC.new w8 39 [.int .i64 (ys.getD q noBat).a, .slice E1 j1 e1] rfl (by decide)
            have h63 : n + q + 1 ≤ maxLen := by unfold maxLen; omega
            have hsz : (n + q + 1) * 32 ≤ 140737488355328 := by omega
            clear grow p9 p10 B9 oA1 oE1 c13 hcap al hl1 hk9
            go_wp2_with (at_builtin; refine wpList_append_cells rfl (.tmp 69) (.tmp 74) 30 rfl 39 (.agg #[.int .i64 0, .slice none 0 0]) 32 Tryz.underlying30 batch_info rfl (by decide) rfl rfl oA3 d5 (bat_one (ys.getD q noBat) _ _ _) h63 hsz hb10 ?_; intro A8 c8 w9 o8 g8 hA8)
            obtain ⟨p11, b11⟩ := GROW.out A8 c8 w9 o8 g8 hA8
            have B11 := B10.out.trans b11
            have htk := bat_take ys q (by rw [HLY.out]; exact hqy)
            refine ⟨⟨A8, c8, q + 1, hqy, rfl, by go_num, ?_, B11⟩, by simp [intOf]; omega⟩
            rw [htk, ← List.append_assoc, ← htk]
            exact p11
        · obtain rfl : y = q := by omega
          have hty2 := List.take_of_length_le (l := ys) (i := y) (by rw [HLY.out]; exact Nat.le_refl _)
          rw [hty2] at p7
          clear hty2 hqy
          obtain ⟨l0, l1, l2, f1, f2⟩ := lg_cells (pair_first p7)
          obtain ⟨p8, b8⟩ := lg_set1 (rfT_keeps g D') (with_keeps kq (bsT_keeps _ _ _ _ _)) (pair_place (pair_one p7)) (k + 1)
          have p9 := pair_place p8
          have B9 := B7.trans b8
          have hb9 := Nat.le_trans hb7 b8.size
          have wi : ((k + 1 : Nat) : Int) = (k : Int) + 1 := by omega
          rw [wi] at p9 B9 hb9
          clear p7 p8 b8 B7 hb7 wi
          go_upto_region 15 with (fail)
          go_upto_region 16 with (fail)
          generalize wr.setCell ⟨gl, 1, none⟩ (.int .i64 ((k : Int) + 1)) = w7 at *
          clear l0 l1 l2 f1 f2
          have hn2 : ((n + y : Nat) : Int) ≤ last + (tot ys : Int) := by omega
          have hl2 : 0 ≤ last + (tot ys : Int) ∧ last + (tot ys : Int) ≤ 1048576 := by omega
          by_cases hgm : gn < m
          · have j1 : (gn : Int) < m := by omega
            have hra : Hid (ReadAt D D' (k + 1) (last + (tot ys : Int)) (all ++ ys) gn) := Go.Lib.hid (by
              obtain ⟨f, _, _, h⟩ := HO.out
              rw [if_pos hgm] at h
              exact .inr ⟨gn, rfl, h⟩)
            clear HO hgm
            go_wp2_with fail
            go_roundw
            case rel => exact ⟨A2, n + y, c2, k + 1, k + 1 + 1, _, gn, _, D', rfl, rfl, by go_num, hra, by omega, by omega, by omega, by omega, hl2, hn2, OK, p9, B9⟩
            case measure => simp [intOf]; omega
          · have j1 : ¬ (gn : Int) < m := by omega
            replace HO : Hid (∃ f, M - k = f + 1 ∧ M - (k + 1) = f ∧ openR (manyW D) D 0 0 [] = if (syncD D' (segN (k + 1))).1 ≠ 0 then ⟨(syncD D' (segN (k + 1))).1, (syncD D' (segN (k + 1))).2, all, k + 1, last, none⟩
      else openR f (syncD D' (segN (k + 1))).2 (k + 1) (last + (tot ys : Int)) (all ++ ys)) := Go.Lib.hid (by
              obtain ⟨f, h1, h2, h⟩ := HO.out
              rw [if_neg hgm] at h
              exact ⟨f, h1, h2, h⟩)
            clear hgm
            have t7 := (ht.on B9).here
            have hs := refSeg_any ((k : Int) + 1) w7 t7
            have e1 : segZ ((k : Int) + 1) = segN (k + 1) := by unfold segZ; congr 1
            rw [e1] at hs
            have HS := Go.Lib.hid hs
            clear hs e1 t7
            go_wp2_with fail
            refine (HS.out).mono ?_
            rintro e w10 ⟨rfl, b10⟩
            have k9 : Keeps (With (With Q (LgT gl g (k + 1) (last + (tot ys : Int)))) (BsT base A2 (n + y) c2 (all ++ ys))) := with_keeps (with_keeps kq (bxT_keeps _ _ _)) (bsT_keeps _ _ _ _ _)
            have p10 := p9.below (rfT_keeps g D') k9 b10
            have B10 := B9.trans (bel_up hb9 b10)
            have hb10 := Nat.le_trans hb9 b10.size
            have okS := sync_ok OK.out (segN (k + 1))
            clear p9 B9 b10 hb9 HS
            go_wp2_with fail
            refine (rf_sync p10 k9 hb10 OK.out (segN (k + 1))).mono ?_
            generalize syncD D' (segN (k + 1)) = S at *
            rintro e w11 ⟨rfl, p11, b11⟩
            have B11 := B10.trans b11
            obtain ⟨S1, DS⟩ := S
            have p12 : Pair base w11 (RfT g DS) (With (With Q (LgT gl g (k + 1) (last + (tot ys : Int)))) (BsT base A2 (n + y) c2 (all ++ ys))) := p11
            have okS2 : Hid (DkOk DS) := Go.Lib.hid okS
            clear p10 p11 B10 b11 hb10 okS
            by_cases hS : S1 = 0
            · subst hS
              have hra : Hid (ReadAt D DS (k + 1) (last + (tot ys : Int)) (all ++ ys) (-1)) := Go.Lib.hid (by
                obtain ⟨f, h1, h2, h⟩ := HO.out
                rw [if_neg (by simp)] at h
                exact .inl ⟨rfl, by rw [HMW.out]; exact hjM, by rw [h, HMW.out, h2]⟩)
              clear HO
              go_wp2_with fail
              go_roundw
              case rel => exact ⟨A2, n + y, c2, k + 1, k + 1 + 1, _, -1, _, DS, rfl, rfl, by go_num, hra, fun _ => rfl, by omega, by omega, by omega, hl2, hn2, okS2, p12, B11⟩
              case measure => simp [intOf]; omega
            · have hw : R.1 = S1 ∧ R.2.1 = DS := by
                obtain ⟨f, h1, h2, h⟩ := HO.out
                rw [if_pos hS] at h
                rw [← HR.out]
                unfold openW
                rw [h]
                simp only [ne_eq, hS, not_false_eq_true, if_true]
                exact ⟨trivial, trivial⟩
              have j2 : (S1 != 0) = true := by rw [bne_iff_ne]; exact hS
              have HW := Go.Lib.hid hw
              have HS := Go.Lib.hid hS
              clear HO hw hS
              go_wp2_with fail
              go_ret3
              exact ⟨.inr ⟨by rw [HW.out.1]; exact HS.out, by rw [HW.out.1]; rfl, by rw [HW.out.2]; exact pair_first (pair_first p12)⟩, B11⟩
    · rw [show decide (j ≤ M ∧ ct < 0) = false by simpa using hc]
      by_cases hct0 : ct < 0
      · obtain rfl : ct = -1 := by omega
        have hw : R = (0, D', ⟨0, D', all, k, last, none⟩) := by
          rcases HRA.out with ⟨_, h1, h⟩ | ⟨z, h, _⟩
          · rw [HMW.out] at h1 h
            have hkM : M - k = 0 := by have := hjk rfl; omega
            rw [hkM] at h
            rw [← HR.out]
            unfold openW
            rw [HMW.out, h]
            rfl
          · omega
        subst hw
        clear HR HRA hc
        go_wp2_with fail
        go_ret3
        exact ⟨.inl ⟨rfl, gl, A, n, c, rfl, pj⟩, Bj⟩
      · obtain ⟨z, rfl, hz⟩ : ∃ z : Nat, ct = z ∧ openR (manyW D) D 0 0 [] = ⟨0, D', all, k, last, some z⟩ := by
          rcases HRA.out with ⟨h, _⟩ | h
          · omega
          · exact h
        have hw : Hid (R = ((cutW D' M k z).1, (cutW D' M k z).2, ⟨0, D', all, k, last, some z⟩)) := Go.Lib.hid (by
          rw [← HR.out]
          unfold openW
          rw [hz, HMW.out]
          rfl)
        clear HR HRA hc hz
        have kk : Keeps (With (With Q (LgT gl g k last)) (BsT base A n c all)) := with_keeps (with_keeps kq (bxT_keeps _ _ _)) (bsT_keeps _ _ _ _ _)
        go_wp2_with fail
        go_loopw [16, 17] (fun ev iv wr2 => ∃ (r : Nat) (e : Int) (Dr : Dk), ev = .int .i64 e ∧ iv = .int .i64 (r : Int) ∧ r ≤ M ∧ Hid ((e = 0 ∧ removeW (M - k) D' M = removeW (r - k) Dr r) ∨ (e ≠ 0 ∧ removeW (M - k) D' M = (e, Dr))) ∧ Hid (DkOk Dr) ∧ Pair base wr2 (RfT g Dr) (With (With Q (LgT gl g k last)) (BsT base A n c all)) ∧ Below base w wr2) (fun _ iv _ => (intOf iv).toNat)
        case atStart => exact ⟨M, 0, D', rfl, rfl, Nat.le_refl _, Go.Lib.hid (.inl ⟨rfl, rfl⟩), OK, pj, Bj⟩
        case round =>
          obtain ⟨r, e, Dr, rfl, rfl, hrM, HRM, OKr, pr, Br⟩ := hrel
          clear pj Bj OK hbj
          have hbr := Nat.le_trans hb Br.size
          obtain ⟨l0, l1, l2, f1, f2⟩ := lg_cells (pair_first pr)
          go_upto_region 25 with (fail)
          go_cut [106] (fun v wx => v = .bool (decide (k < r ∧ e = 0)) ∧ wr = wx)
          case first =>
            by_cases h1 : k < r
            · have i1 : (k : Int) < r := by omega
              by_cases h2 : e = 0
              · subst h2
                go_wp2_with fail
                go_meet
                exact ⟨by simp [h1], rfl⟩
              · have i2 : (e == 0) = false := by rw [beq_eq_false_iff_ne]; exact h2
                go_wp2_with fail
                go_meet
                exact ⟨by simp [h1, h2], rfl⟩
            · have i1 : ¬ (k : Int) < r := by omega
              go_wp2_with fail
              go_meet
              exact ⟨by simp [h1], rfl⟩
          obtain ⟨rfl, rfl⟩ := hcut
          clear l0 f1 f2 l2
          by_cases hc : k < r ∧ e = 0
          · rw [show decide (k < r ∧ e = 0) = true by simpa using hc]
            obtain ⟨hkr, rfl⟩ := hc
            obtain ⟨f, hf⟩ : ∃ f, r - k = f + 1 := ⟨r - k - 1, by omega⟩
            have HO : Hid (r - 1 - k = f ∧ removeW (M - k) D' M = if (removeD Dr (segN r)).1 ≠ 0 then removeD Dr (segN r) else removeW f (removeD Dr (segN r)).2 (r - 1)) := Go.Lib.hid ⟨by omega, by
              rcases HRM.out with ⟨_, h⟩ | ⟨h, _⟩
              · rw [h, hf]; rfl
              · exact absurd rfl h⟩
            clear HRM hf
            have HS := Go.Lib.hid (refSeg_any (r : Int) wr (ht.on Br).here)
            go_wp2_with fail
            refine (HS.out).mono ?_
            rintro e w10 ⟨rfl, b10⟩
            rw [segZ_nat]
            have p10 := pr.below (rfT_keeps g Dr) kk b10
            have B10 := Br.trans (bel_up hbr b10)
            have hb10 := Nat.le_trans hbr b10.size
            have okS := remove_ok OKr.out (segN r)
            clear pr Br b10 hbr HS
            go_wp2_with fail
            refine (rf_remove p10 kk hb10 OKr.out (segN r)).mono ?_
            generalize removeD Dr (segN r) = S at *
            rintro e w11 ⟨rfl, p11, b11⟩
            have B11 := B10.trans b11
            have okS2 : Hid (DkOk S.2) := Go.Lib.hid okS
            have wz : ((r - 1 : Nat) : Int) = (r : Int) - 1 := by omega
            have WZ := Go.Lib.hid wz
            have HRN : Hid ((S.1 = 0 ∧ removeW (M - k) D' M = removeW (r - 1 - k) S.2 (r - 1)) ∨ (S.1 ≠ 0 ∧ removeW (M - k) D' M = (S.1, S.2))) := Go.Lib.hid (by
              obtain ⟨h1, h2⟩ := HO.out
              by_cases hS : S.1 = 0
              · rw [if_neg (by simpa using hS)] at h2
                exact .inl ⟨hS, by rw [h2, h1]⟩
              · rw [if_pos hS] at h2
                exact .inr ⟨hS, h2⟩)
            clear p10 B10 b11 hb10 okS HO wz
            go_wp2_with fail
            go_roundw
            case rel => exact ⟨r - 1, S.1, S.2, rfl, by rw [WZ.out], by omega, HRN, okS2, p11, B11⟩
            case measure => simp [intOf]; omega
          · rw [show decide (k < r ∧ e = 0) = false by simpa using hc]
            have hX : removeW (M - k) D' M = (e, Dr) := by
              rcases HRM.out with ⟨h1, h⟩ | ⟨_, h⟩
              · have : r - k = 0 := by omega
                rw [h, this, h1]
                rfl
              · exact h
            replace hw : Hid (R = ((if e ≠ 0 then (e, Dr) else if (truncD Dr (segN k) (z : Int)).1 ≠ 0 then truncD Dr (segN k) (z : Int) else syncD (truncD Dr (segN k) (z : Int)).2 (segN k)).1, (if e ≠ 0 then (e, Dr) else if (truncD Dr (segN k) (z : Int)).1 ≠ 0 then truncD Dr (segN k) (z : Int) else syncD (truncD Dr (segN k) (z : Int)).2 (segN k)).2, ⟨0, D', all, k, last, some z⟩)) := Go.Lib.hid (by
              rw [hw.out]
              unfold cutW
              rw [hX])
            clear HRM hX hc
            by_cases he : e = 0
            case neg =>
              have i2 : (e == 0) = false := by rw [beq_eq_false_iff_ne]; exact he
              have i3 : (e != 0) = true := by rw [bne_iff_ne]; exact he
              obtain rfl : R = (e, Dr, ⟨0, D', all, k, last, some z⟩) := by rw [hw.out, if_pos he]
              have HE := Go.Lib.hid he
              clear hw he
              go_wp2_with fail
              go_ret3
              exact ⟨.inr ⟨HE.out, rfl, pair_first (pair_first pr)⟩, Br⟩
            subst he
            replace hw : Hid (R = ((if (truncD Dr (segN k) (z : Int)).1 ≠ 0 then truncD Dr (segN k) (z : Int) else syncD (truncD Dr (segN k) (z : Int)).2 (segN k)).1, (if (truncD Dr (segN k) (z : Int)).1 ≠ 0 then truncD Dr (segN k) (z : Int) else syncD (truncD Dr (segN k) (z : Int)).2 (segN k)).2, ⟨0, D', all, k, last, some z⟩)) := Go.Lib.hid (by
              have h := hw.out
              rw [if_neg (by simp)] at h
              exact h)
            have HS := Go.Lib.hid (refSeg_any (k : Int) wr (ht.on Br).here)
            go_wp2_with fail
            refine (HS.out).mono ?_
            rintro e w10 ⟨rfl, b10⟩
            rw [segZ_nat]
            have p10 := pr.below (rfT_keeps g Dr) kk b10
            have B10 := Br.trans (bel_up hbr b10)
            have hb10 := Nat.le_trans hbr b10.size
            have okS := trunc_ok OKr.out (segN k) (z : Int)
            clear pr Br b10 hbr HS l1
            go_wp2_with fail
            refine (rf_trunc p10 kk hb10 OKr.out (segN k) (z : Int)).mono ?_
            generalize truncD Dr (segN k) (z : Int) = S at *
            rintro e w11 ⟨rfl, p11, b11⟩
            have B11 := B10.trans b11
            have hb11 := Nat.le_trans hb10 b11.size
            obtain ⟨S1, DS⟩ := S
            have okS2 : DkOk DS := okS
            have p12 : Pair base w11 (RfT g DS) (With (With Q (LgT gl g k last)) (BsT base A n c all)) := p11
            clear p10 B10 b11 hb10 okS p11
            by_cases hS1 : S1 = 0
            case neg =>
              have i2 : (S1 == 0) = false := by rw [beq_eq_false_iff_ne]; exact hS1
              have i3 : (S1 != 0) = true := by rw [bne_iff_ne]; exact hS1
              obtain rfl : R = (S1, DS, ⟨0, D', all, k, last, some z⟩) := by rw [hw.out, if_pos hS1]
              have HE := Go.Lib.hid hS1
              clear hw hS1
              go_wp2_with fail
              go_ret3
              exact ⟨.inr ⟨HE.out, rfl, pair_first (pair_first p12)⟩, B11⟩
            subst hS1
            replace hw : Hid (R = ((syncD DS (segN k)).1, (syncD DS (segN k)).2, ⟨0, D', all, k, last, some z⟩)) := Go.Lib.hid (by
              have h := hw.out
              rw [if_neg (by simp)] at h
              exact h)
            obtain ⟨l0, l1, l2, f1, f2⟩ := lg_cells (pair_first p12)
            clear l0 l2 f1 f2
            have HS := Go.Lib.hid (refSeg_any (k : Int) w11 (ht.on B11).here)
            go_wp2_with fail
            refine (HS.out).mono ?_
            rintro e w13 ⟨rfl, b13⟩
            rw [segZ_nat]
            have p13 := p12.below (rfT_keeps g DS) kk b13
            have B13 := B11.trans (bel_up hb11 b13)
            have hb13 := Nat.le_trans hb11 b13.size
            clear p12 B11 b13 hb11 HS l1
            go_wp2_with fail
            refine (rf_sync p13 kk hb13 okS2 (segN k)).mono ?_
            generalize syncD DS (segN k) = T at *
            rintro e w14 ⟨rfl, p14, b14⟩
            have B14 := B13.trans b14
            obtain ⟨T1, DT⟩ := T
            have p15 : Pair base w14 (RfT g DT) (With (With Q (LgT gl g k last)) (BsT base A n c all)) := p14
            clear p13 B13 b14 hb13 p14
            by_cases hT1 : T1 = 0
            · subst hT1
              obtain rfl : R = (0, DT, ⟨0, D', all, k, last, some z⟩) := hw.out
              clear hw
              go_wp2_with fail
              go_ret3
              exact ⟨.inl ⟨rfl, gl, A, n, c, rfl, p15⟩, B14⟩
            · have i3 : (T1 != 0) = true := by rw [bne_iff_ne]; exact hT1
              obtain rfl : R = (T1, DT, ⟨0, D', all, k, last, some z⟩) := hw.out
              have HE := Go.Lib.hid hT1
              clear hw hT1
              go_wp2_with fail
              go_ret3
              exact ⟨.inr ⟨HE.out, rfl, pair_first (pair_first p15)⟩, B14⟩
end Go.Proofs.YtppidbdkejkopaaGreatDoor.WlWalk
namespace Go.Proofs.YtppidbdkejkopaaGreatDoor.WlWalk
open Go.RowKit MemRow Ev NameMath NameWalk EvWalk NumMem DkWalk
def cutL (D : Dk) (n : Nat) (z : Int) : Int × Dk :=
  if (removeW (manyW D - n) D (manyW D)).1 ≠ 0 then removeW (manyW D - n) D (manyW D) else truncD (removeW (manyW D - n) D (manyW D)).2 (segN n) z
def mostAt (n k : Nat) : Int := if k = 0 then (n : Int) else (k : Int)
abbrev CutQ (Q : Thing) (g bs bm : Nat) (v : Int) : Thing := With (With Q (BxT bs #[.pointer (some ⟨g, 0, none⟩)] 24)) (BxT bm #[.int .i64 v] 3)
theorem cutQ_keeps {Q : Thing} (kq : Keeps Q) (g bs bm : Nat) (v : Int) : Keeps (CutQ Q g bs bm v) := with_keeps (with_keeps kq (bxT_keeps _ _ _)) (bxT_keeps _ _ _)
structure CutJ (base : Nat) (w : World) (D : Dk) (g n bs bm r : Nat) (Q : Thing) (o : Obj) (k : Nat) (W : World) : Prop where
  hk : k ≤ 200
  hm : manyW D = manyF D (200 - k) k
  pr : Pair base W (LdT g D) (With (CutQ Q g bs bm (mostAt n k)) (RecT r o))
  bl : Below base w W
structure CutB (base : Nat) (w : World) (D : Dk) (g n bs bm r : Nat) (Q : Thing) (o : Obj) (k : Nat) (x : YdX) (W : World) : Prop where
  hk : k + 1 ≤ 200
  hm : manyW D = manyF D (200 - (k + 1)) (k + 1)
  hx : x.i = (k : Int) + 1
  pr : Pair base W (LdT g D) (With (With (CutQ Q g bs bm (mostAt n k)) (RecT r o)) (SlT x.B x.n x.c (readB D (segN (k + 1)))))
  bl : Below base w W
structure CutD (base : Nat) (w : World) (D : Dk) (g n bs bm r : Nat) (Q : Thing) (o : Obj) (W : World) : Prop where
  pr : Pair base W (LdT g D) (With (CutQ Q g bs bm (mostAt n (manyW D))) (RecT r o))
  bl : Below base w W
section
variable {base : Nat} {w W : World} {D : Dk} {g n bs bm r k : Nat} {Q : Thing} {o : Obj} {x : YdX}
theorem CutJ.put (kq : Keeps Q) (h : CutJ base w D g n bs bm r Q o k W) (o' : Obj) : CutJ base w D g n bs bm r Q o' k (W.putObj (r + 1) o') := by
  obtain ⟨p, b⟩ := rec_put (ldT_keeps g D) (cutQ_keeps kq g bs bm _) h.pr o'
  exact ⟨h.hk, h.hm, p, h.bl.trans b⟩
theorem CutD.put (kq : Keeps Q) (h : CutD base w D g n bs bm r Q o W) (o' : Obj) : CutD base w D g n bs bm r Q o' (W.putObj (r + 1) o') := by
  obtain ⟨p, b⟩ := rec_put (ldT_keeps g D) (cutQ_keeps kq g bs bm _) h.pr o'
  exact ⟨p, h.bl.trans b⟩
theorem CutB.put (kq : Keeps Q) (h : CutB base w D g n bs bm r Q o k x W) (o' : Obj) : CutB base w D g n bs bm r Q o' k x (W.putObj (r + 1) o') := by
  obtain ⟨p, b⟩ := rec_put (ldT_keeps g D) (with_keeps (cutQ_keeps kq g bs bm _) (slT_keeps _ _ _ _)) (pair_place h.pr) o'
  exact ⟨h.hk, h.hm, h.hx, pair_place p, h.bl.trans b⟩
theorem CutJ.seg (kq : Keeps Q) (hb : base ≤ w.heap.size) (go : DkGo D) (ht : TabB base w) (h : CutJ base w D g n bs bm r Q o k W) : SegAt base g bs D (With (CutQ Q g bs bm (mostAt n k)) (RecT r o)) W := by
  obtain ⟨c, _, l⟩ := bx_cell (pair_first (pair_first h.pr))
  exact ⟨Nat.le_trans hb h.bl.size, ht.on h.bl, c, l, h.pr, with_keeps (cutQ_keeps kq g bs bm _) (recT_keeps _ _), go⟩
theorem CutJ.yes (h : CutJ base w D g n bs bm r Q o k W) (hb : base ≤ W.heap.size) (hk : k < 200) (hr : readC D (segN (k + 1)) = 0) {W' : World} {B : Option Addr} {m c : Nat} (b : Below W.heap.size W W') (hp : Pair base W' (LdT g D) (With (With (CutQ Q g bs bm (mostAt n k)) (RecT r o)) (SlT B m c (readB D (segN (k + 1)))))) : CutB base w D g n bs bm r Q o k ⟨(k : Int) + 1, B, m, c⟩ W' := by
  have hm := h.hm
  obtain ⟨f, hf⟩ : ∃ f, 200 - k = f + 1 := ⟨200 - k - 1, by omega⟩
  rw [hf, manyF_step, if_pos hr] at hm
  have e : 200 - (k + 1) = f := by omega
  exact ⟨hk, by rw [e]; exact hm, rfl, hp, h.bl.trans (bel_up hb b)⟩
theorem CutJ.no (kq : Keeps Q) (h : CutJ base w D g n bs bm r Q o k W) (hb : base ≤ W.heap.size) (hk : k < 200) (hr : readC D (segN (k + 1)) ≠ 0) {W' : World} (b : Below W.heap.size W W') : CutD base w D g n bs bm r Q o W' := by
  have hm := h.hm
  obtain ⟨f, hf⟩ : ∃ f, 200 - k = f + 1 := ⟨200 - k - 1, by omega⟩
  rw [hf, manyF_step, if_neg hr] at hm
  refine ⟨?_, h.bl.trans (bel_up hb b)⟩
  rw [hm]
  exact h.pr.below (ldT_keeps g D) (with_keeps (cutQ_keeps kq g bs bm _) (recT_keeps _ _)) b
theorem CutJ.all (h : CutJ base w D g n bs bm r Q o 200 W) : CutD base w D g n bs bm r Q o W := by
  have hm : manyW D = 200 := h.hm
  exact ⟨by rw [hm]; exact h.pr, h.bl⟩
end
theorem cut_seq {base : Nat} {w : World} {D : Dk} {g n bs bm r : Nat} {Q : Thing} (kq : Keeps Q) (hb : base ≤ w.heap.size) (go : DkGo D) (ht : TabB base w) (m : Nat) (o : Obj) (X : World → Prop) (W : World) (h0 : CutJ base w D g n bs bm r Q o 0 W)
    (hY : ∀ k x W1, CutB base w D g n bs bm r Q o k x W1 → YieldAt Fence.wide (m - 1) Tryz.prog (r + 1) (encY x) W1 fun e W' => (e = .returned (.bool true) ∧ CutJ base w D g n bs bm r Q o (k + 1) W') ∨ (e = .returned (.bool false) ∧ X W')) :
    CallsIn Fence.wide m Tryz.prog 67 (#[.func (.yield (r + 1)) #[] #[]] ++ #[.pointer (some ⟨bs, 0, none⟩)]) W fun e W' => (∃ v, e = .returned v) ∧ (CutD base w D g n bs bm r Q o W' ∨ X W') :=
  segIter_any (base := base) (g := g) (fun k W => CutJ base w D g n bs bm r Q o k W) (CutD base w D g n bs bm r Q o) X W
    (fun k _ h hk => ⟨D, _, h.seg kq hb go ht, fun hr _ B m c b p => hY k ⟨(k : Int) + 1, B, m, c⟩ _ (h.yes (Nat.le_trans hb h.bl.size) hk hr b p), fun hr _ b => h.no kq (Nat.le_trans hb h.bl.size) hk hr b⟩) (fun _ h => h.all) h0
attribute [local go_sem] Oper.semAt_some
set_option maxHeartbeats 8000000 in
set_option maxRecDepth 100000 in
theorem cutLd_any {base : Nat} {w : World} {Q : Thing} {g n : Nat} {z : Int} {D : Dk} (hp : Pair base w (LdT g D) Q) (kq : Keeps Q) (hb : base ≤ w.heap.size) (go : DkGo D) (ht : TabB base w) (hn : 1 ≤ n ∧ n ≤ manyW D) :
    Calls Tryz.prog 38 #[.pointer (some ⟨g, 0, none⟩), .int .i64 (n : Int), .int .i64 z] w fun e w' => e = .returned (.int .i64 (cutL D n z).1) ∧ Pair base w' (LdT g (cutL D n z).2) Q ∧ Below base w w' := by
  refine (callsIn_wide (n := 6)).1 ?_
  refine callsIn_of_wp_marks Tryz.func38 rfl trivial ?_ rfl
  simp only [Tryz.ntmps38, List.size_toArray, List.length_cons, List.length_nil, Nat.reduceAdd, Nat.reduceSub, Array.replicate_succ, Array.replicate_zero, List.push_toArray, List.append_toArray, List.nil_append, List.cons_append]
  obtain ⟨p1, b1⟩ := bx_new (ldT_keeps g D) kq hb hp #[.int .i64 (n : Int)] 3
  have hb1 := Nat.le_trans hb b1.size
  have k1 : Keeps (With Q (BxT w.heap.size #[.int .i64 (n : Int)] 3)) := with_keeps kq (bxT_keeps _ _ _)
  gi_wp2_with fail
  refine ⟨trivial, (callsIn_wide.2 (segs_any g _)).mono ?_⟩
  rintro e w2 ⟨rfl, hw2⟩
  obtain ⟨p2, b2⟩ := bx_new (ldT_keeps g D) k1 hb1 p1 #[.pointer (some ⟨g, 0, none⟩)] 24
  have B2 := (bel_up hb b1).trans (bel_up hb1 b2)
  rw [← hw2] at p2 B2
  have hb2 : base ≤ w2.heap.size := Nat.le_trans hb B2.size
  clear hw2 b1 b2 p1 hp hb1
  generalize hbs : (w.alloc (.cells #[.int .i64 (n : Int)] 3)).heap.size = bs at *
  have hb0 := hb
  generalize hbm : w.heap.size = bm at p2 hb
  clear hb
  gi_wp2_with fail
  have p3 : Pair base w2 (LdT g D) (CutQ Q g bs bm (mostAt n 0)) := pair_place p2
  refine wpIn_rangeFunc_th (α := YdX) (gf := 67) (lb := #[.pointer (some ⟨bs, 0, none⟩)]) rfl (enters_of Tryz.func67 (by kernel_rfl) rfl) (encs := encY) (fun _ => rfl)
    (fun o k W => CutJ base w D g n bs bm w2.heap.size Q o k W) (fun o k x W => CutB base w D g n bs bm w2.heap.size Q o k x W) (fun o W => CutD base w D g n bs bm w2.heap.size Q o W) (fun _ _ _ => False)
    (fun h => rec_get (pair_place h.pr)) (fun h => rec_get h.pr) (fun h => rec_get h.pr) (fun h => h.elim)
    (fun o' h => h.put kq o') (fun o' h => h.put kq o') (fun o' h => h.put kq o') (fun _ h => h.elim)
    (fun o => ⟨Nat.zero_le _, rfl, (rec_new (ldT_keeps g D) (cutQ_keeps kq g bs bm _) hb2 p3 o).1, B2.trans (bel_up hb2 (rec_new (ldT_keeps g D) (cutQ_keeps kq g bs bm _) hb2 p3 o).2)⟩)
    (fun o X W h hY => cut_seq kq hb0 go ht 5 o X W h hY)
    (fun x => { tmps := #[.pointer (some ⟨g, 0, none⟩), .int .i64 (n : Int), .int .i64 z, undef, undef, undef, .int .i64 0, .pointer (some ⟨bm, 0, none⟩), .int .i64 x.i, undef, undef, .int .i64 (n : Int), .pointer (some ⟨g, 0, none⟩), .func (.func 67) #[] #[.pointer (some ⟨bs, 0, none⟩)], .int .i64 x.i, .slice x.B x.n x.c, undef, undef, undef, undef, undef, undef, undef, undef, undef, undef, undef, undef, undef, undef, undef, undef, undef, undef, undef, undef, undef, undef], defers := [] }) ?assign ?body ?done ?stop
  case assign =>
    intro l x W K hK
    dsimp only [encY]
    gi_wp2
    exact hK
  case body =>
    rintro o k x W ⟨hk, hm, hx, pr, bl⟩
    have pb := pair_place (pair_first pr)
    obtain ⟨c0, f0, _⟩ := bx_cell pb
    have kk : Keeps (With (With Q (BxT bs #[.pointer (some ⟨g, 0, none⟩)] 24)) (RecT w2.heap.size o)) := with_keeps (with_keeps kq (bxT_keeps _ _ _)) (recT_keeps _ _)
    obtain ⟨ps, bb⟩ := bx_set (ldT_keeps g D) kk pb (.int .i64 x.i)
    have HJ : Hid (CutJ base w D g n bs bm w2.heap.size Q o (k + 1) (W.setCell ⟨bm, 0, none⟩ (.int .i64 x.i))) := Go.Lib.hid ⟨hk, hm, by
      rw [show mostAt n (k + 1) = x.i from by rw [hx]; unfold mostAt; rw [if_neg (by omega)]; push_cast; rfl]
      exact pair_place ps, bl.trans bb⟩
    clear hm hx pr bl pb kk ps bb
    gi_wp2
    exact HJ.out
  case done =>
    rintro o W ⟨pr, bl⟩
    have hM := manyW_le D
    have hmost : mostAt n (manyW D) = (manyW D : Int) := by unfold mostAt; rw [if_neg (by omega)]
    rw [hmost] at pr
    have hX : ∀ (r : Int × Dk), cutL D n z = r → cutL D n z = r := fun _ h => h
    generalize hM0 : manyW D = M at *
    have HC : Hid (cutL D n z = if (removeW (M - n) D M).1 ≠ 0 then removeW (M - n) D M else truncD (removeW (M - n) D M).2 (segN n) z) := Go.Lib.hid (by unfold cutL; rw [hM0])
    clear hX hM0 hmost p3 p2 B2
    have hbW : base ≤ W.heap.size := Nat.le_trans hb0 bl.size
    obtain ⟨c0, f0, _⟩ := bx_cell (pair_place pr)
    have wz : IntKind.i64.wrap ((M : Int) - n) = (M : Int) - n := IntWalk.i64_in _ (by omega)
    gi_wp2_with fail
    have kC := with_keeps (cutQ_keeps kq g bs bm (M : Int)) (recT_keeps w2.heap.size o)
    gi_loopw [9, 10, 20] (fun _ _ i wr => ∃ (j : Nat) (Dr : Dk), i = .int .i64 (j : Int) ∧ j ≤ M - n ∧ Hid (removeW (M - n) D M = removeW (M - n - j) Dr (M - j)) ∧ Hid (DkGo Dr) ∧ Pair base wr (LdT g Dr) (With (CutQ Q g bs bm (M : Int)) (RecT w2.heap.size o)) ∧ Below base w wr) (fun _ _ i _ => M - n - (intOf i).toNat)
    case atStart => exact ⟨0, D, rfl, Nat.zero_le _, Go.Lib.hid rfl, Go.Lib.hid go, pr, bl⟩
    case round =>
      obtain ⟨j, Dr, rfl, hj, HR, GO, pj, Bj⟩ := hrel
      clear pr bl c0 f0 hbW
      have hbj := Nat.le_trans hb0 Bj.size
      obtain ⟨c0, f0, _⟩ := bx_cell (pair_place pj)
      by_cases hlt : j < M - n
      · have i1 : (j : Int) < (M : Int) - n := by omega
        have wj : IntKind.i64.wrap ((M : Int) - j) = (M : Int) - j := IntWalk.i64_in _ (by omega)
        have hs := segL_any ((M : Int) - j) wr (ht.on Bj).here
        have e1 : segZ ((M : Int) - j) = segN (M - j) := by unfold segZ; congr 1; omega
        rw [e1] at hs
        have HS := Go.Lib.hid hs
        obtain ⟨f, hf⟩ : ∃ f, M - n - j = f + 1 := ⟨M - n - j - 1, by omega⟩
        have HO : Hid (M - n - (j + 1) = f ∧ removeW (M - n) D M = if (removeD Dr (segN (M - j))).1 ≠ 0 then removeD Dr (segN (M - j)) else removeW f (removeD Dr (segN (M - j))).2 (M - j - 1)) := Go.Lib.hid ⟨by omega, by rw [HR.out, hf]; rfl⟩
        clear hs e1 hf HR
        gi_wp2_with fail
        refine ⟨trivial, (callsIn_wide.2 HS.out).mono ?_⟩
        rintro e w4 ⟨rfl, b4⟩
        have p4 := pj.below (ldT_keeps g Dr) kC b4
        have B4 := Bj.trans (bel_up hbj b4)
        have hb4 := Nat.le_trans hbj b4.size
        have goS := remove_go GO.out (segN (M - j))
        have hsz := seg_size (M - j)
        clear pj Bj b4 HS c0 f0 hbj
        gi_wp2_with fail
        refine ⟨trivial, (callsIn_wide.2 (pr_remove p4 kC hb4 GO.out hsz)).mono ?_⟩
        generalize removeD Dr (segN (M - j)) = S at *
        rintro e w5 ⟨rfl, p5, b5⟩
        have B5 := B4.trans b5
        obtain ⟨S1, DS⟩ := S
        have p6 : Pair base w5 (LdT g DS) (With (CutQ Q g bs bm (M : Int)) (RecT w2.heap.size o)) := p5
        have goS2 : Hid (DkGo DS) := Go.Lib.hid goS
        clear p4 B4 b5 hb4 p5 goS GO
        by_cases hS : S1 = 0
        · subst hS
          have HR2 : Hid (removeW (M - n) D M = removeW (M - n - (j + 1)) DS (M - (j + 1))) := Go.Lib.hid (by
            obtain ⟨h1, h2⟩ := HO.out
            rw [if_neg (by simp)] at h2
            rw [h2, h1, Nat.sub_sub])
          clear HO
          gi_wp2_with fail
          go_roundw
          case rel => exact ⟨j + 1, DS, by go_num, hlt, HR2, goS2, p6, B5⟩
          case measure => simp [intOf]; omega
        · have i2 : (S1 != 0) = true := by rw [bne_iff_ne]; exact hS
          have HX : Hid (cutL D n z = (S1, DS)) := Go.Lib.hid (by
            obtain ⟨h1, h2⟩ := HO.out
            have h3 := HC.out
            rw [if_pos hS] at h2
            rw [h2, if_pos hS] at h3
            exact h3)
          have hK := (rec_get p6).dfr
          obtain ⟨p7, b7⟩ := rec_end (ldT_keeps g DS) (cutQ_keeps kq g bs bm (M : Int)) p6 (.deferred none)
          have p8 := Go.Lib.hid (pair_first (pair_first p7))
          have B8 := Go.Lib.hid (B5.trans b7)
          clear HO hS p6 p7 b7 B5 HC
          gi_wp2_with fail
          refine ⟨by simp, .inl ⟨_, _, rfl, run_takeDeferred hK, ?_⟩⟩
          refine ⟨_, results_tmp rfl _ _ _, ?_⟩
          rw [HX.out]
          exact ⟨rfl, p8.out, B8.out⟩
      · obtain rfl : j = M - n := by omega
        have i1 : ¬ (((M - n : Nat) : Int)) < (M : Int) - n := by omega
        have hs := segL_any (n : Int) wr (ht.on Bj).here
        have HS := Go.Lib.hid hs
        have hsz := seg_size n
        have HX : Hid (cutL D n z = truncD Dr (segN n) z) := Go.Lib.hid (by
          have h3 := HC.out
          have h4 : removeW (M - n) D M = (0, Dr) := by
            rw [HR.out, Nat.sub_self]
            rfl
          rw [h4, if_neg (by simp)] at h3
          exact h3)
        clear hs HR HC c0 f0
        gi_wp2_with fail
        refine ⟨trivial, (callsIn_wide.2 HS.out).mono ?_⟩
        rintro e w4 ⟨rfl, b4⟩
        rw [segZ_nat]
        have p4 := pj.below (ldT_keeps g Dr) kC b4
        have B4 := Bj.trans (bel_up hbj b4)
        have hb4 := Nat.le_trans hbj b4.size
        clear pj Bj b4 HS hbj
        gi_wp2_with fail
        refine ⟨trivial, (callsIn_wide.2 (pr_trunc p4 kC hb4 GO.out hsz z)).mono ?_⟩
        generalize truncD Dr (segN n) z = S at *
        rintro e w5 ⟨rfl, p5, b5⟩
        have B5 := B4.trans b5
        have hK := (rec_get p5).dfr
        obtain ⟨p7, b7⟩ := rec_end (ldT_keeps g S.2) (cutQ_keeps kq g bs bm (M : Int)) p5 (.deferred none)
        have p8 := Go.Lib.hid (pair_first (pair_first p7))
        have B8 := Go.Lib.hid (B5.trans b7)
        clear p4 p5 p7 b7 B5 B4 b5 hb4
        gi_wp2_with fail
        refine ⟨by simp, .inl ⟨_, _, rfl, run_takeDeferred hK, ?_⟩⟩
        refine ⟨_, results_tmp rfl _ _ _, ?_⟩
        rw [HX.out]
        exact ⟨rfl, p8.out, B8.out⟩
  case stop =>
    rintro o c W h
    exact h.elim
end Go.Proofs.YtppidbdkejkopaaGreatDoor.WlWalk
namespace Go.Proofs.YtppidbdkejkopaaGreatDoor.WlWalk
open Go.RowKit MemRow Ev NameMath NameWalk EvWalk DkWalk FrMath BtWalk
theorem readC_lk (D : Dk) (t : ByteArray) : readC D t = if (lkF D.fs t).isSome then 0 else 11 := (read_lk D t).1
theorem readC_same {D D' : Dk} {t : ByteArray} (h : (lkF D'.fs t).isSome = (lkF D.fs t).isSome) : readC D' t = readC D t := by rw [readC_lk, readC_lk, h]
theorem sync_read {D : Dk} (h : DkGo D) (s t : ByteArray) : readC (syncD D s).2 t = readC D t := by
  by_cases hl : D.left = 0
  · rw [(fuse_out hl s [] 0).2.1]
  · cases hs : lkF D.fs s with
    | none => rw [sync_no hl hs]; rfl
    | some p =>
      obtain ⟨b, k⟩ := p
      refine readC_same ?_
      rw [(sync_yes h hl hs).2.2 t]
      by_cases ht : t = s
      · rw [if_pos ht, ht, hs]; rfl
      · rw [if_neg ht]
theorem trunc_read {D : Dk} (h : DkGo D) (s : ByteArray) (z : Int) (t : ByteArray) : readC (truncD D s z).2 t = readC D t := by
  by_cases hl : D.left = 0
  · rw [(fuse_out hl s [] z).2.2.2]
  · cases hs : lkF D.fs s with
    | none =>
      unfold truncD truncC
      have e : (burnD D).fs = D.fs := rfl
      rw [if_neg hl, e, if_pos (lk_noidx hs)]
      rfl
    | some p =>
      obtain ⟨b, k⟩ := p
      by_cases hz : 0 ≤ z ∧ z ≤ b.length
      · obtain ⟨n, rfl⟩ := Int.eq_ofNat_of_zero_le hz.1
        refine readC_same ?_
        rw [(trunc_yes h hl hs (n := n) (by omega)).2.2 t]
        by_cases ht : t = s
        · rw [if_pos ht, ht, hs]; rfl
        · rw [if_neg ht]
      · obtain ⟨h1, h2, _⟩ := lk_idx hs
        simp only at h2
        unfold truncD truncC
        have e : (burnD D).fs = D.fs := rfl
        rw [if_neg hl, e, if_neg (by simpa using h1), h2, if_pos (by omega)]
        rfl
theorem remove_read {D : Dk} (h : DkGo D) (s t : ByteArray) : ((removeD D s).1 = 0 → readC (removeD D s).2 t = if t = s then 11 else readC D t) ∧ ((removeD D s).1 ≠ 0 → readC (removeD D s).2 t = readC D t) := by
  by_cases hl : D.left = 0
  · rw [(fuse_out hl s [] 0).2.2.1]
    exact ⟨fun h => by simp at h, fun _ => rfl⟩
  · cases hs : lkF D.fs s with
    | none =>
      have e : removeD D s = (11, burnD D) := by
        unfold removeD removeC
        have e : (burnD D).fs = D.fs := rfl
        rw [if_neg hl, e, if_neg (lk_noidx hs)]
      rw [e]
      exact ⟨fun h => by simp at h, fun _ => rfl⟩
    | some p =>
      obtain ⟨r1, _, r3⟩ := remove_yes h hl hs
      refine ⟨fun _ => ?_, fun h => absurd r1 h⟩
      rw [readC_lk, r3 t]
      by_cases ht : t = s
      · rw [if_pos ht, if_pos ht]; rfl
      · rw [if_neg ht, if_neg ht, readC_lk]
theorem removeW_go : ∀ (f : Nat) (D : Dk) (k : Nat), DkGo D → DkGo (removeW f D k).2
  | 0, _, _, h => h
  | f + 1, D, k, h => by
    rw [removeW]
    split
    · exact remove_go h _
    · exact removeW_go f _ _ (remove_go h _)
theorem removeW_gone : ∀ (f : Nat) (D : Dk) (k : Nat), DkGo D → 1 ≤ f → f ≤ k → (removeW f D k).1 = 0 → readC (removeW f D k).2 (segN (k - f + 1)) ≠ 0
  | 0, _, _, _, h, _, _ => by omega
  | f + 1, D, k, hg, _, hk, h0 => by
    rw [removeW] at h0 ⊢
    by_cases hc : (removeD D (segN k)).1 = 0
    · rw [if_neg (by simpa using hc)] at h0 ⊢
      by_cases hf : f = 0
      · subst hf
        rw [removeW]
        have := (remove_read hg (segN k) (segN k)).1 hc
        rw [if_pos rfl] at this
        have e : k - (0 + 1) + 1 = k := by omega
        rw [e]
        show readC (removeD D (segN k)).2 (segN k) ≠ 0
        rw [this]
        decide
      · have ih := removeW_gone f (removeD D (segN k)).2 (k - 1) (remove_go hg _) (by omega) (by omega) h0
        have e : k - 1 - f + 1 = k - (f + 1) + 1 := by omega
        rw [e] at ih
        exact ih
    · rw [if_pos (by simpa using hc)] at h0
      exact absurd h0 hc
theorem many_spec (D : Dk) : ∀ (f n : Nat), n + f = 200 → n ≤ manyF D f n ∧ (∀ i, n ≤ i → i < manyF D f n → readC D (segN (i + 1)) = 0) ∧ (manyF D f n < 200 → readC D (segN (manyF D f n + 1)) ≠ 0)
  | 0, n, h => by
    rw [manyF]
    exact ⟨Nat.le_refl _, fun i h1 h2 => by omega, fun h2 => by omega⟩
  | f + 1, n, h => by
    rw [manyF_step]
    by_cases hr : readC D (segN (n + 1)) = 0
    · rw [if_pos hr]
      obtain ⟨h1, h2, h3⟩ := many_spec D f (n + 1) (by omega)
      refine ⟨by omega, fun i hi hm => ?_, h3⟩
      by_cases he : i = n
      · rw [he]; exact hr
      · exact h2 i (by omega) hm
    · rw [if_neg hr]
      exact ⟨Nat.le_refl _, fun i h1 h2 => by omega, fun _ => hr⟩
theorem many_here (D : Dk) : (∀ i, i < manyW D → readC D (segN (i + 1)) = 0) ∧ (manyW D < 200 → readC D (segN (manyW D + 1)) ≠ 0) := by
  obtain ⟨_, h2, h3⟩ := many_spec D 200 0 rfl
  exact ⟨fun i hi => h2 i (Nat.zero_le _) hi, h3⟩
theorem manyF_congr {D D' : Dk} (h : ∀ t, readC D' t = readC D t) : ∀ f n, manyF D' f n = manyF D f n
  | 0, _ => rfl
  | f + 1, n => by rw [manyF_step, manyF_step, h, manyF_congr h f (n + 1)]
theorem cutL_go {D : Dk} (h : DkGo D) (n : Nat) (z : Int) : DkGo (cutL D n z).2 := by
  unfold cutL
  split
  · exact removeW_go _ _ _ h
  · exact trunc_go (removeW_go _ _ _ h) _ _
theorem cut_gone {D : Dk} (h : DkGo D) {n : Nat} (z : Int) (h1 : 1 ≤ n) (hn : n ≤ manyW D) (hc : (cutL D n z).1 = 0) (h2 : n < 200) : readC (cutL D n z).2 (segN (n + 1)) ≠ 0 := by
  unfold cutL at hc ⊢
  by_cases hr : (removeW (manyW D - n) D (manyW D)).1 = 0
  · rw [if_neg (by simpa using hr)] at hc ⊢
    rw [trunc_read (removeW_go _ _ _ h)]
    by_cases he : n = manyW D
    · rw [← he, Nat.sub_self, removeW]
      have := (many_here D).2
      rw [← he] at this
      exact this h2
    · have := removeW_gone (manyW D - n) D (manyW D) h (by omega) (by omega) hr
      have e : manyW D - (manyW D - n) + 1 = n + 1 := by omega
      rw [e] at this
      exact this
  · rw [if_pos (by simpa using hr)] at hc
    exact absurd hc hr
theorem cutW_cutL (D : Dk) (n z : Nat) : cutW D (manyW D) n z = if (cutL D n z).1 ≠ 0 then cutL D n z else syncD (cutL D n z).2 (segN n) := by
  unfold cutW cutL
  generalize removeW (manyW D - n) D (manyW D) = S
  by_cases hr : S.1 = 0
  · have e : (if S.1 ≠ 0 then S else truncD S.2 (segN n) (z : Int)) = truncD S.2 (segN n) (z : Int) := if_neg (by simpa using hr)
    rw [e, if_neg (by simpa using hr)]
  · have e : (if S.1 ≠ 0 then S else truncD S.2 (segN n) (z : Int)) = S := if_pos hr
    rw [e, if_pos hr, if_pos hr]
def ReadL (D D' : Dk) (k : Nat) (last : Int) (all : List Bat) : Prop :=
  (k ≤ manyW D ∧ openR (manyW D) D 0 0 [] = openR (manyW D - k) D' k last all ∧ ∀ t, readC D' t = readC D t) ∨
  ((openW D).1 = 0 ∧ (openW D).2.1 = D' ∧ (openW D).2.2.all = all ∧ (openW D).2.2.many = k ∧ (openW D).2.2.last = last ∧ (k < 200 → readC D' (segN (k + 1)) ≠ 0))
theorem readL_start (D : Dk) : ReadL D D 0 0 [] := .inl ⟨Nat.zero_le _, by rw [Nat.sub_zero], fun _ => rfl⟩
theorem readL_done {D D' : Dk} {k : Nat} {last : Int} {all : List Bat} (h : ReadL D D' k last all) (hr : k < 200 → readC D' (segN (k + 1)) ≠ 0) :
    (openW D).1 = 0 ∧ (openW D).2.1 = D' ∧ (openW D).2.2.all = all ∧ (openW D).2.2.many = k ∧ (openW D).2.2.last = last := by
  rcases h with ⟨h1, h2, h3⟩ | ⟨h1, h2, h3, h4, h5, _⟩
  · have hM := manyW_le D
    have hk : k = manyW D := by
      by_cases he : k = manyW D
      · exact he
      · exfalso
        have := hr (by omega)
        rw [h3] at this
        exact this ((many_here D).1 k (by omega))
    have e0 : manyW D - k = 0 := by omega
    rw [e0] at h2
    have e : openR (manyW D) D 0 0 [] = ⟨0, D', all, k, last, none⟩ := h2
    unfold openW
    rw [e]
    exact ⟨rfl, rfl, rfl, rfl, rfl⟩
  · exact ⟨h1, h2, h3, h4, h5⟩
theorem readL_next {D D' : Dk} {k : Nat} {last : Int} {all : List Bat} (h : ReadL D D' k last all) (hk : k < 200) (hr : readC D' (segN (k + 1)) = 0) :
    ∃ f, manyW D - k = f + 1 ∧ openR (manyW D) D 0 0 [] = openR (f + 1) D' k last all ∧ manyW D' = manyW D ∧ k + 1 ≤ manyW D ∧ ∀ t, readC D' t = readC D t := by
  rcases h with ⟨h1, h2, h3⟩ | ⟨_, _, _, _, _, h6⟩
  · have hlt : k < manyW D := by
      rcases Nat.lt_or_eq_of_le h1 with h | h
      · exact h
      · exfalso
        have := (many_here D).2 (by omega)
        rw [← h, ← h3] at this
        exact this hr
    exact ⟨manyW D - k - 1, by omega, by rw [h2]; congr 1; omega, manyF_congr h3 200 0, hlt, h3⟩
  · exact absurd hr (h6 hk)
theorem readL_cut {D D' : Dk} {k f gn m : Nat} {last : Int} {all ys : List Bat} (hg : DkGo D') (hM : manyW D' = manyW D) (hkM : k + 1 ≤ manyW D) (h : openR (manyW D) D 0 0 [] = openR (f + 1) D' k last all)
    (h1 : goodB (readB D' (segN (k + 1))) last = ys) (h2 : goodN (readB D' (segN (k + 1))) last = gn) (h3 : (readB D' (segN (k + 1))).length = m) (hc : gn < m) :
    ((cutL D' (k + 1) (gn : Int)).1 ≠ 0 → (openW D).1 = (cutL D' (k + 1) (gn : Int)).1 ∧ (openW D).2.1 = (cutL D' (k + 1) (gn : Int)).2) ∧
    ((cutL D' (k + 1) (gn : Int)).1 = 0 → ((syncD (cutL D' (k + 1) (gn : Int)).2 (segN (k + 1))).1 ≠ 0 → (openW D).1 = (syncD (cutL D' (k + 1) (gn : Int)).2 (segN (k + 1))).1 ∧ (openW D).2.1 = (syncD (cutL D' (k + 1) (gn : Int)).2 (segN (k + 1))).2) ∧
      ((syncD (cutL D' (k + 1) (gn : Int)).2 (segN (k + 1))).1 = 0 → ReadL D (syncD (cutL D' (k + 1) (gn : Int)).2 (segN (k + 1))).2 (k + 1) (last + (tot ys : Int)) (all ++ ys))) := by
  have e := openR_step (f := f) (k := k) (D' := D') (last := last) (all := all) h1 h2 h3
  rw [if_pos hc] at e
  have hw : openW D = ((cutW D' (manyW D) (k + 1) gn).1, (cutW D' (manyW D) (k + 1) gn).2, ⟨0, D', all ++ ys, k + 1, last + (tot ys : Int), some gn⟩) := by
    unfold openW
    rw [h, e]
    rfl
  have hcw := cutW_cutL D' (k + 1) gn
  rw [hM] at hcw
  rw [hcw] at hw
  refine ⟨fun hn => ?_, fun h0 => ⟨fun hn => ?_, fun hs => ?_⟩⟩
  · rw [if_pos hn] at hw
    rw [hw]
    exact ⟨rfl, rfl⟩
  · rw [if_neg (by simpa using h0)] at hw
    rw [hw]
    exact ⟨rfl, rfl⟩
  · rw [if_neg (by simpa using h0)] at hw
    refine .inr ?_
    rw [hw]
    refine ⟨hs, rfl, rfl, rfl, rfl, fun hlt => ?_⟩
    rw [sync_read (cutL_go hg _ _)]
    exact cut_gone hg _ (by omega) (by omega) h0 hlt
theorem readL_on {D D' : Dk} {k f gn m : Nat} {last : Int} {all ys : List Bat} (hg : DkGo D') (hf : manyW D - k = f + 1) (hkM : k + 1 ≤ manyW D) (hread : ∀ t, readC D' t = readC D t) (h : openR (manyW D) D 0 0 [] = openR (f + 1) D' k last all)
    (h1 : goodB (readB D' (segN (k + 1))) last = ys) (h2 : goodN (readB D' (segN (k + 1))) last = gn) (h3 : (readB D' (segN (k + 1))).length = m) (hc : ¬ gn < m) :
    ((syncD D' (segN (k + 1))).1 ≠ 0 → (openW D).1 = (syncD D' (segN (k + 1))).1 ∧ (openW D).2.1 = (syncD D' (segN (k + 1))).2) ∧
    ((syncD D' (segN (k + 1))).1 = 0 → ReadL D (syncD D' (segN (k + 1))).2 (k + 1) (last + (tot ys : Int)) (all ++ ys)) := by
  have e := openR_step (f := f) (k := k) (D' := D') (last := last) (all := all) h1 h2 h3
  rw [if_neg hc] at e
  refine ⟨fun hn => ?_, fun hs => ?_⟩
  · rw [if_pos hn] at e
    unfold openW
    rw [h, e]
    simp only [ne_eq, hn, not_false_eq_true, if_true]
    exact ⟨trivial, trivial⟩
  · rw [if_neg (by simpa using hs)] at e
    refine .inl ⟨hkM, ?_, fun t => (sync_read hg _ t).trans (hread t)⟩
    rw [h, e]
    congr 1
    omega
end Go.Proofs.YtppidbdkejkopaaGreatDoor.WlWalk
namespace Go.Proofs.YtppidbdkejkopaaGreatDoor.BtWalk
open Go.RowKit MemRow Ev NameMath NameWalk EvWalk NumMath NumMem NumWalk EcWalk EdWalk EeLaw
structure BApi : Prop where
  may : ∀ (v : Value) (x : Bat) (w : World), IsB w v x → BOk x → Calls Tryz.prog 46 #[v] w fun e w' => e = .returned (.int .i64 (mayX x)) ∧ Below w.heap.size w w'
  put : ∀ (v : Value) (x : Bat) (w : World), IsB w v x → BOk x → Calls Tryz.prog 47 #[v] w (PutXOut x w)
  take : ∀ (A : Option Addr) (n cap : Nat) (l : List UInt8) (w : World), Rd w A n cap l → l.length ≤ 1000000 → Calls Tryz.prog 69 #[.slice A n cap] w (TakeXOut l w)
theorem ev_one (e : Ev) (T F : Option Addr) (nT cT nF cF : Nat) : ∀ v ∈ ([.string e.s, .string e.t, .slice T nT cT, .slice F nF cF] : List Value), v.oneCell' = true := by
  intro v hv
  simp only [List.mem_cons, List.not_mem_nil, or_false] at hv
  rcases hv with rfl | rfl | rfl | rfl <;> rfl
end Go.Proofs.YtppidbdkejkopaaGreatDoor.BtWalk
namespace Go.Proofs.YtppidbdkejkopaaGreatDoor.WlWalk
open Go.RowKit MemRow Ev NameMath NameWalk EvWalk NumMem DkWalk FrMath BtWalk EdWalk CrcWalk
theorem withLl_set {Q : Thing} {w : World} {G : Nat → Prop} {gl g many : Nat} {last : Int} (kq : Keeps Q) (h : With Q (LlT gl g many last) w G) (z : Int) : With Q (LlT gl g many z) (w.setCell ⟨gl, 258, none⟩ (.int .i64 z)) G := by
  obtain ⟨G1, G2, h1, ⟨hh, hg, hl⟩, i1, i2, hlt, hx⟩ := h
  have hsz : (w.setCell ⟨gl, 258, none⟩ (.int .i64 z)).heap.size = w.heap.size := by simp [World.setCell]
  have hk : ∀ k, k ≠ gl → (w.setCell ⟨gl, 258, none⟩ (.int .i64 z)).heap[k]? = w.heap[k]? := fun k hk => by
    have : gl ≠ k := fun e => hk e.symm
    simp [World.setCell, Array.getElem?_modify, this]
  refine ⟨G1, G2, kq.keep h1 (by omega) fun k hf => hk k fun e => hx k hf (by rw [e]; exact hg), ⟨?_, hg, fun k hk => by rw [hsz]; exact hl k hk⟩, i1, i2, fun k hk => by rw [hsz]; exact hlt k hk, hx⟩
  rw [setCell_eq_setRow w gl 258 _ _ _ _ hh, setRow_heap w gl _ _ _ _ hh, llV_set258]
structure TkAt (base : Nat) (P Q : Thing) (F G : Nat → Prop) (gl g many lo : Nat) (wr : World) (L : Int) (B : Option Addr) (m c : Nat) (ys : List Bat) : Prop where
  p : P wr F
  q : With Q (LlT gl g many L) wr G
  fb : ∀ k, F k → base ≤ k
  gb : ∀ k, G k → base ≤ k
  fg : ∀ k, F k → ¬ G k
  fl : ∀ k, F k → k < lo
  gt : ∀ k, G k → k < lo
  hlo : base ≤ lo
  sz : lo ≤ wr.heap.size
  own : OwnBs wr lo B m c ys
section
variable {base : Nat} {P Q : Thing} {F G : Nat → Prop} {gl g many lo : Nat} {wr w' : World} {L : Int} {B : Option Addr} {m c : Nat} {ys : List Bat}
theorem TkAt.pair (h : TkAt base P Q F G gl g many lo wr L B m c ys) : Pair base wr P (With Q (LlT gl g many L)) := ⟨F, G, h.p, h.q, h.fb, h.gb, h.fg⟩
theorem TkAt.glt (h : TkAt base P Q F G gl g many lo wr L B m c ys) : gl < lo := by
  obtain ⟨_, _, _, ⟨_, hg, _⟩, _, i2, _, _⟩ := h.q
  exact h.gt gl (i2 gl hg)
theorem TkAt.below (h : TkAt base P Q F G gl g many lo wr L B m c ys) (kp : Keeps P) (kq : Keeps Q) (b : Below wr.heap.size wr w') : TkAt base P Q F G gl g many lo w' L B m c ys :=
  ⟨kp.keep h.p b.size fun k hk => b.block k (kp.lt h.p k hk), (with_keeps kq (bxT_keeps _ _ _)).keep h.q b.size fun k hk => b.block k (Nat.lt_of_lt_of_le (h.gt k hk) h.sz), h.fb, h.gb, h.fg, h.fl, h.gt, h.hlo, Nat.le_trans h.sz b.size, h.own.below b⟩
theorem TkAt.set2 (h : TkAt base P Q F G gl g many lo wr L B m c ys) (kp : Keeps P) (kq : Keeps Q) (z : Int) : TkAt base P Q F G gl g many lo (wr.setCell ⟨gl, 258, none⟩ (.int .i64 z)) z B m c ys := by
  have hsz : (wr.setCell ⟨gl, 258, none⟩ (.int .i64 z)).heap.size = wr.heap.size := by simp [World.setCell]
  have hgG : G gl := by
    obtain ⟨_, _, _, ⟨_, hg, _⟩, _, i2, _, _⟩ := h.q
    exact i2 gl hg
  refine ⟨kp.keep h.p (by omega) fun k hf => ?_, withLl_set kq h.q z, h.fb, h.gb, h.fg, h.fl, h.gt, h.hlo, by rw [hsz]; exact h.sz, h.own.off (grownSet wr gl 258 _) h.glt⟩
  have : gl ≠ k := fun e => h.fg k hf (by rw [← e]; exact hgG)
  simp [World.setCell, Array.getElem?_modify, this]
theorem TkAt.more (h : TkAt base P Q F G gl g many lo wr L B m c ys) (kp : Keeps P) (kq : Keeps Q) {B' : Option Addr} {c' : Nat} {cs : List Value} {x : Bat} {E : Option Addr} {i d : Nat} (ho : OwnC 2 wr lo 39 B m c cs) (hl : ys.length = m) (hc : BatsC wr lo ys cs) (o : OwnE wr lo E i d x.es)
    (ho' : OwnC 2 w' lo 39 B' (m + 1) c' (cs ++ [.int .i64 x.a, .slice E i d])) (hg : wr.grownBy w' (B.map (·.block))) : TkAt base P Q F G gl g many lo w' L B' (m + 1) c' (ys ++ [x]) ∧ Below lo wr w' := by
  have b := below_grown_own ho (Below.refl lo wr) hg h.sz
  exact ⟨⟨kp.keep h.p b.size fun k hk => b.block k (h.fl k hk), (with_keeps kq (bxT_keeps _ _ _)).keep h.q b.size fun k hk => b.block k (h.gt k hk), h.fb, h.gb, h.fg, h.fl, h.gt, h.hlo, Nat.le_trans h.sz b.size, OwnBs.more ho hl hc o ho' hg⟩, b⟩
theorem TkAt.out (h : TkAt base P Q F G gl g many lo wr L B m c ys) : Pair base wr P (With (With Q (LlT gl g many L)) (BsT lo B m c ys)) :=
  ⟨F, fun k => G k ∨ (lo ≤ k ∧ k < wr.heap.size), h.p, ⟨G, _, h.q, bsT_of h.own, fun k hk => .inl hk, fun k hk => .inr hk, fun k hk => by
    rcases hk with hk | hk
    · exact Nat.lt_of_lt_of_le (h.gt k hk) h.sz
    · exact hk.2, fun k hk h2 => by have := h.gt k hk; omega⟩, h.fb, fun k hk => by
    rcases hk with hk | hk
    · exact h.gb k hk
    · exact Nat.le_trans h.hlo hk.1, fun k hf hk => by
    rcases hk with hk | hk
    · exact h.fg k hf hk
    · have := h.fl k hf; omega⟩
end
theorem withSl_rd {Q R : Thing} {A : Option Addr} {n c : Nat} {l : List UInt8} {w : World} {G : Nat → Prop} (h : With (With Q (SlT A n c l)) R w G) : Rd w A n c l := by
  obtain ⟨_, _, ⟨_, _, _, hr, _⟩, _⟩ := h
  exact hr.1
end Go.Proofs.YtppidbdkejkopaaGreatDoor.WlWalk
namespace Go.Proofs.YtppidbdkejkopaaGreatDoor.BtWalk
open Go.RowKit MemRow Ev NameMath NameWalk EvWalk NumMath NumMem NumWalk EcWalk EdWalk EeLaw
set_option maxHeartbeats 4000000 in
set_option maxRecDepth 100000 in
theorem may10_any (v : Value) (x : Bat) (w : World) (hv : IsB w v x) (hok : BOk x) :
    Calls Tryz.prog 46 #[v] w fun e w' => e = .returned (.int .i64 (mayX x)) ∧ Below w.heap.size w w' := by
  obtain ⟨A, n, ca, rfl, rE⟩ := hv
  obtain ⟨a, es⟩ := x
  simp only at rE
  have oke := hok.evs
  have oka := hok.a
  simp only at oke oka
  have LE := Go.Lib.hid rE.len
  have hn := rE.le
  unfold maxLen at hn
  have s1 := BoxB.new w (.int .i64 a) (.slice A n ca)
  have H1 := Go.Lib.hid (fun h => mayX_none (a := a) (es := es) h)
  have H2 := Go.Lib.hid (fun h => mayX_big (a := a) (es := es) h)
  have HX := Go.Lib.hid (fun h0 h16 hm => mayX_pos (a := a) LE.out h0 h16 hm)
  have HE := Go.Lib.hid (fun h0 h16 hm => mayX_ev (a := a) (es := es) h0 h16 hm)
  clear hok
  generalize mayX ⟨a, es⟩ = M at *
  go_enter Tryz.func46, Tryz.ntmps46
  go_upto_region 1 with (fail)
  generalize w.alloc (.cells #[.int .i64 a, .slice A n ca] 39) = w1 at *
  have k1 := s1.eq.c1
  by_cases h0 : n = 0
  · subst h0
    obtain rfl : M = 22 := H1.out LE.out
    clear H1 H2 HX HE
    go_wp2_with fail
    go_ret
    exact ⟨rfl, s1.bel⟩
  have i0 : ((n : Int) == 0) = false := by rw [beq_eq_false_iff_ne]; omega
  by_cases h16 : 16 < n
  · obtain rfl : M = 3 := H2.out (by rw [LE.out]; exact h16)
    clear H1 H2 HX HE
    have i1 : (16 : Int) < n := by omega
    go_wp2_with fail
    go_ret
    exact ⟨rfl, s1.bel⟩
  have i1 : ¬ (16 : Int) < n := by omega
  have H0 := Go.Lib.hid h0
  replace HX := Go.Lib.hid (fun hm => HX.out h0 h16 hm)
  replace HE := Go.Lib.hid (fun hm => HE.out (by rw [LE.out]; exact h0) (by rw [LE.out]; exact h16) hm)
  clear h0 H1 H2
  go_wp2_with fail
  go_loopw [5, 6, 19] (fun _ _ i wr => ∃ j : Nat, j ≤ n ∧ i = .int .i64 j ∧ Hid (mayEs (es.take j) = 0) ∧ BoxB wr w (.int .i64 a) (.slice A n ca)) (fun _ _ i _ => n - (intOf i).toNat)
  case atStart => exact ⟨0, Nat.zero_le _, rfl, Go.Lib.hid (by simp [mayEs]), s1⟩
  case round =>
    obtain ⟨j, hj, rfl, HJ, sr⟩ := hrel
    clear s1 k1
    have k0 := sr.eq.c0
    by_cases hlt : j < n
    · obtain ⟨b, o, rfl, _, kt⟩ := rE.at_ (by omega)
      obtain ⟨A1, n1, c1, B1, m1, d1, x0, x1, x2, x3, r1, r2⟩ := (kt j hlt).below sr.bel
      have i2 : (j : Int) < n := by omega
      have hjl : j < es.length := by rw [LE.out]; exact hlt
      have hoe := oke _ (ev_get hjl)
      have HA := Go.Lib.hid (mayEs_at es j HJ.out hjl)
      have HT := Go.Lib.hid (mayEs_take es j HJ.out hjl)
      clear kt hjl
      generalize es.getD j noEv = ev at *
      go_upto_region 9 with (fail)
      have al : Below wr.heap.size wr (wr.alloc (.cells #[.string ev.s, .string ev.t, .slice A1 n1 c1, .slice B1 m1 d1] 69)) := (Below.refl _ _).alloc (Nat.le_refl _) _
      have e3 := EvAt.new wr (.string ev.s) (.string ev.t) (.slice A1 n1 c1) (.slice B1 m1 d1)
      have s3 := sr.below al
      have iv : IsEv (wr.alloc (.cells #[.string ev.s, .string ev.t, .slice A1 n1 c1, .slice B1 m1 d1] 69)) (.agg #[.string ev.s, .string ev.t, .slice A1 n1 c1, .slice B1 m1 d1]) ev := ⟨_, _, _, _, _, _, rfl, RdC.below r1 al, RdC.below r2 al⟩
      generalize wr.alloc (.cells #[.string ev.s, .string ev.t, .slice A1 n1 c1, .slice B1 m1 d1] 69) = w3 at *
      have q0 := e3.c0
      have q1 := e3.c1
      have q2 := e3.c2
      have q3 := e3.c3
      clear x0 x1 x2 x3 r1 r2 k0 sr al e3
      go_wp2_with fail
      refine (evMay_any _ ev w3 iv hoe).mono ?_
      rintro e w6 ⟨rfl, b6⟩
      have s6 := s3.below b6
      clear q0 q1 q2 q3 iv s3 b6
      by_cases he : mayE ev = 0
      · have HT2 := Go.Lib.hid (HT.out he)
        rw [he]
        clear he HT HA
        go_wp2_with fail
        go_roundw
        case rel => exact ⟨j + 1, by omega, by go_num, HT2, s6⟩
        case measure => simp [intOf]; omega
      · have hb : (mayE ev != 0) = true := by rw [bne_iff_ne]; exact he
        have hme := HA.out he
        have hM : M = mayE ev := by rw [HE.out (by rw [hme]; exact he), hme]
        rw [← hM] at hb ⊢
        clear HA HT HE HX hme he hM
        go_wp2_with fail
        go_ret
        exact ⟨rfl, s6.bel⟩
    · obtain rfl : n = j := by omega
      have hes : es.take n = es := List.take_of_length_le (by rw [LE.out]; exact Nat.le_refl _)
      have HM := Go.Lib.hid (HX.out (by rw [← hes]; exact HJ.out))
      clear hes HX HE HJ
      by_cases ha : a < 0
      · obtain rfl : M = 1 := by rw [HM.out, if_pos (.inl ha)]
        clear HM
        go_wp2_with fail
        go_ret
        exact ⟨rfl, sr.bel⟩
      · by_cases hb : 1048576 - (n : Int) < a
        · obtain rfl : M = 1 := by rw [HM.out, if_pos (.inr hb)]
          clear HM
          go_wp2_with fail
          go_ret
          exact ⟨rfl, sr.bel⟩
        · obtain rfl : M = 0 := by rw [HM.out, if_neg (by omega)]
          clear HM
          go_wp2_with fail
          go_ret
          exact ⟨rfl, sr.bel⟩
theorem put10_rd (A : Option Addr) (n cap : Nat) (l : List UInt8) (x : Int) (w : World) (h : Rd w A n cap l) (hx : -9223372036854775808 ≤ x ∧ x ≤ 9223372036854775807) (hn : l.length ≤ 10000000) :
    Calls Tryz.prog 78 #[.slice A n cap, .int .i64 x] w fun e w' => ∃ (A' : Option Addr) (c : Nat) (l' : List UInt8), Hid (l' = l ++ enc x) ∧ e = .returned (.slice A' l'.length c) ∧ Rd w' A' l'.length c l' ∧ Below w.heap.size w w' := by
  have hl := h.len
  have hel := enc_le x hx.1 hx.2
  refine (put_any A n cap l x w h hx.1 hx.2 (by omega)).mono ?_
  rintro e w' ⟨rfl, hr, hb⟩
  have e1 : n + (enc x).length = (l ++ enc x).length := by rw [List.length_append, hl]
  rw [e1]
  exact ⟨_, _, _, Go.Lib.hid rfl, rfl, hr.rd (by rw [List.length_append]; unfold maxLen; omega), hb⟩
set_option maxHeartbeats 4000000 in
set_option maxRecDepth 100000 in
theorem put10_any (v : Value) (x : Bat) (w : World) (hv : IsB w v x) (hok : BOk x) :
    Calls Tryz.prog 47 #[v] w (PutXOut x w) := by
  have hv0 := hv
  obtain ⟨A, n, ca, rfl, rE⟩ := hv
  have LE := Go.Lib.hid rE.len
  have hn := rE.le
  unfold maxLen at hn
  have s1 := BoxB.new w (.int .i64 x.a) (.slice A n ca)
  have oke := hok.evs
  go_enter Tryz.func47, Tryz.ntmps47
  go_upto_region 1 with (fail)
  generalize w.alloc (.cells #[.int .i64 x.a, .slice A n ca] 39) = w1 at *
  have k0 := s1.eq.c0
  have k1 := s1.eq.c1
  go_wp2_with fail
  refine (may10_any _ x w1 (hv0.below s1.bel) hok).mono ?_
  rintro e w2 ⟨rfl, b2⟩
  have s2 := s1.below b2
  clear k0 k1 s1 b2
  by_cases h0 : mayX x = 0
  case neg =>
    have m0 : (mayX x != 0) = true := by rw [bne_iff_ne]; exact h0
    have H0 := Go.Lib.hid h0
    clear h0
    go_wp2_with fail
    go_ret2
    exact ⟨s2.bel, .inr ⟨H0.out, rfl⟩⟩
  rw [h0]
  have H0 := Go.Lib.hid h0
  obtain ⟨z1, z2, z3, z4, z5⟩ := (mayX_zero x).1 h0
  have Z3 := Go.Lib.hid z3
  rw [rE.len] at z1 z2 z5
  have hx0 : -9223372036854775808 ≤ x.a ∧ x.a ≤ 9223372036854775807 := hok.a
  have hxn : -9223372036854775808 ≤ (n : Int) ∧ (n : Int) ≤ 9223372036854775807 := by omega
  clear h0 z3 z4 z5 hok
  have k0 := s2.eq.c0
  have k1 := s2.eq.c1
  have b0 : Below w2.heap.size w2 w2.drew := bel_drew (Below.refl _ _)
  have hz : ([] : List UInt8).length ≤ 10000000 := by simp
  go_wp2_with fail
  go_region_held (fun w' => w'.cell? ⟨w.heap.size, 0, none⟩ = some (.int .i64 x.a) ∧ w'.cell? ⟨w.heap.size, 1, none⟩ = some (.slice A n ca))
    (first | exact ⟨k0, k1⟩ | exact ⟨bcell b3 k0, bcell b3 k1⟩ | exact ⟨bcell b4 k0, bcell b4 k1⟩)
    (first
      | (go_at_call 78; refine (put10_rd A3 l3.length c3 l3 (n : Int) w3 o3 hxn hl3).mono ?_; rintro e w4 ⟨A4, c4, l4, H4, rfl, o4, bb⟩; have b4 := below_chain b3 bb; clear bb)
      | (go_at_call 78; refine (put10_rd none 0 0 [] x.a w2.drew (Rd.nil _) hx0 hz).mono ?_; rintro e w3 ⟨A3, c3, l3, H3, rfl, o3, bb⟩; have b3 := below_chain b0 bb; have hl3 : l3.length ≤ 10000000 := (by rw [H3.out, List.nil_append]; have := enc_le x.a hx0.1 hx0.2; omega); clear bb))
  have s4 := s2.below b4
  have H5 : Hid (l4 = enc x.a ++ enc (x.es.length : Int) ++ evsE (x.es.take 0)) := Go.Lib.hid (by rw [H4.out, H3.out, LE.out]; simp [evsE])
  clear k0 k1 b0 b3 b4 o3 hl3 s2
  have k1 := s4.eq.c1
  go_wp2_with fail
  go_loopw [5, 7, 23] (fun o _ i wr => ∃ (j : Nat) (A' : Option Addr) (c' : Nat) (l' : List UInt8), j ≤ n ∧ o = .slice A' l'.length c' ∧ i = .int .i64 j ∧ Hid (l' = enc x.a ++ enc (x.es.length : Int) ++ evsE (x.es.take j)) ∧ Rd wr A' l'.length c' l' ∧ Below w.heap.size w wr) (fun _ _ i _ => n - (intOf i).toNat)
  case atStart => exact ⟨0, A4, c4, l4, Nat.zero_le _, rfl, rfl, H5, o4, s4.bel⟩
  case round =>
    obtain ⟨j, A', c', l', hj, rfl, rfl, HQ, oq, sq⟩ := hrel
    clear s4 o4 H5 H4 H3 k1
    by_cases hlt : j < n
    · obtain ⟨b, o, rfl, _, kt⟩ := rE.at_ (by omega)
      obtain ⟨A1, n1, c1, B1, m1, d1, x0, x1, x2, x3, r1, r2⟩ := (kt j hlt).below sq
      have i2 : (j : Int) < n := by omega
      have hjl : j < x.es.length := by rw [LE.out]; exact hlt
      have hoe := oke _ (ev_get hjl)
      have HE0 := Go.Lib.hid (Z3.out _ (ev_get hjl))
      have HT := Go.Lib.hid (ev_take x.es j hjl)
      have hlq : l'.length ≤ 1000000 := by
        have h1 := evsE_le (es := x.es.take j) fun e he => Z3.out e (List.mem_of_mem_take he)
        have h2 : (x.es.take j).length ≤ 16 := by rw [List.length_take]; omega
        have h3 := enc_le x.a hx0.1 hx0.2
        have h4 := enc_le (x.es.length : Int) (by omega) (by rw [LE.out]; omega)
        rw [HQ.out]
        simp only [List.length_append]
        omega
      clear kt hjl
      generalize x.es.getD j noEv = ev at *
      go_upto_region 8 with (fail)
      have al : Below wr.heap.size wr (wr.alloc (.cells #[.string ev.s, .string ev.t, .slice A1 n1 c1, .slice B1 m1 d1] 69)) := (Below.refl _ _).alloc (Nat.le_refl _) _
      have e3 := EvAt.new wr (.string ev.s) (.string ev.t) (.slice A1 n1 c1) (.slice B1 m1 d1)
      have s3 := below_chain sq al
      have o3 := oq.below al
      have iv : IsEv (wr.alloc (.cells #[.string ev.s, .string ev.t, .slice A1 n1 c1, .slice B1 m1 d1] 69)) (.agg #[.string ev.s, .string ev.t, .slice A1 n1 c1, .slice B1 m1 d1]) ev := ⟨_, _, _, _, _, _, rfl, RdC.below r1 al, RdC.below r2 al⟩
      generalize wr.alloc (.cells #[.string ev.s, .string ev.t, .slice A1 n1 c1, .slice B1 m1 d1] 69) = w3 at *
      have q0 := e3.c0
      have q1 := e3.c1
      have q2 := e3.c2
      have q3 := e3.c3
      clear x0 x1 x2 x3 r1 r2 sq al e3 oq
      go_wp2_with fail
      refine (putE_any A' l'.length c' l' _ ev w3 o3 hlq iv hoe).mono ?_
      rintro e w6 ⟨hp, b6⟩
      have s6 := below_chain s3 b6
      rcases hp with ⟨_, v7, rfl, L7⟩ | ⟨hne, _⟩
      · obtain ⟨A7, c7, rfl, o7⟩ := L7
        have r7 := o7.rd
        have H7 : Hid (l' ++ encE ev = enc x.a ++ enc (x.es.length : Int) ++ evsE (x.es.take (j + 1))) := Go.Lib.hid (by rw [HT.out, evsE_snoc, HQ.out]; simp only [List.append_assoc])
        clear q0 q1 q2 q3 iv s3 b6 HT HQ o3 o7
        generalize l' ++ encE ev = l7 at *
        go_wp2_with fail
        go_roundw
        case rel => exact ⟨j + 1, A7, c7, l7, by omega, rfl, by go_num, H7, r7, s6⟩
        case measure => simp [intOf]; omega
      · exact absurd HE0.out hne
    · obtain rfl : n = j := by omega
      have hes : l' = encX x := by rw [HQ.out, List.take_of_length_le (by rw [LE.out]; exact Nat.le_refl _)]; rfl
      have HP := Go.Lib.hid (fun (W : World) (e : Ending) (hb : Below w.heap.size w W) (A : Option Addr) (c : Nat) (he : e = .returned (.tuple #[.slice A l'.length c, .int .i64 0])) (hr : Rd W A l'.length c l') => (show PutXOut x w e W from ⟨hb, .inl ⟨H0.out, A, c, by rw [← hes]; exact he, by rw [← hes]; exact hr⟩⟩))
      clear hes
      go_wp2_with fail
      go_ret2
      exact HP.out _ _ sq _ _ rfl oq
end Go.Proofs.YtppidbdkejkopaaGreatDoor.BtWalk
namespace Go.Proofs.YtppidbdkejkopaaGreatDoor.EdWalk
open Go.RowKit MemRow Ev NameMath NameWalk EvWalk NumMath NumMem NumWalk EcWalk
def Dry (l : List UInt8) (b : Bool) : Prop := b = true → l = []
theorem Dry.num {l : List UInt8} {b : Bool} (h : Dry l b) : Dry (numL l) (numB l b) := by
  intro hb
  unfold numB at hb
  unfold numL
  split at hb
  · next h0 => rw [if_pos h0]
  · next h0 =>
    obtain rfl := h hb
    exact absurd rfl h0
theorem Dry.text {l : List UInt8} {b : Bool} (h : Dry l b) : Dry (textL l) (textB l b) := by
  intro hb
  unfold textB at hb
  unfold textL
  split at hb
  · next h0 =>
    rw [if_pos h0, h.num hb]
    simp
  · next h0 => rw [if_neg h0]
theorem Dry.good {l : List UInt8} {b : Bool} (h : Dry l b) (hn : 0 < numV l) : numB l b = false := by
  cases hb : numB l b with
  | false => rfl
  | true =>
    exfalso
    unfold numB at hb
    split at hb
    · next h0 =>
      unfold numV at hn
      rw [if_pos h0] at hn
      omega
    · next h0 =>
      obtain rfl := h hb
      exact h0 rfl
theorem own_off {k : Nat} {w w' : World} {base : Nat} {t : TypeId} {A : Option Addr} {n cap : Nat} {cs : List Value} {g : Nat} (h : OwnC k w base t A n cap cs) (hg : w.grownBy w' (some g)) (hb : g < base) : OwnC k w' base t A n cap cs :=
  OwnC.grown h hg fun a hA e => by
    have := (OwnC.lt h a hA).1
    injection e with e
    omega
def ListS (n : Int) (K : Nat) (l0 : List UInt8) (b0 : Bool) (g : Nat) (w : World) (e : Ending) (w' : World) : Prop :=
  w.grownBy w' (some g) ∧ ∃ (ts : List ByteArray) (l' : List UInt8) (b' : Bool) (A : Option Addr) (m cap : Nat) (us : List ByteArray) (ok : Bool), Hid (takeTags K l0 b0 = (ts, l', b')) ∧ Hid (ok = (decide (0 ≤ n) && !b')) ∧ e = .returned (.tuple #[.slice A m cap, .bool ok]) ∧ Rdr w' 161 g l' b' ∧ OwnC 1 w' w.heap.size 9 A m cap (MemRow.strs us) ∧ Hid (b' = false → us = ts.take 7) ∧ Hid (∀ x ∈ us, x.size ≤ maxLen)
set_option maxHeartbeats 4000000 in
set_option maxRecDepth 100000 in
theorem listS_any (g : Nat) (l : List UInt8) (b : Bool) (w : World) (h : Rdr w 161 g l b) (hd : Dry l b) :
    Calls Tryz.prog 185 #[.pointer (some ⟨g, 0, none⟩), .int .i64 6, .func (.func 184) #[.pointer (some ⟨g, 0, none⟩)] #[]] w fun e w' => ListS (numV l) (numV l).toNat (numL l) (numB l b) g w e w' := by
  have gw := h.lt
  have hgood := hd.good
  have hrange := numV_range l
  generalize hn : numV l = n at *
  generalize hl0 : numL l = l0 at *
  generalize hb0 : numB l b = b0 at *
  obtain ⟨K, hK⟩ : ∃ K, K = n.toNat := ⟨_, rfl⟩
  rw [← hK]
  have HK := Go.Lib.hid hK
  have HN := Go.Lib.hid hn
  have HL0 := Go.Lib.hid hl0
  have HB0 := Go.Lib.hid hb0
  clear hK hn hl0 hb0
  go_enter Tryz.func185, Tryz.ntmps185
  go_wp2_with fail
  refine (num_any g l b w h).mono ?_
  rintro e w1 ⟨rfl, r1, g1⟩
  clear h
  rw [HN.out]
  rw [HL0.out, HB0.out] at r1
  go_wp2_with fail
  go_loopw [8, 10, 14] (fun lv _ i wr => ∃ (j : Nat) (A : Option Addr) (m cap : Nat) (ts : List ByteArray) (l' : List UInt8), j ≤ K ∧ i = .int .i64 j ∧ lv = .slice A m cap ∧ Hid (takeTags K l0 b0 = (ts ++ (takeTags (K - j) l' b0).1, (takeTags (K - j) l' b0).2) ∧ ts.length = j) ∧ Hid (m = min j 7) ∧ OwnC 1 wr w.heap.size 9 A m cap (MemRow.strs (ts.take 7)) ∧ Rdr wr 161 g l' b0 ∧ w.grownBy wr (some g) ∧ Hid (∀ x ∈ ts, x.size ≤ maxLen)) (fun _ _ i _ => K - (intOf i).toNat)
  case atStart => exact ⟨0, none, 0, 0, [], l0, Nat.zero_le _, rfl, rfl, Go.Lib.hid (by simp), Go.Lib.hid rfl, OwnC.nil _ _, r1, g1, Go.Lib.hid (by simp)⟩
  case round =>
    obtain ⟨j, A, m, cap, ts, l', hj, rfl, rfl, HQ, HM, ow, rd, gr, HSZ⟩ := hrel
    clear r1 g1
    by_cases hlt : (j : Int) < n
    · obtain rfl : b0 = false := hgood (by omega)
      go_wp2_with fail
      refine (text_any g l' false wr rd).mono ?_
      rintro e v1 ⟨rfl, hr, hg⟩
      have ow1 := own_off ow hg gw
      have gr1 := gr_step' gr hg
      have HT := Go.Lib.hid (tx_small rd)
      have hjK : j + 1 ≤ K := by have := HK.out; omega
      have hKj : K - j = K - (j + 1) + 1 := by omega
      have HKJ := Go.Lib.hid hKj
      have hgo : takeTags K l0 false = ((ts ++ [tx l']) ++ (takeTags (K - (j + 1)) (textL l') (textB l' false)).1, (takeTags (K - (j + 1)) (textL l') (textB l' false)).2) := by
        rw [HQ.out.1, HKJ.out, takeTags_go]
        simp
      have HGO := Go.Lib.hid hgo
      have hlen := HQ.out.2
      have HLEN := Go.Lib.hid hlen
      clear ow rd gr hg hKj hgo hlen
      cases hb1 : textB l' false with
      | true =>
        rw [hb1] at hr
        have hn0 : 0 ≤ n := by omega
        have hst : takeTags K l0 false = (ts ++ [tx l'], textL l', true) := by
          rw [HGO.out, hb1, takeTags_stop (.inr rfl)]
          simp
        have HST := Go.Lib.hid hst
        have hsz : ∀ x ∈ ts.take 7, x.size ≤ maxLen := fun x hx => HSZ.out x (List.mem_of_mem_take hx)
        have HZ := Go.Lib.hid hsz
        clear hb1 hst hsz HGO HQ
        go_wp2_with fail
        refine (bad_any g _ _ v1 hr).mono ?_
        rintro e w' ⟨rfl, rfl⟩
        go_wp2_with fail
        refine (bad_any g _ _ v1 hr).mono ?_
        rintro e w' ⟨rfl, rfl⟩
        go_wp2_with fail
        go_ret2
        exact ⟨gr1, ts ++ [tx l'], textL l', true, A, m, cap, ts.take 7, _, HST, Go.Lib.hid (by simp), rfl, hr, ow1, Go.Lib.hid (fun h => by cases h), HZ⟩
      | false =>
        rw [hb1] at hr HGO
        clear hb1 HQ
        have hsz2 : ∀ x ∈ ts ++ [tx l'], x.size ≤ maxLen := by
          intro x hx
          rcases List.mem_append.1 hx with hx | hx
          · exact HSZ.out x hx
          · rw [List.mem_singleton.1 hx]
            exact HT.out
        have HSZ2 := Go.Lib.hid hsz2
        clear hsz2
        go_wp2_with fail
        refine (bad_any g _ _ v1 hr).mono ?_
        rintro e w' ⟨rfl, rfl⟩
        by_cases h6 : j ≤ 6
        · obtain rfl : m = j := by have := HM.out; omega
          have i1 : (m : Int) ≤ 6 := by omega
          have htk : ts.take 7 = ts := List.take_of_length_le (by rw [HLEN.out]; omega)
          have htk2 : (ts ++ [tx l']).take 7 = ts ++ [tx l'] := List.take_of_length_le (by rw [List.length_append, HLEN.out]; simp; omega)
          rw [htk] at ow1
          have HTK2 := Go.Lib.hid htk2
          have al : Below v1.heap.size v1 (v1.alloc (.cells #[.string ⟨(textV l').toArray⟩] 9)) := (Below.refl _ _).alloc (Nat.le_refl _) _
          have d1 : RdC 1 (v1.alloc (.cells #[.string ⟨(textV l').toArray⟩] 9)) (some ⟨v1.heap.size, 0, none⟩) 1 1 (MemRow.strs [tx l']) := RdC.new v1 9 (MemRow.strs [tx l']) rfl (by decide)
          have ow2 := OwnC.below ow1 al
          have big : w.heap.size ≤ (v1.alloc (.cells #[.string ⟨(textV l').toArray⟩] 9)).heap.size := Nat.le_trans gr1.size al.size
          have h63 : m + 1 ≤ maxLen := by unfold maxLen; omega
          have hsz : (m + 1) * 16 ≤ 140737488355328 := by omega
          have rd2 := hr.below al
          clear htk htk2
          go_wp2_with (at_builtin; refine wpList_append_cells rfl (.tmp 24) (.tmp 26) 61 rfl 9 (.string ByteArray.empty) 16 Tryz.underlying61 string_info rfl (by decide) rfl rfl ow2 d1 (strs_one [tx l']) h63 hsz big ?_; intro T8 c8 w8 o8 g8 _)
          go_roundw
          case rel =>
            have low := fun r e => row_low ow2 (r := r) e
            refine ⟨m + 1, T8, m + 1, c8, ts ++ [tx l'], textL l', by omega, by go_num, rfl, Go.Lib.hid ⟨HGO.out, by rw [List.length_append, HLEN.out]; rfl⟩, Go.Lib.hid (by omega), ?_, rdr_apart rd2 g8 (fun r e => by have := low r e; omega), gr_step (gr_step gr1 (row := none) ⟨al.os, al.tape, al.output, al.size, fun k hk _ => al.block k hk⟩ (fun r e => by cases e)) g8 (fun r e => low r e), HSZ2⟩
            rw [HTK2.out, strs_append]
            exact o8
          case measure => simp [intOf]; omega
        · obtain rfl : m = 7 := by have := HM.out; omega
          have i1 : ¬ (7 : Int) ≤ 6 := by omega
          have htk : (ts ++ [tx l']).take 7 = ts.take 7 := List.take_append_of_le_length (by rw [HLEN.out]; omega)
          have HTK := Go.Lib.hid htk
          clear htk
          go_wp2_with fail
          go_roundw
          case rel =>
            refine ⟨j + 1, A, 7, cap, ts ++ [tx l'], textL l', by omega, by go_num, rfl, Go.Lib.hid ⟨HGO.out, by rw [List.length_append, HLEN.out]; rfl⟩, Go.Lib.hid (by omega), ?_, hr, gr1, HSZ2⟩
            rw [HTK.out]
            exact ow1
          case measure => simp [intOf]; omega
    · have hst : takeTags K l0 b0 = (ts, l', b0) := by
        have hKj : K - j = 0 := by have := HK.out; omega
        rw [HQ.out.1, hKj, takeTags_stop (.inl rfl)]
        simp
      have HST := Go.Lib.hid hst
      have hsz : ∀ x ∈ ts.take 7, x.size ≤ maxLen := fun x hx => HSZ.out x (List.mem_of_mem_take hx)
      have HZ := Go.Lib.hid hsz
      clear hst hsz HQ
      by_cases hn0 : 0 ≤ n
      · go_wp2_with fail
        refine (bad_any g _ _ wr rd).mono ?_
        rintro e w' ⟨rfl, rfl⟩
        go_wp2_with fail
        go_ret2
        exact ⟨gr, ts, l', b0, A, m, cap, ts.take 7, _, HST, Go.Lib.hid (by rw [decide_eq_true (by omega)]; rfl), rfl, rd, ow, Go.Lib.hid (fun _ => rfl), HZ⟩
      · go_wp2_with fail
        go_ret2
        exact ⟨gr, ts, l', b0, A, m, cap, ts.take 7, _, HST, Go.Lib.hid (by rw [decide_eq_false (by omega)]; rfl), rfl, rd, ow, Go.Lib.hid (fun _ => rfl), HZ⟩
end Go.Proofs.YtppidbdkejkopaaGreatDoor.EdWalk
namespace Go.Proofs.YtppidbdkejkopaaGreatDoor.EdWalk
open Go.RowKit MemRow Ev NameMath NameWalk EvWalk NumMath NumMem NumWalk EcWalk
set_option maxHeartbeats 4000000 in
set_option maxRecDepth 100000 in
theorem item_any (bx g : Nat) (l : List UInt8) (b : Bool) (w : World) (hc : w.cell? ⟨bx, 0, none⟩ = some (.pointer (some ⟨g, 0, none⟩))) (h : Rdr w 161 g l b) (hne : bx ≠ g) :
    Calls Tryz.prog 187 #[.pointer (some ⟨bx, 0, none⟩)] w fun e w' => e = .returned (.agg #[.string (tx l), .int .i64 (numV (textL l))]) ∧ Rdr w' 161 g (numL (textL l)) (numB (textL l) (textB l b)) ∧ w.grownBy w' (some g) := by
  have gw := h.lt
  have al : Below w.heap.size w (w.alloc (.cells #[.string ⟨#[]⟩, .int .i64 0] 132)) := (Below.refl _ _).alloc (Nat.le_refl _) _
  have f1 : FldAt (w.alloc (.cells #[.string ⟨#[]⟩, .int .i64 0] 132)) w.heap.size (⟨#[]⟩, 0) := heap_alloc_new w _
  have c1 := bcell al hc
  have r1 := h.below al
  have g1 : w.grownBy (w.alloc (.cells #[.string ⟨#[]⟩, .int .i64 0] 132)) (some g) := ⟨al.os, al.tape, al.output, al.size, fun k hk _ => al.block k hk⟩
  clear h al
  go_enter Tryz.func187, Tryz.ntmps187
  go_upto_region 1 with (fail)
  generalize w.alloc (.cells #[.string ⟨#[]⟩, .int .i64 0] 132) = w1 at *
  go_wp2_with fail
  refine (text_any g l b w1 r1).mono ?_
  rintro e w2 ⟨rfl, r2, gg⟩
  have c2 : w2.cell? ⟨bx, 0, none⟩ = _ := gg.cell c1 (by simpa using hne)
  have g2 := gr_step' g1 gg
  have f2 : FldAt w2 w.heap.size (⟨#[]⟩, 0) := (gg.block _ f1.lt (by simp; omega)).trans f1
  clear r1 gg c1 g1 f1
  go_wp2_with fail
  refine (num_any g _ _ w2 r2).mono ?_
  rintro e w3 ⟨rfl, r3, gg⟩
  have g3 := gr_step' g2 gg
  have f3 : FldAt w3 w.heap.size (⟨#[]⟩, 0) := (gg.block _ f2.lt (by simp; omega)).trans f2
  have k0 := f3.c0
  have k1 := f3.c1
  have z0 := f3.frozen 0
  have z1 := f3.frozen 1
  have f4 := f3.set (tx l) (numV (textL l))
  have s0 := grown_set w3 w.heap.size 0 (.string (tx l))
  have s1 := grown_set (w3.setCell ⟨w.heap.size, 0, none⟩ (.string (tx l))) w.heap.size 1 (.int .i64 (numV (textL l)))
  have r4 := rdr_apart (rdr_apart r3 s0 (fun r e => by injection e; omega)) s1 (fun r e => by injection e; omega)
  have g4 := gr_step (gr_step g3 s0 (fun r e => by injection e; omega)) s1 (fun r e => by injection e; omega)
  have R4 := Go.Lib.hid r4
  have G4 := Go.Lib.hid g4
  have F4 := Go.Lib.hid f4
  clear r2 gg g2 f2 r3 g3 f3 f4 s0 s1 r4 g4 c2
  go_wp2_with fail
  have hset : (w3.setCell ⟨w.heap.size, 0, none⟩ (.string ⟨(textV l).toArray⟩)).setCell ⟨w.heap.size, 1, none⟩ (.int .i64 (numV (textL l))) = (w3.setCell ⟨w.heap.size, 0, none⟩ (.string (tx l))).setCell ⟨w.heap.size, 1, none⟩ (.int .i64 (numV (textL l))) := rfl
  rw [hset]
  have f5 := F4.out
  have r5 := R4.out
  have g5 := G4.out
  clear F4 R4 G4 hset k0 k1 z0 z1
  generalize (w3.setCell ⟨w.heap.size, 0, none⟩ (.string (tx l))).setCell ⟨w.heap.size, 1, none⟩ (.int .i64 (numV (textL l))) = w4 at *
  have q0 := f5.c0
  have q1 := f5.c1
  exact bodyPost_ret (v := .agg #[.string (tx l), .int .i64 (numV (textL l))]) (by simp [results, Tryz.results187, go_sem, q0, q1]) rfl ⟨rfl, r5, g5⟩
def ListF (n : Int) (K : Nat) (l0 : List UInt8) (b0 : Bool) (g : Nat) (w : World) (e : Ending) (w' : World) : Prop :=
  w.grownBy w' (some g) ∧ ∃ (ts : List (ByteArray × Int)) (l' : List UInt8) (b' : Bool) (A : Option Addr) (m cap : Nat) (us : List (ByteArray × Int)) (ok : Bool), Hid (takeFlds K l0 b0 = (ts, l', b')) ∧ Hid (ok = (decide (0 ≤ n) && !b')) ∧ e = .returned (.tuple #[.slice A m cap, .bool ok]) ∧ Rdr w' 161 g l' b' ∧ OwnC 2 w' w.heap.size 132 A m cap (flds us) ∧ Hid (b' = false → us = ts.take 5) ∧ Hid (∀ x ∈ us, x.1.size ≤ maxLen ∧ -9223372036854775808 ≤ x.2 ∧ x.2 ≤ 9223372036854775807)
set_option maxHeartbeats 4000000 in
set_option maxRecDepth 100000 in
theorem listF_any (g : Nat) (l : List UInt8) (b : Bool) (w : World) (h : Rdr w 161 g l b) (hd : Dry l b) (bx : Nat) (hc : w.cell? ⟨bx, 0, none⟩ = some (.pointer (some ⟨g, 0, none⟩))) (hne : bx ≠ g) :
    Calls Tryz.prog 186 #[.pointer (some ⟨g, 0, none⟩), .int .i64 4, .func (.func 187) #[] #[.pointer (some ⟨bx, 0, none⟩)]] w fun e w' => ListF (numV l) (numV l).toNat (numL l) (numB l b) g w e w' := by
  have gw := h.lt
  have hgood := hd.good
  have hrange := numV_range l
  generalize hn : numV l = n at *
  generalize hl0 : numL l = l0 at *
  generalize hb0 : numB l b = b0 at *
  obtain ⟨K, hK⟩ : ∃ K, K = n.toNat := ⟨_, rfl⟩
  rw [← hK]
  have HK := Go.Lib.hid hK
  have HN := Go.Lib.hid hn
  have HL0 := Go.Lib.hid hl0
  have HB0 := Go.Lib.hid hb0
  clear hK hn hl0 hb0
  go_enter Tryz.func186, Tryz.ntmps186
  go_wp2_with fail
  refine (num_any g l b w h).mono ?_
  rintro e w1 ⟨rfl, r1, g1⟩
  clear h
  rw [HN.out]
  rw [HL0.out, HB0.out] at r1
  go_wp2_with fail
  go_loopw [8, 10, 14] (fun lv _ i wr => ∃ (j : Nat) (A : Option Addr) (m cap : Nat) (ts : List (ByteArray × Int)) (l' : List UInt8), j ≤ K ∧ i = .int .i64 j ∧ lv = .slice A m cap ∧ Hid (takeFlds K l0 b0 = (ts ++ (takeFlds (K - j) l' b0).1, (takeFlds (K - j) l' b0).2) ∧ ts.length = j) ∧ Hid (m = min j 5) ∧ OwnC 2 wr w.heap.size 132 A m cap (flds (ts.take 5)) ∧ Rdr wr 161 g l' b0 ∧ w.grownBy wr (some g) ∧ Hid (∀ x ∈ ts, x.1.size ≤ maxLen ∧ -9223372036854775808 ≤ x.2 ∧ x.2 ≤ 9223372036854775807)) (fun _ _ i _ => K - (intOf i).toNat)
  case atStart => exact ⟨0, none, 0, 0, [], l0, Nat.zero_le _, rfl, rfl, Go.Lib.hid (by simp), Go.Lib.hid rfl, OwnC.nil _ _, r1, g1, Go.Lib.hid (by simp)⟩
  case round =>
    obtain ⟨j, A, m, cap, ts, l', hj, rfl, rfl, HQ, HM, ow, rd, gr, HSZ⟩ := hrel
    clear r1 g1
    by_cases hlt : (j : Int) < n
    · obtain rfl : b0 = false := hgood (by omega)
      go_wp2_with fail
      refine (item_any bx g l' false wr (gr.cell hc (by simpa using hne)) rd hne).mono ?_
      rintro e v0 ⟨rfl, hr0, hg⟩
      have ow0 := own_off ow hg gw
      have gr0 := gr_step' gr hg
      have HT := Go.Lib.hid (tx_small rd)
      have HNV := Go.Lib.hid (numV_range (textL l'))
      go_upto_region 6 with (fail)
      have a1 : Below v0.heap.size v0 (v0.alloc (.cells #[.string (tx l'), .int .i64 (numV (textL l'))] 132)) := (Below.refl _ _).alloc (Nat.le_refl _) _
      have f1 : FldAt (v0.alloc (.cells #[.string (tx l'), .int .i64 (numV (textL l'))] 132)) v0.heap.size (tx l', numV (textL l')) := heap_alloc_new v0 _
      have hr := hr0.below a1
      have ow1 := OwnC.below ow0 a1
      have gr1 := gr_step gr0 (row := none) ⟨a1.os, a1.tape, a1.output, a1.size, fun k hk _ => a1.block k hk⟩ (fun r e => by cases e)
      generalize v0.alloc (.cells #[.string (tx l'), .int .i64 (numV (textL l'))] 132) = v1 at *
      have q0 := f1.c0
      have q1 := f1.c1
      simp only at q0 q1
      have hjK : j + 1 ≤ K := by have := HK.out; omega
      have hKj : K - j = K - (j + 1) + 1 := by omega
      have HKJ := Go.Lib.hid hKj
      have hgo : takeFlds K l0 false = ((ts ++ [(tx l', numV (textL l'))]) ++ (takeFlds (K - (j + 1)) (numL (textL l')) (numB (textL l') (textB l' false))).1, (takeFlds (K - (j + 1)) (numL (textL l')) (numB (textL l') (textB l' false))).2) := by
        rw [HQ.out.1, HKJ.out, takeFlds_go]
        simp
      have HGO := Go.Lib.hid hgo
      have hlen := HQ.out.2
      have HLEN := Go.Lib.hid hlen
      clear ow rd gr hg hKj hgo hlen ow0 gr0 a1 f1 hr0
      cases hb1 : numB (textL l') (textB l' false) with
      | true =>
        rw [hb1] at hr
        have hn0 : 0 ≤ n := by omega
        have hst : takeFlds K l0 false = (ts ++ [(tx l', numV (textL l'))], numL (textL l'), true) := by
          rw [HGO.out, hb1, takeFlds_stop (.inr rfl)]
          simp
        have HST := Go.Lib.hid hst
        have hsz : ∀ x ∈ ts.take 5, x.1.size ≤ maxLen ∧ -9223372036854775808 ≤ x.2 ∧ x.2 ≤ 9223372036854775807 := fun x hx => HSZ.out x (List.mem_of_mem_take hx)
        have HZ := Go.Lib.hid hsz
        clear hb1 hst hsz HGO HQ
        go_wp2_with fail
        refine (bad_any g _ _ v1 hr).mono ?_
        rintro e w' ⟨rfl, rfl⟩
        go_wp2_with fail
        refine (bad_any g _ _ v1 hr).mono ?_
        rintro e w' ⟨rfl, rfl⟩
        go_wp2_with fail
        go_ret2
        exact ⟨gr1, ts ++ [(tx l', numV (textL l'))], numL (textL l'), true, A, m, cap, ts.take 5, _, HST, Go.Lib.hid (by simp), rfl, hr, ow1, Go.Lib.hid (fun h => by cases h), HZ⟩
      | false =>
        rw [hb1] at hr HGO
        clear hb1 HQ
        have hsz2 : ∀ x ∈ ts ++ [(tx l', numV (textL l'))], x.1.size ≤ maxLen ∧ -9223372036854775808 ≤ x.2 ∧ x.2 ≤ 9223372036854775807 := by
          intro x hx
          rcases List.mem_append.1 hx with hx | hx
          · exact HSZ.out x hx
          · rw [List.mem_singleton.1 hx]
            exact ⟨HT.out, HNV.out⟩
        have HSZ2 := Go.Lib.hid hsz2
        clear hsz2
        go_wp2_with fail
        refine (bad_any g _ _ v1 hr).mono ?_
        rintro e w' ⟨rfl, rfl⟩
        by_cases h6 : j ≤ 4
        · obtain rfl : m = j := by have := HM.out; omega
          have i1 : (m : Int) ≤ 4 := by omega
          have htk : ts.take 5 = ts := List.take_of_length_le (by rw [HLEN.out]; omega)
          have htk2 : (ts ++ [(tx l', numV (textL l'))]).take 5 = ts ++ [(tx l', numV (textL l'))] := List.take_of_length_le (by rw [List.length_append, HLEN.out]; simp; omega)
          rw [htk] at ow1
          have HTK2 := Go.Lib.hid htk2
          have al : Below v1.heap.size v1 (v1.alloc (.cells #[.string (tx l'), .int .i64 (numV (textL l'))] 132)) := (Below.refl _ _).alloc (Nat.le_refl _) _
          have d1 : RdC 2 (v1.alloc (.cells #[.string (tx l'), .int .i64 (numV (textL l'))] 132)) (some ⟨v1.heap.size, 0, none⟩) 1 1 (flds [(tx l', numV (textL l'))]) := RdC.new v1 132 (flds [(tx l', numV (textL l'))]) rfl (by decide)
          have ow2 := OwnC.below ow1 al
          have big : w.heap.size ≤ (v1.alloc (.cells #[.string (tx l'), .int .i64 (numV (textL l'))] 132)).heap.size := Nat.le_trans gr1.size al.size
          have h63 : m + 1 ≤ maxLen := by unfold maxLen; omega
          have hsz : (m + 1) * 24 ≤ 140737488355328 := by omega
          have rd2 := hr.below al
          clear htk htk2
          go_wp2_with (at_builtin; refine wpList_append_cells rfl (.tmp 24) (.tmp 26) 67 rfl 132 (.agg #[.string ⟨#[]⟩, .int .i64 0]) 24 Tryz.underlying67 field_info rfl (by decide) rfl rfl ow2 d1 (flds_one [(tx l', numV (textL l'))]) h63 hsz big ?_; intro T8 c8 w8 o8 g8 _)
          go_roundw
          case rel =>
            have low := fun r e => row_low ow2 (r := r) e
            refine ⟨m + 1, T8, m + 1, c8, ts ++ [(tx l', numV (textL l'))], numL (textL l'), by omega, by go_num, rfl, Go.Lib.hid ⟨HGO.out, by rw [List.length_append, HLEN.out]; rfl⟩, Go.Lib.hid (by omega), ?_, rdr_apart rd2 g8 (fun r e => by have := low r e; omega), gr_step (gr_step gr1 (row := none) ⟨al.os, al.tape, al.output, al.size, fun k hk _ => al.block k hk⟩ (fun r e => by cases e)) g8 (fun r e => low r e), HSZ2⟩
            rw [HTK2.out, flds_append]
            exact o8
          case measure => simp [intOf]; omega
        · obtain rfl : m = 5 := by have := HM.out; omega
          have i1 : ¬ (5 : Int) ≤ 4 := by omega
          have htk : (ts ++ [(tx l', numV (textL l'))]).take 5 = ts.take 5 := List.take_append_of_le_length (by rw [HLEN.out]; omega)
          have HTK := Go.Lib.hid htk
          clear htk
          go_wp2_with fail
          go_roundw
          case rel =>
            refine ⟨j + 1, A, 5, cap, ts ++ [(tx l', numV (textL l'))], numL (textL l'), by omega, by go_num, rfl, Go.Lib.hid ⟨HGO.out, by rw [List.length_append, HLEN.out]; rfl⟩, Go.Lib.hid (by omega), ?_, hr, gr1, HSZ2⟩
            rw [HTK.out]
            exact ow1
          case measure => simp [intOf]; omega
    · have hst : takeFlds K l0 b0 = (ts, l', b0) := by
        have hKj : K - j = 0 := by have := HK.out; omega
        rw [HQ.out.1, hKj, takeFlds_stop (.inl rfl)]
        simp
      have HST := Go.Lib.hid hst
      have hsz : ∀ x ∈ ts.take 5, x.1.size ≤ maxLen ∧ -9223372036854775808 ≤ x.2 ∧ x.2 ≤ 9223372036854775807 := fun x hx => HSZ.out x (List.mem_of_mem_take hx)
      have HZ := Go.Lib.hid hsz
      clear hst hsz HQ
      by_cases hn0 : 0 ≤ n
      · go_wp2_with fail
        refine (bad_any g _ _ wr rd).mono ?_
        rintro e w' ⟨rfl, rfl⟩
        go_wp2_with fail
        go_ret2
        exact ⟨gr, ts, l', b0, A, m, cap, ts.take 5, _, HST, Go.Lib.hid (by rw [decide_eq_true (by omega)]; rfl), rfl, rd, ow, Go.Lib.hid (fun _ => rfl), HZ⟩
      · go_wp2_with fail
        go_ret2
        exact ⟨gr, ts, l', b0, A, m, cap, ts.take 5, _, HST, Go.Lib.hid (by rw [decide_eq_false (by omega)]; rfl), rfl, rd, ow, Go.Lib.hid (fun _ => rfl), HZ⟩
end Go.Proofs.YtppidbdkejkopaaGreatDoor.EdWalk
namespace Go.Proofs.YtppidbdkejkopaaGreatDoor.EdWalk
open Go.RowKit MemRow Ev NameMath NameWalk EvWalk NumMath NumMem NumWalk EcWalk
def decC (l : List UInt8) : Option (Ev × List UInt8) :=
  let l2 := textL (textL l)
  let tg := takeTags (numV l2).toNat (numL l2) (numB l2 (textB (textL l) (textB l false)))
  let l4 := tg.2.1
  let fl := takeFlds (numV l4).toNat (numL l4) (numB l4 tg.2.2)
  if numV l2 < 0 ∨ tg.2.2 = true then none
  else if numV l4 < 0 ∨ fl.2.2 = true then none
  else some (⟨tx l, tx (textL l), tg.1.take 7, fl.1.take 5⟩, fl.2.1)
theorem takeTags_len : ∀ (k : Nat) (l : List UInt8) (b : Bool), (takeTags k l b).2.2 = false → (takeTags k l b).1.length = k
  | 0, l, b, _ => rfl
  | k + 1, l, b, h => by
    unfold takeTags at h ⊢
    split
    · next hb => rw [if_pos hb] at h; rw [hb] at h; cases h
    · next hb =>
      rw [if_neg hb] at h
      simp only [List.length_cons]
      rw [takeTags_len k _ _ h]
theorem takeFlds_len : ∀ (k : Nat) (l : List UInt8) (b : Bool), (takeFlds k l b).2.2 = false → (takeFlds k l b).1.length = k
  | 0, l, b, _ => rfl
  | k + 1, l, b, h => by
    unfold takeFlds at h ⊢
    split
    · next hb => rw [if_pos hb] at h; rw [hb] at h; cases h
    · next hb =>
      rw [if_neg hb] at h
      simp only [List.length_cons]
      rw [takeFlds_len k _ _ h]
theorem numB_true (l : List UInt8) : numB l true = true := by unfold numB; split <;> rfl
theorem takeE_decC (l : List UInt8) : takeE l false = (decC l).bind fun p => if mayE p.1 = 0 then some p else none := by
  unfold takeE decC
  simp only
  generalize hl2 : textL (textL l) = l2
  generalize numB l2 (textB (textL l) (textB l false)) = b3
  by_cases hn0 : numV l2 < 0
  · rw [if_pos (.inl hn0), if_pos (.inl hn0)]
    rfl
  by_cases hn6 : 6 < numV l2
  · rw [if_pos (.inr hn6)]
    cases hb : (takeTags (numV l2).toNat (numL l2) b3).2.2 with
    | true => rw [if_pos (.inr rfl)]; rfl
    | false =>
      have hlen := takeTags_len _ _ _ hb
      have c1 : ¬ (numV l2 < 0 ∨ false = true) := by rintro (h | h); exact hn0 h; cases h
      rw [if_neg c1]
      split
      · rfl
      · simp only [Option.bind_some]
        rw [if_neg]
        intro hm
        have := (may_smallE hm).nt
        simp only [List.length_take] at this
        omega
  · rw [if_neg (by omega)]
    have hk : (min (numV l2) 7).toNat = (numV l2).toNat := by omega
    rw [hk]
    have hle : (numV l2).toNat ≤ 6 := by omega
    generalize (numV l2).toNat = K at *
    cases hb : (takeTags K (numL l2) b3).2.2 with
    | true =>
      have c1 : numV l2 < 0 ∨ true = true := .inr rfl
      rw [if_pos c1, numB_true, takeFlds_stop (.inr rfl)]
      have c2 : ∀ P : Prop, numV (takeTags K (numL l2) b3).2.1 < 0 ∨ true = true ∨ P := fun P => .inr (.inl rfl)
      rw [if_pos (c2 _)]
      rfl
    | false =>
      have hlen := takeTags_len _ _ _ hb
      have c1 : ¬ (numV l2 < 0 ∨ false = true) := by rintro (h | h); exact hn0 h; cases h
      rw [if_neg c1, List.take_of_length_le (by omega)]
      generalize (takeTags K (numL l2) b3).1 = ts
      generalize (takeTags K (numL l2) b3).2.1 = l4
      by_cases hm0 : numV l4 < 0
      · have c1 : ∀ P : Prop, numV l4 < 0 ∨ P := fun P => .inl hm0
        rw [if_pos (c1 _), if_pos (c1 _)]
        rfl
      by_cases hm4 : 4 < numV l4
      · have hk5 : (min (numV l4) 5).toNat = 5 := by omega
        rw [hk5]
        have h1 : (if numV l4 < 0 ∨ (takeFlds 5 (numL l4) (numB l4 false)).2.2 = true ∨ mayE ⟨tx l, tx (textL l), ts, (takeFlds 5 (numL l4) (numB l4 false)).1⟩ ≠ 0 then none else some (⟨tx l, tx (textL l), ts, (takeFlds 5 (numL l4) (numB l4 false)).1⟩, (takeFlds 5 (numL l4) (numB l4 false)).2.1)) = (none : Option (Ev × List UInt8)) := by
          cases hb5 : (takeFlds 5 (numL l4) (numB l4 false)).2.2 with
          | true =>
            have c1 : ∀ P : Prop, numV l4 < 0 ∨ true = true ∨ P := fun P => .inr (.inl rfl)
            rw [if_pos (c1 _)]
          | false =>
            have hl5 := takeFlds_len _ _ _ hb5
            rw [if_pos]
            refine .inr (.inr fun hm => ?_)
            have := (may_smallE hm).nf
            simp only at this
            omega
        rw [h1]
        cases hbm : (takeFlds (numV l4).toNat (numL l4) (numB l4 false)).2.2 with
        | true =>
          have c1 : numV l4 < 0 ∨ true = true := .inr rfl
          rw [if_pos c1]
          rfl
        | false =>
          have hlm := takeFlds_len _ _ _ hbm
          have c1 : ¬ (numV l4 < 0 ∨ false = true) := by rintro (h | h); exact hm0 h; cases h
          rw [if_neg c1]
          simp only [Option.bind_some]
          rw [if_neg]
          intro hm
          have := (may_smallE hm).nf
          simp only [List.length_take] at this
          omega
      · have hk5 : (min (numV l4) 5).toNat = (numV l4).toNat := by omega
        rw [hk5]
        cases hbm : (takeFlds (numV l4).toNat (numL l4) (numB l4 false)).2.2 with
        | true =>
          have c1 : ∀ P : Prop, numV l4 < 0 ∨ true = true ∨ P := fun P => .inr (.inl rfl)
          have c2 : numV l4 < 0 ∨ true = true := .inr rfl
          rw [if_pos (c1 _), if_pos c2]
          rfl
        | false =>
          have hlm := takeFlds_len _ _ _ hbm
          have c1 : ¬ (numV l4 < 0 ∨ false = true) := by rintro (h | h); exact hm0 h; cases h
          rw [if_neg c1, List.take_of_length_le (by omega)]
          simp only [Option.bind_some]
          by_cases h0 : mayE ⟨tx l, tx (textL l), ts, (takeFlds (numV l4).toNat (numL l4) (numB l4 false)).1⟩ = 0
          · rw [if_pos h0, if_neg]
            rintro (h | h | h)
            · exact hm0 h
            · cases h
            · exact h h0
          · rw [if_neg h0, if_pos (.inr (.inr h0))]
end Go.Proofs.YtppidbdkejkopaaGreatDoor.EdWalk
namespace Go.Proofs.YtppidbdkejkopaaGreatDoor.EdWalk
open Go.RowKit MemRow Ev NameMath NameWalk EvWalk NumMath NumMem NumWalk EcWalk
structure DecAt (wr w : World) (g : Nat) (l : List UInt8) (b : Bool) (gr ge : Nat) (s t : ByteArray) (T : Option Addr) (nT cT : Nat) (ts : List ByteArray) (F : Option Addr) (nF cF : Nat) (fs : List (ByteArray × Int)) : Prop where
  rd : Rdr wr 161 g l b
  bx : wr.cell? ⟨w.heap.size, 0, none⟩ = some (.pointer (some ⟨g, 0, none⟩))
  res : EvAt wr gr (.string ⟨#[]⟩) (.string ⟨#[]⟩) (.slice none 0 0) (.slice none 0 0)
  ev : EvAt wr ge (.string s) (.string t) (.slice T nT cT) (.slice F nF cF)
  tt : OwnC 1 wr (ge + 1) 9 T nT cT (MemRow.strs ts)
  ff : OwnC 2 wr (ge + 1) 132 F nF cF (flds fs)
  gg : w.grownBy wr (some g)
  gw : g < w.heap.size
  w1 : w.heap.size < gr
  w2 : gr < ge
section
variable {wr w w' : World} {g gr ge nT cT nF cF : Nat} {l l' : List UInt8} {b b' : Bool} {s t : ByteArray} {T F : Option Addr} {ts : List ByteArray} {fs : List (ByteArray × Int)}
theorem DecAt.read (h : DecAt wr w g l b gr ge s t T nT cT ts F nF cF fs) (hr : Rdr w' 161 g l' b') (hg : wr.grownBy w' (some g)) : DecAt w' w g l' b' gr ge s t T nT cT ts F nF cF fs := by
  have gw := h.gw
  have w1 := h.w1
  have w2 := h.w2
  exact ⟨hr, hg.cell h.bx (by simp; omega), h.res.grown hg (by simp; omega), h.ev.grown hg (by simp; omega), own_off h.tt hg (by omega), own_off h.ff hg (by omega), gr_step' h.gg hg, gw, w1, w2⟩
theorem ev_set0 {w : World} {g : Nat} {v0 v1 v2 v3 : Value} (h : EvAt w g v0 v1 v2 v3) (x : Value) : EvAt (w.setCell ⟨g, 0, none⟩ x) g x v1 v2 v3 := by
  unfold EvAt at h ⊢
  simp only [World.setCell, Array.getElem?_modify, h]
  rfl
theorem DecAt.set (h : DecAt wr w g l b gr ge s t T nT cT ts F nF cF fs) (i : Nat) (x : Value) {s' t' : ByteArray} {T' : Option Addr} {nT' cT' : Nat} {ts' : List ByteArray} {F' : Option Addr} {nF' cF' : Nat} {fs' : List (ByteArray × Int)}
    (he : EvAt (wr.setCell ⟨ge, i, none⟩ x) ge (.string s') (.string t') (.slice T' nT' cT') (.slice F' nF' cF')) (ht : OwnC 1 wr (ge + 1) 9 T' nT' cT' (MemRow.strs ts')) (hf : OwnC 2 wr (ge + 1) 132 F' nF' cF' (flds fs')) :
    DecAt (wr.setCell ⟨ge, i, none⟩ x) w g l b gr ge s' t' T' nT' cT' ts' F' nF' cF' fs' := by
  have gw := h.gw
  have w1 := h.w1
  have w2 := h.w2
  have hs := grown_set wr ge i x
  exact ⟨rdr_apart h.rd hs (fun r e => by injection e; omega), hs.cell h.bx (by simp; omega), h.res.far (by omega) _, he, own_away ht (by omega) _, own_away hf (by omega) _, gr_step h.gg hs (fun r e => by injection e; omega), gw, w1, w2⟩
theorem DecAt.fin (h : DecAt wr w g l b gr ge s t T nT cT ts F nF cF fs) (x0 x1 x2 x3 : Value) (w9 : World) (h9 : w9 = (((wr.setCell ⟨gr, 0, none⟩ x0).setCell ⟨gr, 1, none⟩ x1).setCell ⟨gr, 2, none⟩ x2).setCell ⟨gr, 3, none⟩ x3) :
    EvAt w9 gr x0 x1 x2 x3 ∧ Rdr w9 161 g l b ∧ w.grownBy w9 (some g) ∧ OwnC 1 w9 (ge + 1) 9 T nT cT (MemRow.strs ts) ∧ OwnC 2 w9 (ge + 1) 132 F nF cF (flds fs) := by
  subst h9
  have gw := h.gw
  have w1 := h.w1
  have w2 := h.w2
  have e := h.res.all x0 x1 x2 x3
  refine ⟨e, ?_, ?_, ?_, ?_⟩
  · exact rdr_apart (rdr_apart (rdr_apart (rdr_apart h.rd (grown_set _ _ _ _) (fun r e => by injection e; omega)) (grown_set _ _ _ _) (fun r e => by injection e; omega)) (grown_set _ _ _ _) (fun r e => by injection e; omega)) (grown_set _ _ _ _) (fun r e => by injection e; omega)
  · exact gr_step (gr_step (gr_step (gr_step h.gg (grown_set _ _ _ _) (fun r e => by injection e; omega)) (grown_set _ _ _ _) (fun r e => by injection e; omega)) (grown_set _ _ _ _) (fun r e => by injection e; omega)) (grown_set _ _ _ _) (fun r e => by injection e; omega)
  · exact own_away (own_away (own_away (own_away h.tt (by omega) _) (by omega) _) (by omega) _) (by omega) _
  · exact own_away (own_away (own_away (own_away h.ff (by omega) _) (by omega) _) (by omega) _) (by omega) _
end
def DecOut (l : List UInt8) (g : Nat) (w : World) (e : Ending) (w' : World) : Prop :=
  w.grownBy w' (some g) ∧ ∃ (s t : ByteArray) (T : Option Addr) (nT cT : Nat) (F : Option Addr) (nF cF : Nat) (ok : Bool) (l' : List UInt8) (b' : Bool),
    e = .returned (.tuple #[.agg #[.string s, .string t, .slice T nT cT, .slice F nF cF], .bool ok]) ∧ Rdr w' 161 g l' b' ∧ Hid (ok = false → decC l = none) ∧
    Hid (ok = true → b' = false ∧ ∃ ts fs, decC l = some (⟨s, t, ts, fs⟩, l') ∧ OwnC 1 w' w.heap.size 9 T nT cT (MemRow.strs ts) ∧ OwnC 2 w' w.heap.size 132 F nF cF (flds fs) ∧ EvOk ⟨s, t, ts, fs⟩)
set_option maxHeartbeats 4000000 in
set_option maxRecDepth 100000 in
theorem decode5_any (g : Nat) (l : List UInt8) (w : World) (h : Rdr w 161 g l false) :
    Calls Tryz.prog 168 #[.pointer (some ⟨g, 0, none⟩)] w fun e w' => DecOut l g w e w' := by
  have gw := h.lt
  have HS0 := Go.Lib.hid (tx_small h)
  have D0 : Dry l false := fun h => by cases h
  have b1 : Below w.heap.size w (w.alloc (.cells #[.pointer (some ⟨g, 0, none⟩)] 136)) := (Below.refl _ _).alloc (Nat.le_refl _) _
  have k1 := box_cell w (.pointer (some ⟨g, 0, none⟩)) 136
  have s1 : (w.alloc (.cells #[.pointer (some ⟨g, 0, none⟩)] 136)).heap.size = w.heap.size + 1 := by simp
  have h1 := h.below b1
  go_enter Tryz.func168, Tryz.ntmps168
  go_upto_region 0 with (fail)
  have g1 : w.grownBy (w.alloc (.cells #[.pointer (some ⟨g, 0, none⟩)] 136)) (some g) := ⟨b1.os, b1.tape, b1.output, b1.size, fun k hk _ => b1.block k hk⟩
  go_upto_region 1 with (fail)
  generalize w.alloc (.cells #[.pointer (some ⟨g, 0, none⟩)] 136) = w1 at *
  have e2 := EvAt.new w1 (.string ⟨#[]⟩) (.string ⟨#[]⟩) (.slice none 0 0) (.slice none 0 0)
  have b2 : Below w1.heap.size w1 (w1.alloc (.cells #[.string ⟨#[]⟩, .string ⟨#[]⟩, .slice none 0 0, .slice none 0 0] 69)) := (Below.refl _ _).alloc (Nat.le_refl _) _
  have h2 := h1.below b2
  have k2 := bcell b2 k1
  have g2 := gr_step g1 (row := none) ⟨b2.os, b2.tape, b2.output, b2.size, fun k hk _ => b2.block k hk⟩ (fun r e => by cases e)
  generalize w1.alloc (.cells #[.string ⟨#[]⟩, .string ⟨#[]⟩, .slice none 0 0, .slice none 0 0] 69) = w2 at *
  rw [s1] at e2
  clear h h1 k1 b1 b2 g1 s1
  go_upto_region 2 with (fail)
  have e3 := EvAt.new w2 (.string ⟨#[]⟩) (.string ⟨#[]⟩) (.slice none 0 0) (.slice none 0 0)
  have b3 : Below w2.heap.size w2 (w2.alloc (.cells #[.string ⟨#[]⟩, .string ⟨#[]⟩, .slice none 0 0, .slice none 0 0] 69)) := (Below.refl _ _).alloc (Nat.le_refl _) _
  have d3 : DecAt (w2.alloc (.cells #[.string ⟨#[]⟩, .string ⟨#[]⟩, .slice none 0 0, .slice none 0 0] 69)) w g l false (w.heap.size + 1) w2.heap.size ⟨#[]⟩ ⟨#[]⟩ none 0 0 [] none 0 0 [] :=
    ⟨h2.below b3, bcell b3 k2, e2.below b3 e2.lt, e3, OwnC.nil _ _, OwnC.nil _ _, gr_step g2 (row := none) ⟨b3.os, b3.tape, b3.output, b3.size, fun k hk _ => b3.block k hk⟩ (fun r e => by cases e), gw, Nat.lt_succ_self _, e2.lt⟩
  generalize w2.alloc (.cells #[.string ⟨#[]⟩, .string ⟨#[]⟩, .slice none 0 0, .slice none 0 0] 69) = w3 at *
  generalize w2.heap.size = ge at *
  clear h2 k2 g2 e2 e3 b3
  have k0 := d3.bx
  go_wp2_with fail
  refine (text_any g l false w3 d3.rd).mono ?_
  rintro e w4 ⟨rfl, r4, gg⟩
  have d4 := d3.read r4 gg
  have z0 := d4.ev.frozen 0
  have q0 := d4.ev.c0
  have d5 := d4.set 0 (.string (tx l)) (ev_set0 d4.ev _) d4.tt d4.ff
  have D1 : Dry (textL l) (textB l false) := D0.text
  have HS1 := Go.Lib.hid (tx_small d4.rd)
  clear d3 r4 gg k0
  go_upto_region 4 with (fail)
  have hset : w4.setCell ⟨ge, 0, none⟩ (.string ⟨(textV l).toArray⟩) = w4.setCell ⟨ge, 0, none⟩ (.string (tx l)) := rfl
  rw [hset]
  generalize w4.setCell ⟨ge, 0, none⟩ (.string (tx l)) = w5 at *
  clear z0 q0 hset d4
  have k0 := d5.bx
  go_wp2_with fail
  refine (text_any g _ _ w5 d5.rd).mono ?_
  rintro e w6 ⟨rfl, r6, gg⟩
  have d6 := d5.read r6 gg
  have z1 := d6.ev.frozen 1
  have q1 := d6.ev.c1
  have d7 := d6.set 1 (.string (tx (textL l))) (ev_set1 d6.ev _) d6.tt d6.ff
  have D2 : Dry (textL (textL l)) (textB (textL l) (textB l false)) := D1.text
  clear d5 r6 gg k0
  go_upto_region 5 with (fail)
  have hset : w6.setCell ⟨ge, 1, none⟩ (.string ⟨(textV (textL l)).toArray⟩) = w6.setCell ⟨ge, 1, none⟩ (.string (tx (textL l))) := rfl
  rw [hset]
  generalize w6.setCell ⟨ge, 1, none⟩ (.string (tx (textL l))) = w7 at *
  clear z1 q1 hset d6
  have k0 := d7.bx
  generalize hl2 : textL (textL l) = l2 at *
  generalize hb2 : textB (textL l) (textB l false) = b2 at *
  have HL2 := Go.Lib.hid hl2
  have HB2 := Go.Lib.hid hb2
  clear hl2 hb2
  go_wp2_with fail
  refine (listS_any g l2 b2 w7 d7.rd D2).mono ?_
  rintro e w8 ⟨gg, ts, l', b', T8, m8, c8, us, ok, HT, HOK, rfl, r8, o8, HU, HZ⟩
  have d8 := d7.read r8 gg
  have z2 := d8.ev.frozen 2
  have q2 := d8.ev.c2
  have d9 := d8.set 2 (.slice T8 m8 c8) (d8.ev.set2 _) (own_lower o8 d7.ev.lt) d8.ff
  clear d7 r8 gg k0 d8 o8
  go_upto_region 6 with (fail)
  generalize w8.setCell ⟨ge, 2, none⟩ (.slice T8 m8 c8) = w9 at *
  clear z2 q2
  have hno : ok = false → decC l = none := by
    intro h
    have h1 := HOK.out
    rw [h] at h1
    unfold decC
    simp only
    rw [HL2.out, HB2.out, HT.out, if_pos]
    by_cases h0 : 0 ≤ numV l2
    · rw [decide_eq_true h0] at h1
      right
      cases b' with
      | true => rfl
      | false => cases h1
    · exact .inl (by omega)
  have HNO := Go.Lib.hid hno
  clear hno
  cases ok with
  | false =>
    have r0 := d9.res.c0
    have r1 := d9.res.c1
    have r2 := d9.res.c2
    have r3 := d9.res.c3
    have z0 := d9.res.frozen 0
    have z1 := d9.res.frozen 1
    have z2 := d9.res.frozen 2
    have z3 := d9.res.frozen 3
    have hfin := d9.fin (.string ⟨#[]⟩) (.string ⟨#[]⟩) (.slice none 0 0) (.slice none 0 0) _ rfl
    have HFIN := Go.Lib.hid hfin
    clear hfin
    go_wp2_with fail
    rcases HFIN.out with ⟨E9, R9, G9, _, _⟩
    generalize ((((w9.setCell ⟨w.heap.size + 1, 0, none⟩ (.string ⟨#[]⟩)).setCell ⟨w.heap.size + 1, 1, none⟩ (.string ⟨#[]⟩)).setCell ⟨w.heap.size + 1, 2, none⟩ (.slice none 0 0)).setCell ⟨w.heap.size + 1, 3, none⟩ (.slice none 0 0)) = w10 at *
    have q0 := E9.c0
    have q1 := E9.c1
    have q2 := E9.c2
    have q3 := E9.c3
    exact bodyPost_ret (v := .tuple #[.agg #[.string ⟨#[]⟩, .string ⟨#[]⟩, .slice none 0 0, .slice none 0 0], .bool false]) (by simp [results, Tryz.results168, go_sem, q0, q1, q2, q3]) rfl ⟨G9, _, _, _, _, _, _, _, _, false, _, _, rfl, R9, Go.Lib.hid (fun _ => HNO.out trivial), Go.Lib.hid (fun h => by cases h)⟩
  | true =>
    have hn0 : 0 ≤ numV l2 ∧ b' = false := by
      have h1 := HOK.out
      by_cases h0 : 0 ≤ numV l2
      · rw [decide_eq_true h0] at h1
        cases b' with
        | true => cases h1
        | false => exact ⟨h0, rfl⟩
      · rw [decide_eq_false h0] at h1
        cases h1
    obtain ⟨hn0, rfl⟩ := hn0
    have HN0 := Go.Lib.hid hn0
    have hus := HU.out rfl
    have HUS := Go.Lib.hid hus
    have k0 := d9.bx
    have hbg : w.heap.size ≠ g := by omega
    clear hn0 hus HNO HOK HU
    go_wp2_with fail
    refine (listF_any g l' false w9 d9.rd (fun h => by cases h) w.heap.size k0 hbg).mono ?_
    rintro e w10 ⟨gg, fs, l'', b'', F10, m10, c10, vs, ok, HF, HOK, rfl, r10, o10, HV, HVZ⟩
    have d10 := d9.read r10 gg
    have z3 := d10.ev.frozen 3
    have q3 := d10.ev.c3
    have d11 := d10.set 3 (.slice F10 m10 c10) (d10.ev.set3 _) d10.tt (own_lower o10 d9.ev.lt)
    clear d9 r10 gg k0 d10 o10
    go_upto_region 9 with (fail)
    generalize w10.setCell ⟨ge, 3, none⟩ (.slice F10 m10 c10) = w11 at *
    clear z3 q3
    have hw1 := d11.w1
    have hw2 := d11.w2
    have r0 := d11.res.c0
    have r1 := d11.res.c1
    have r2 := d11.res.c2
    have r3 := d11.res.c3
    have z0 := d11.res.frozen 0
    have z1 := d11.res.frozen 1
    have z2 := d11.res.frozen 2
    have z3 := d11.res.frozen 3
    have e0 := d11.ev.c0
    have e1 := d11.ev.c1
    have e2 := d11.ev.c2
    have e3 := d11.ev.c3
    have hfin := d11.fin (.string (tx l)) (.string (tx (textL l))) (.slice T8 m8 c8) (.slice F10 m10 c10) _ rfl
    have HFIN := Go.Lib.hid hfin
    clear hfin d11
    go_wp2_with fail
    rcases HFIN.out with ⟨E9, R9, G9, O1, O2⟩
    generalize ((((w11.setCell ⟨w.heap.size + 1, 0, none⟩ (.string (tx l))).setCell ⟨w.heap.size + 1, 1, none⟩ (.string (tx (textL l)))).setCell ⟨w.heap.size + 1, 2, none⟩ (.slice T8 m8 c8)).setCell ⟨w.heap.size + 1, 3, none⟩ (.slice F10 m10 c10)) = w12 at *
    have q0 := E9.c0
    have q1 := E9.c1
    have q2 := E9.c2
    have q3 := E9.c3
    have hdec : decC l = if numV l' < 0 ∨ b'' = true then none else some (⟨tx l, tx (textL l), ts.take 7, fs.take 5⟩, l'') := by
      unfold decC
      simp only
      rw [HL2.out, HB2.out, HT.out]
      simp only
      have c1 : ¬ (numV l2 < 0 ∨ false = true) := by
        rintro (h | h)
        · have := HN0.out
          omega
        · cases h
      rw [if_neg c1, HF.out]
    refine bodyPost_ret (v := .tuple #[.agg #[.string (tx l), .string (tx (textL l)), .slice T8 m8 c8, .slice F10 m10 c10], .bool ok]) (by simp [results, Tryz.results168, go_sem, q0, q1, q2, q3]) rfl ⟨G9, _, _, _, _, _, _, _, _, ok, _, _, rfl, R9, Go.Lib.hid fun h => ?_, Go.Lib.hid fun h => ?_⟩
    · rw [hdec, if_pos]
      have h1 := HOK.out
      rw [h] at h1
      by_cases h0 : 0 ≤ numV l'
      · rw [decide_eq_true h0] at h1
        right
        cases b'' with
        | true => rfl
        | false => cases h1
      · exact .inl (by omega)
    · have h1 := HOK.out
      rw [h] at h1
      have hb : ¬ numV l' < 0 ∧ b'' = false := by
        by_cases h0 : 0 ≤ numV l'
        · rw [decide_eq_true h0] at h1
          cases b'' with
          | true => cases h1
          | false => exact ⟨by omega, rfl⟩
        · rw [decide_eq_false h0] at h1
          cases h1
      obtain ⟨hm0, rfl⟩ := hb
      have hvs := HV.out rfl
      refine ⟨rfl, us, vs, ?_, own_lower O1 (by omega), own_lower O2 (by omega), HS0.out, HS1.out, HZ.out, fun f hf => (HVZ.out f hf).1, fun f hf => (HVZ.out f hf).2⟩
      rw [hdec, HUS.out, hvs, if_neg]
      rintro (h | h)
      · exact hm0 h
      · cases h
end Go.Proofs.YtppidbdkejkopaaGreatDoor.EdWalk
