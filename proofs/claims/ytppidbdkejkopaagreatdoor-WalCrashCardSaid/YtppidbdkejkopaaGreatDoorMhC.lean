/-
  Walk of C.
-/
import Derived.Deep.QuietTactic
import Derived.BigQuiet
import Derived.Test.YtppidbdkejkopaaGreatDoorMh9
namespace Go.Proofs.YtppidbdkejkopaaGreatDoor.WlWalk
open Go.RowKit MemRow Ev NameMath NameWalk EvWalk NumMem DkWalk FrMath BtWalk EcWalk EdWalk
theorem open_any {D : Dk} {cs : List (List UInt8 × Nat)} (hg : DkGo D) (hl : D.left = -1) (hs : SegsD D cs) :
    (openW D).1 = 0 ∧ DkGo (openW D).2.1 ∧ (openW D).2.1.left = -1 ∧ Chained (openW D).2.2.all 0 ∧ (openW D).2.2.last = (tot (openW D).2.2.all : Int) ∧
    (openW (openW D).2.1).1 = 0 ∧ (openW (openW D).2.1).2.2.all = (openW D).2.2.all ∧ usedF (openW (openW D).2.1).2.1.fs = usedF (openW D).2.1.fs ∧ DkGo (openW (openW D).2.1).2.1 := by
  obtain ⟨o1, o2, o3, o4, o5, o6, o7, o8⟩ := openW_segs hg hl hs
  obtain ⟨q1, q2, q3, q4, q5, q6, q7, q8⟩ := openW_segs o3 o4 o2
  rw [bts_safed] at q2 q6
  refine ⟨o1, o3, o4, by rw [o6]; exact readW_chained _ _, by rw [o8, o6], q1, by rw [q6, o6, readW_fix], ?_, q3⟩
  rw [segs_used q3 q2, segs_used o3 o2, fixW_fix]
end Go.Proofs.YtppidbdkejkopaaGreatDoor.WlWalk
namespace Go.Proofs.YtppidbdkejkopaaGreatDoor.WlWalk
open Go.RowKit MemRow Ev NameMath NameWalk EvWalk NumMem DkWalk FrMath BtWalk EcWalk EdWalk
theorem safe_le {D : Dk} {cs : List (List UInt8 × Nat)} (hg : DkGo D) (hs : SegsD D cs) : ∀ p ∈ cs, p.2 ≤ p.1.length := fun p hp => by
  obtain ⟨i, hi, rfl⟩ := List.mem_iff_getElem.1 hp
  have hl := hs.get (List.getElem?_eq_getElem hi)
  exact (hg.ok.fls _ ((lk_iff hg.up _ _ _).1 hl)).2
structure FinD (D : Dk) (ys : List Bat) (fl : Bool) : Prop where
  go : DkGo D
  ex : ∃ cs, SegsD D cs ∧ ∀ keep : Int, ∃ k, (readW (bts (cs.map fun p => (p.1.take (cutN keep p), cutN keep p))) 0).1 = ys.take k ∧ k ≤ ys.length ∧ (k = ys.length ∨ (fl = true ∧ k + 1 = ys.length))
theorem LogD.fin {D : Dk} {ss : List (List Bat)} (h : LogD D ss) : FinD D ss.flatten false :=
  ⟨h.go, _, h.segs, fun keep => ⟨ss.flatten.length, by rw [cut_same (safed_safe _), h.read, List.take_length], Nat.le_refl _, .inl rfl⟩⟩
theorem LogD.fin1 {D : Dk} {ss : List (List Bat)} (h : LogD D ss) (x : Bat) : FinD D (ss.flatten ++ [x]) true :=
  ⟨h.go, _, h.segs, fun keep => ⟨ss.flatten.length, by rw [cut_same (safed_safe _), h.read, List.take_left], by rw [List.length_append]; omega, .inr ⟨rfl, by rw [List.length_append]; rfl⟩⟩⟩
theorem Torn.fin {D : Dk} {ss : List (List Bat)} {x : Bat} {cs : List (List UInt8 × Nat)} (h : Torn D ss x cs) : FinD D (ss.flatten ++ [x]) true :=
  ⟨h.go, cs, h.segs, fun keep => by
    rcases h.cut keep with e | e
    · exact ⟨ss.flatten.length, by rw [e, List.take_left], by rw [List.length_append]; omega, .inr ⟨rfl, by rw [List.length_append]; rfl⟩⟩
    · exact ⟨(ss.flatten ++ [x]).length, by rw [e, List.take_length], Nat.le_refl _, .inl rfl⟩⟩
theorem crash_app {D : Dk} {ss : List (List Bat)} (x : Bat) (h : LogD D ss) :
    ((appendL D ss.length (tot ss.flatten : Int) x).1 ≠ 0 ∧ (appendL D ss.length (tot ss.flatten : Int) x).1 ≠ 14 ∧ LogD (appendL D ss.length (tot ss.flatten : Int) x).2.1 ss ∧ (appendL D ss.length (tot ss.flatten : Int) x).2.2 = (ss.length, (tot ss.flatten : Int))) ∨
    ((appendL D ss.length (tot ss.flatten : Int) x).1 = 0 ∧ ∃ ss', LogD (appendL D ss.length (tot ss.flatten : Int) x).2.1 ss' ∧ ss'.flatten = ss.flatten ++ [x] ∧ (appendL D ss.length (tot ss.flatten : Int) x).2.2 = (ss'.length, (tot ss'.flatten : Int))) ∨
    ((appendL D ss.length (tot ss.flatten : Int) x).1 = 14 ∧ FinD (appendL D ss.length (tot ss.flatten : Int) x).2.1 (ss.flatten ++ [x]) true) := by
  obtain ⟨a1, a2, a3, a4⟩ := appendL_eq D ss.length (tot ss.flatten : Int) x
  have e22 : ∀ (m : Nat) (l : Int), (appendL D ss.length (tot ss.flatten : Int) x).2.2.1 = m → (appendL D ss.length (tot ss.flatten : Int) x).2.2.2 = l → (appendL D ss.length (tot ss.flatten : Int) x).2.2 = (m, l) := fun m l h1 h2 => Prod.ext h1 h2
  rw [a1, a2]
  rcases appendW_log x h with ⟨h1, h2, _, h4, _⟩ | ⟨h1, ss', h2, h3, h4, _⟩ | ⟨h1, _, cs, h2⟩
  · by_cases h14 : (appendW D ss.length (tot ss.flatten : Int) x).1 = 14
    · exact .inr (.inr ⟨h14, h2.fin1 x⟩)
    · refine .inl ⟨h1, h14, h2, e22 _ _ ?_ ?_⟩
      · rw [a4, if_neg h1]
      · rw [a3, h4]
  · refine .inr (.inl ⟨h1, ss', h2, h3, e22 _ _ ?_ ?_⟩)
    · rw [a4, if_pos h1, h4]
    · rw [a3, h4]
  · exact .inr (.inr ⟨h1, h2.fin⟩)
theorem open_fin {D : Dk} {ys : List Bat} {fl : Bool} (h : FinD D ys fl) (keep : Int) {call : Int} (hc : call ≤ 9223372036854775807) :
    DkGo (crashD D keep) ∧ DkGo (fuseD (crashD D keep) call) ∧ ((openW (fuseD (crashD D keep) call)).1 = 0 ∨ (openW (fuseD (crashD D keep) call)).1 = 14) ∧ DkGo (openW (fuseD (crashD D keep) call)).2.1 ∧
    DkGo (crashD (openW (fuseD (crashD D keep) call)).2.1 keep) ∧ ∃ k, (k ≤ ys.length ∧ (k = ys.length ∨ (fl = true ∧ k + 1 = ys.length))) ∧
    (openW (crashD (openW (fuseD (crashD D keep) call)).2.1 keep)).1 = 0 ∧ DkGo (openW (crashD (openW (fuseD (crashD D keep) call)).2.1 keep)).2.1 ∧ (openW (crashD (openW (fuseD (crashD D keep) call)).2.1 keep)).2.2.all = ys.take k ∧
    (openW (openW (crashD (openW (fuseD (crashD D keep) call)).2.1 keep)).2.1).1 = 0 ∧ (openW (openW (crashD (openW (fuseD (crashD D keep) call)).2.1 keep)).2.1).2.2.all = ys.take k := by
  obtain ⟨cs, hs, hr⟩ := h.ex
  obtain ⟨k, hk, hk2⟩ := hr keep
  have g1 := crash_go h.go keep
  have s1 := hs.crash h.go keep
  have a1 := cut_safe (safe_le h.go hs) keep
  have g2 := fuse_go g1 hc
  have s2 : SegsD (fuseD (crashD D keep) call) _ := s1.same rfl
  obtain ⟨cs2, s3, a3, r3, g3, _, c3⟩ := openW_safe g2 s2 a1
  have g4 := crash_go g3 keep
  have s4 := s3.crash g3 keep
  rw [cut_same a3] at s4
  obtain ⟨o1, o2, o3, _, _, o6, o7, _⟩ := open_any g4 rfl s4
  obtain ⟨_, _, _, _, _, o6', _, _⟩ := openW_segs g4 rfl s4
  refine ⟨g1, g2, c3, g3, g4, k, hk2, o1, o2, ?_, o6, ?_⟩
  · rw [o6', r3, hk]
  · rw [o7, o6', r3, hk]
set_option maxHeartbeats 8000000 in
set_option maxRecDepth 100000 in
theorem open11_any {base : Nat} {w : World} {Q : Thing} {g : Nat} {D : Dk} {ys : List Bat} {fl : Bool} (hp : Pair base w (LdT g D) Q) (kq : Keeps Q) (hb : base ≤ w.heap.size) (ht : TabB base w) (h : FinD D ys fl) {keep call : Int} (hk : -9223372036854775808 ≤ keep ∧ keep ≤ 9223372036854775807) (hc : 0 ≤ call ∧ call ≤ 1000000) :
    Calls Tryz.prog 29 #[.pointer (some ⟨g, 0, none⟩), .int .i64 keep, .int .i64 call] w fun e w' => ∃ D' A n c k, e = .returned (.tuple #[.slice A n c, .bool true]) ∧ (k ≤ ys.length ∧ (k = ys.length ∨ (fl = true ∧ k + 1 = ys.length))) ∧ Pair base w' (LdT g D') (With Q (BsT base A n c (ys.take k))) ∧ Below base w w' := by
  obtain ⟨g1, g2, c3, g3, g4, k, hk2, o1, o2, o3, o4, o5⟩ := open_fin h keep (call := call) (by omega)
  have hgo := h.go
  clear h
  go_enter Tryz.func29, Tryz.ntmps29
  go_wp2_with fail
  refine (pr_crash hp kq hb hgo hk).mono ?_
  rintro e w1 ⟨rfl, p1, b1⟩
  have hb1 := Nat.le_trans hb b1.size
  generalize crashD D keep = D1 at *
  go_wp2_with fail
  refine (pr_fuse p1 kq hb1 call).mono ?_
  rintro e w2 ⟨rfl, p2, b2⟩
  have B2 := b1.trans b2
  have hb2 := Nat.le_trans hb B2.size
  generalize fuseD D1 call = D2 at *
  clear p1 b1 b2 hb1
  go_wp2_with fail
  refine (openL_any p2 kq hb2 g2 (ht.on B2)).mono ?_
  rintro e w3 ⟨h3, b3⟩
  have B3 := B2.trans b3
  have hb3 := Nat.le_trans hb B3.size
  obtain ⟨vp, vs, rc, rfl, hrc, p3⟩ : ∃ vp vs rc, e = .returned (.tuple #[vp, vs, .int .i64 rc]) ∧ (rc = 0 ∨ rc = 14) ∧ Pair base w3 (LdT g (openW D2).2.1) Q := by
    rcases h3 with ⟨_, gl, A, n, c, rfl, p⟩ | ⟨h1, rfl, p⟩
    · exact ⟨_, _, _, rfl, .inl rfl, pair_first (pair_first p)⟩
    · exact ⟨_, _, _, rfl, c3, p⟩
  generalize (openW D2).2.1 = D3 at *
  clear h3 b3 p2 hb2 c3 B2
  have HRC := Go.Lib.hid hrc
  clear hrc
  rcases HRC.out with rfl | rfl <;>
  ( go_wp2_with fail
    refine (pr_crash p3 kq hb3 g3 hk).mono ?_
    rintro e w4 ⟨rfl, p4, b4⟩
    have B4 := B3.trans b4
    have hb4 := Nat.le_trans hb B4.size
    generalize crashD D3 keep = D4 at *
    clear p3 b4 hb3 B3
    go_wp2_with fail
    refine (openL_any p4 kq hb4 g4 (ht.on B4)).mono ?_
    rintro e w5 ⟨h5, b5⟩
    rcases h5 with ⟨_, gl, A, n, c, rfl, p5⟩ | ⟨h1, _⟩
    rotate_left
    · exact absurd o1 h1
    rw [o3] at p5
    have B5 := B4.trans b5
    have hb5 := Nat.le_trans hb B5.size
    have kq5 := with_keeps (with_keeps kq (bxT_keeps gl (llV g (openW D4).2.2.many (openW D4).2.2.last) 81)) (bsT_keeps base A n c (ys.take k))
    generalize (openW D4).2.2.many = mm at *
    generalize (openW D4).2.2.last = lx at *
    generalize (openW D4).2.1 = D5 at *
    clear p4 b5 hb4 B4 o1 o3 g3 g4
    go_wp2_with fail
    refine (openL_any p5 kq5 hb5 o2 (ht.on B5)).mono ?_
    rintro e w6 ⟨h6, b6⟩
    rcases h6 with ⟨_, gl2, A2, n2, c2, rfl, p6⟩ | ⟨h1, _⟩
    rotate_left
    · exact absurd o4 h1
    rw [o5] at p6
    have B6 := B5.trans b6
    have hb6 := Nat.le_trans hb B6.size
    have kq6 := with_keeps (with_keeps kq5 (bxT_keeps gl2 (llV g (openW D5).2.2.many (openW D5).2.2.last) 81)) (bsT_keeps base A2 n2 c2 (ys.take k))
    have hsame := sameBs_true (pair_bs (pair_first (pair_first p6))).rd (pair_bs p6).rd
    generalize (openW D5).2.2.many = mm2 at *
    generalize (openW D5).2.2.last = lx2 at *
    generalize (openW D5).2.1 = D6 at *
    clear p5 b6 hb5 B5 o4 o5 o2
    go_wp2_with fail
    refine hsame.mono ?_
    rintro e w7 ⟨rfl, b7⟩
    have p7 := p6.below (ldT_keeps g D6) kq6 b7
    have B7 := B6.trans (bel_up hb6 b7)
    go_wp2_with fail
    go_ret2
    exact ⟨D6, A, n, c, k, rfl, hk2, pair_first (pair_imp th_place (pair_first (pair_first p7))), B7⟩)
abbrev RnX (W0 : World) (B : Option Addr) (m c : Nat) (xs : List Bat) (E : Option Addr) (i d : Nat) (es : List Ev) (gb : Nat) (vs : Array Value) (t : TypeId) : Thing := With (With (With NoT (InT W0 B m c xs)) (EvT W0 E i d es)) (BxT gb vs t)
theorem rnX_keeps (W0 : World) (B : Option Addr) (m c : Nat) (xs : List Bat) (E : Option Addr) (i d : Nat) (es : List Ev) (gb : Nat) (vs : Array Value) (t : TypeId) : Keeps (RnX W0 B m c xs E i d es gb vs t) := with_keeps (with_keeps (with_keeps noT_keeps (inT_keeps _ _ _ _ _)) (evT_keeps _ _ _ _ _)) (bxT_keeps _ _ _)
section
variable {W0 w w' : World} {P : Thing} {gl g many : Nat} {last : Int} {B E : Option Addr} {m c i d : Nat} {xs : List Bat} {es : List Ev} {gb : Nat} {vs : Array Value} {t : TypeId}
theorem rnX_box (h : Pair W0.heap.size w P (RnS W0 gl g many last B m c xs)) (kp : Keeps P) (hb : W0.heap.size ≤ w.heap.size) (b : Below w.heap.size w w') (o : OwnO W0 w' (w.heap.size + 1 + 1 + 1) E i d es) (vs : Array Value) (t : TypeId) :
    Pair W0.heap.size (w'.alloc (.cells vs t)) P (With (RnX W0 B m c xs E i d es w'.heap.size vs t) (LlT gl g many last)) ∧ Below W0.heap.size w (w'.alloc (.cells vs t)) := by
  have k0 := rnS_keeps W0 gl g many last B m c xs
  have p1 := pair_more h kp k0 hb b (evT_of o (w := w) (by omega))
  have hb1 := Nat.le_trans hb b.size
  obtain ⟨p2, b2⟩ := bx_new kp (with_keeps k0 (evT_keeps _ _ _ _ _)) hb1 p1 vs t
  exact ⟨pair_imp th_mv2 p2, (bel_up hb b).trans (bel_up hb1 b2)⟩
theorem rnX_row (h : Pair W0.heap.size w P (With (RnX W0 B m c xs E i d es gb vs t) (LlT gl g many last))) : w.heap[gb]? = some (.cells vs t (0, 0)) := pair_bx (pair_first h)
theorem rnX_set {v : Value} {j : Nat} {vs' : Array Value} (h : Pair W0.heap.size w P (With (RnX W0 B m c xs E i d es gb vs t) (LlT gl g many last))) (kp : Keeps P) (he : (w.setCell ⟨gb, j, none⟩ v).heap[gb]? = some (.cells vs' t (0, 0))) :
    Pair W0.heap.size (w.setCell ⟨gb, j, none⟩ v) P (With (RnX W0 B m c xs E i d es gb vs' t) (LlT gl g many last)) ∧ Below W0.heap.size w (w.setCell ⟨gb, j, none⟩ v) := by
  obtain ⟨p, b⟩ := lg_put (v := v) (i := j) (cs' := vs') kp (with_keeps (with_keeps (with_keeps noT_keeps (inT_keeps _ _ _ _ _)) (evT_keeps _ _ _ _ _)) (bxT_keeps _ _ _)) (pair_place h) he
  exact ⟨pair_place p, b⟩
theorem rnX_isb (h : Pair W0.heap.size w P (With (RnX W0 B m c xs E i d es gb vs t) (LlT gl g many last))) (hB : Below W0.heap.size W0 w) (z : Int) : IsB w (.agg #[.int .i64 z, .slice E i d]) ⟨z, es⟩ :=
  ⟨_, _, _, rfl, pair_ev (pair_first (pair_first h)) hB⟩
theorem rnX_drop (h : Pair W0.heap.size w P (With (RnX W0 B m c xs E i d es gb vs t) (LlT gl g many last))) : Pair W0.heap.size w P (RnS W0 gl g many last B m c xs) := pair_imp th_drop (pair_imp th_drop h)
theorem rnX_more {a : Int} (h : Pair W0.heap.size w P (With (RnX W0 B m c xs E i d es gb vs t) (LlT gl g many last))) (kp : Keeps P) (hb : W0.heap.size ≤ w.heap.size) :
    ∃ cs, OwnC 2 w W0.heap.size 39 B m c cs ∧ xs.length = m ∧ ∀ A' c' w', OwnC 2 w' W0.heap.size 39 A' (m + 1) c' (cs ++ [.int .i64 a, .slice E i d]) → w.grownBy w' (B.map (·.block)) → (A'.map (·.block) = B.map (·.block) ∨ A'.map (·.block) = some w.heap.size) →
      Pair W0.heap.size w' P (RnS W0 gl g many last A' (m + 1) c' (xs ++ [⟨a, es⟩])) ∧ Below W0.heap.size w w' := by
  have h1 : Pair W0.heap.size w P (With (With (With NoT (LlT gl g many last)) (InT W0 B m c xs)) (EvT W0 E i d (⟨a, es⟩ : Bat).es)) := pair_imp (th_left th_place) (pair_place (pair_imp th_drop h))
  obtain ⟨cs, o, hl, hmore⟩ := pair_in (Z := With NoT (LlT gl g many last)) (x := ⟨a, es⟩) h1 kp (with_keeps noT_keeps (bxT_keeps _ _ _)) hb
  refine ⟨cs, o, hl, fun A' c' w' oo hg hA => ?_⟩
  obtain ⟨p, b⟩ := hmore A' c' w' oo hg hA
  exact ⟨pair_place p, b⟩
end
end Go.Proofs.YtppidbdkejkopaaGreatDoor.WlWalk
namespace Go.Proofs.YtppidbdkejkopaaGreatDoor.WlWalk
open Go.RowKit MemRow Ev NameMath NameWalk EvWalk NumMem DkWalk FrMath BtWalk EcWalk EdWalk
set_option maxRecDepth 100000 in
theorem bats_upto (A : Option Addr) (n cap m : Nat) (hc : m ≤ cap) (W : World) :
    (Instr.slice 30 (.slice A n cap) none (some (.int .i64 (m : Int))) none).run Tryz.prog W = .ok (.slice A m cap) W := by
  have hu : Tryz.prog.underlying 30 = some (.slice (Tryz.prog.elem 30)) := by rw [elem_batches]; exact Tryz.underlying30
  have e : A.map (·.add 0) = A := by cases A <;> simp [Addr.add]
  rw [run_slice_h (P := Tryz.prog) W 30 _ n cap hu .i64 (m : Int) (by omega) (by omega), elem_batches, MemRow.run_size batch_size]
  simp only [Result.andThen, sliced, Int.toNat_natCast, Nat.zero_mul, e, Nat.sub_zero]
  congr 2
  split <;> rfl
theorem rdBs_first {w : World} {A : Option Addr} {n cap : Nat} {xs : List Bat} (h : RdBs w A n cap xs) {m : Nat} (hm : m ≤ n) : RdBs w A m cap (xs.take m) :=
  ⟨by rw [List.length_take, h.1]; omega, Nat.le_trans hm h.2.1, h.2.2.1, fun hn => by
    obtain ⟨b, o, hA, hlt, hc⟩ := h.2.2.2 (by omega)
    refine ⟨b, o, hA, hlt, fun i hi => ?_⟩
    have e : (xs.take m).getD i noBat = xs.getD i noBat := by
      simp only [List.getD]
      rw [List.getElem?_take_of_lt hi]
    rw [e]
    exact hc i (by omega)⟩
def StC (D : Dk) (ys : List Bat) (fl : Bool) (mm : Nat) (ll : Int) : Prop := (fl = false ∧ ∃ ss, LogD D ss ∧ ys = ss.flatten ∧ mm = ss.length ∧ ll = (tot ss.flatten : Int)) ∨ (fl = true ∧ FinD D ys true)
theorem StC.fin {D : Dk} {ys : List Bat} {fl : Bool} {mm : Nat} {ll : Int} (h : StC D ys fl mm ll) : FinD D ys fl := by
  rcases h with ⟨rfl, ss, h, rfl, _⟩ | ⟨rfl, h⟩
  · exact h.fin
  · exact h
set_option maxHeartbeats 8000000 in
set_option maxRecDepth 100000 in
theorem crash_walk (A : Option Addr) (n cap : Nat) (os : List Wop) (z0 z1 z2 : Int) (w : World) (h : RdW w A n cap os) (hok : ∀ d ∈ os, WopOk d) (hz0 : -9223372036854775808 ≤ z0 ∧ z0 ≤ 9223372036854775807) (hz1 : -9223372036854775808 ≤ z1 ∧ z1 ≤ 9223372036854775807) (hz2 : -9223372036854775808 ≤ z2 ∧ z2 ≤ 9223372036854775807) (ht0 : TabB w.heap.size w) :
    Calls Tryz.prog 4 #[.slice A n cap, .agg #[.int .i64 z0, .int .i64 z1, .int .i64 z2]] w fun e w' => e = .returned (.bool true) ∧ Below w.heap.size w w' := by
  have hn := h.le
  unfold maxLen at hn
  have HN := Go.Lib.hid h.len
  have bx : Below w.heap.size w (w.alloc (.cells #[.int .i64 z0, .int .i64 z1, .int .i64 z2] 53)) := (Below.refl _ _).alloc (Nat.le_refl _) _
  have hrow : (w.alloc (.cells #[.int .i64 z0, .int .i64 z1, .int .i64 z2] 53)).heap[w.heap.size]? = some (.cells #[.int .i64 z0, .int .i64 z1, .int .i64 z2] 53 (0, 0)) := heap_alloc_new w _
  have ht : TabB (w.alloc (.cells #[.int .i64 z0, .int .i64 z1, .int .i64 z2] 53)).heap.size (w.alloc (.cells #[.int .i64 z0, .int .i64 z1, .int .i64 z2] 53)) := TabW.from (ht0.on bx).here
  have HQ0 := kindN_lt z0 (n := 80) (by omega)
  have HQ2 := kindN_lt z2 (n := 8) (by omega)
  generalize hk0 : kindN z0 80 = k0 at *
  generalize hk2 : kindN z2 8 = k2 at *
  have KD0 := Go.Lib.hid (fun (W : World) => by have := kind11_any z0 80 W hz0 (by omega) (by omega); rw [hk0] at this; exact this)
  have KD2 := Go.Lib.hid (fun (W : World) => by have := kind11_any z2 8 W hz2 (by omega) (by omega); rw [hk2] at this; exact this)
  have h0 := h.below bx
  clear h hk0 hk2 ht0
  go_enter Tryz.func4, Tryz.ntmps4
  go_upto_region 1 with (fail)
  generalize w.alloc (.cells #[.int .i64 z0, .int .i64 z1, .int .i64 z2] 53) = w0 at *
  have x0 : w0.cell? ⟨w.heap.size, 0, none⟩ = some (.int .i64 z0) := by rw [cell_of_row w0 _ 0 _ _ _ hrow]; rfl
  have x1 : w0.cell? ⟨w.heap.size, 1, none⟩ = some (.int .i64 z1) := by rw [cell_of_row w0 _ 1 _ _ _ hrow]; rfl
  have x2 : w0.cell? ⟨w.heap.size, 2, none⟩ = some (.int .i64 z2) := by rw [cell_of_row w0 _ 2 _ _ _ hrow]; rfl
  generalize hgx : w.heap.size = gx at *
  have H0 := Go.Lib.hid h0
  clear h0 hrow
  go_wp2_with fail
  refine (shown11_any w0 ht).mono ?_
  rintro e w1 ⟨rfl, b1⟩
  have hb1 := b1.size
  go_wp2_with fail
  refine (pr_first (base := w0.heap.size) hb1 1048576).mono ?_
  rintro e w3 ⟨g, rfl, p3, b3⟩
  have B3 := b1.trans (bel_up hb1 b3)
  have hb3 := Nat.le_trans hb1 b3.size
  have hL : LogD (newD 1048576) [] := LogD.new (by omega)
  go_wp2_with fail
  refine (openL_log p3 noT_keeps hb3 (ht.on B3) hL rfl).mono ?_
  rintro e w4 ⟨D4, gl, A4, n4, c4, rfl, l4, f4, q4, p4, b4⟩
  have B4 := B3.trans b4
  have hb4 := Nat.le_trans hb3 b4.size
  have y0 := bcell B4 x0
  clear p3 b1 b3 b4 B3 hb1 hb3 hL f4 q4
  go_wp2_with fail
  refine (KD0.out w4).mono ?_
  rintro e w5 ⟨rfl, rfl⟩
  go_wp2_with fail
  refine (pr_fuse (pair_first p4) (with_keeps noT_keeps (bxT_keeps _ _ _)) hb4 (k0 : Int)).mono ?_
  rintro e w5 ⟨rfl, p5, b5⟩
  have l5 : LogD (fuseD D4 (k0 : Int)) [] := l4.same (fuse_go l4.go (by omega)) rfl
  generalize fuseD D4 (k0 : Int) = D5 at *
  have B5 := B4.trans b5
  have hb5 := B5.size
  have al : Below w5.heap.size w5 (w5.alloc (.cells #[] 39)) := (Below.refl _ _).alloc (Nat.le_refl _) _
  have p6 := pair_place (pair_more (R := InT w0 (some ⟨w5.heap.size, 0, none⟩) 0 0 []) p5 (ldT_keeps g D5) (with_keeps noT_keeps (bxT_keeps _ _ _)) hb5 al (inT_new w0 w5 hb5))
  have B6 := B5.trans (bel_up hb5 al)
  have R6 : StC D5 [] false 0 0 := .inl ⟨rfl, [], l5, rfl, rfl, rfl⟩
  clear p4 p5 b5 B4 B5 hb4 y0 l4 l5 al
  go_wp2_with fail
  generalize w5.alloc (.cells #[] 39) = w6 at *
  go_loopw [10, 11, 12, 13, 14] (fun iv fv jv _ _ wr => ∃ (B : Option Addr) (m c j : Nat) (D : Dk) (ys : List Bat) (fl : Bool) (mm : Nat) (ll : Int), iv = .slice B m c ∧ fv = .bool fl ∧ jv = .int .i64 (j : Int) ∧ j ≤ n ∧ j ≤ 25 ∧ m ≤ j ∧ Hid (StC D ys fl mm ll) ∧ Pair w0.heap.size wr (LdT g D) (RnS w0 gl g mm ll B m c ys) ∧ Below w0.heap.size w0 wr) (fun _ _ jv _ _ _ => n - (intOf jv).toNat)
  case atStart => exact ⟨_, 0, 0, 0, D5, [], false, 0, 0, rfl, rfl, rfl, Nat.zero_le _, by omega, Nat.le_refl _, Go.Lib.hid R6, p6, B6⟩
  case round =>
    obtain ⟨B, m, c, j, D, ys, fl, mm, ll, rfl, rfl, rfl, hjn, hj, hmj, HR, pj, Bj⟩ := hrel
    clear p6 B6 R6 hb5
    have hbj := Bj.size
    go_upto_region 12 with (fail)
    go_cut [54] (fun v wx => v = .bool (decide (j < n ∧ j < 25 ∧ fl = false)) ∧ wr = wx)
    case first =>
      by_cases h1 : j < n
      · have i1 : (j : Int) < n := by omega
        by_cases h2 : j < 25
        · have i2 : (j : Int) < 25 := by omega
          cases fl with
          | true =>
            go_wp2_with fail
            go_meet
            exact ⟨by simp, rfl⟩
          | false =>
            go_wp2_with fail
            go_meet
            exact ⟨by simp [h1, h2], rfl⟩
        · have i2 : ¬ (j : Int) < 25 := by omega
          go_wp2_with fail
          go_meet
          exact ⟨by simp [h1, h2], rfl⟩
      · have i1 : ¬ (j : Int) < n := by omega
        go_wp2_with fail
        go_meet
        exact ⟨by simp [h1], rfl⟩
    obtain ⟨rfl, rfl⟩ := hcut
    by_cases hc : j < n ∧ j < 25 ∧ fl = false
    · rw [show decide (j < n ∧ j < 25 ∧ fl = false) = true by simpa using hc]
      obtain ⟨h1, h2, rfl⟩ := hc
      have i1 : (j : Int) < n := by omega
      obtain ⟨ss, hlog, rfl, rfl, rfl⟩ : ∃ ss, LogD D ss ∧ ys = ss.flatten ∧ mm = ss.length ∧ ll = (tot ss.flatten : Int) := by
        rcases HR.out with ⟨_, h⟩ | ⟨h, _⟩
        · exact h
        · cases h
      clear HR
      have HR := Go.Lib.hid hlog
      clear hlog
      obtain ⟨b, o, rfl, _, kc⟩ := H0.out.at_ (by omega)
      obtain ⟨C, nC, cC, u0, u1, u2, u3, u4, rC⟩ := kc j h1
      have hw : WopOk (os.getD j noWop) := hok _ (wop_get (by rw [HN.out]; exact h1))
      have v0 := bcell Bj u0
      have v1 := bcell Bj u1
      have v2 := bcell Bj u2
      have v3 := bcell Bj u3
      have v4 := bcell Bj u4
      generalize os.getD j noWop = q at *
      have iw : IsWop w0 (.agg #[.int .i64 q.kind, .int .i64 q.n, .int .i64 q.file, .int .i64 q.x.a, .slice C nC cC]) q := ⟨C, nC, cC, rfl, rC⟩
      clear u0 u1 u2 u3 u4 kc rC
      go_wp2_with fail
      refine (few11_any _ q w0 wr iw Bj).mono ?_
      rintro e w7 ⟨E, ie, de, rfl, oE, b7⟩
      have hpos := HR.out.tot_le
      have hmany := HR.out.many_le
      obtain ⟨p8, b8⟩ := rnX_box pj (ldT_keeps g D) hbj b7 oE #[.int .i64 q.kind, .int .i64 q.n, .int .i64 q.file, .int .i64 q.x.a, .slice E ie de] 41
      have B8 := Bj.trans b8
      clear pj Bj hbj b7 oE v0 v1 v2 v3 v4
      go_upto_region 15 with (fail)
      generalize w7.alloc (.cells #[.int .i64 q.kind, .int .i64 q.n, .int .i64 q.file, .int .i64 q.x.a, .slice E ie de] 41) = w8 at *
      generalize w7.heap.size = gb at *
      have hlast := lastL_any p8
      have r5 : W5At w8 gb (.int .i64 q.kind) (.int .i64 q.n) (.int .i64 q.file) (.int .i64 q.x.a) (.slice E ie de) := rnX_row p8
      have cz := r5.c3
      have fz := r5.frozen 3
      obtain ⟨p9, b9⟩ := rnX_set (v := .int .i64 (tot ss.flatten : Int)) (j := 3) p8 (ldT_keeps g D) (r5.set3 (.int .i64 (tot ss.flatten : Int)))
      have B9 := Go.Lib.hid (B8.trans b9)
      have P9 := Go.Lib.hid p9
      clear p9 b9 B8
      go_upto_region 16 with (go_at_call 18; refine hlast.mono ?_; rintro e w9 ⟨rfl, rfl⟩)
      generalize w8.setCell ⟨gb, 3, none⟩ (.int .i64 (tot ss.flatten : Int)) = w9 at *
      have B9' := B9.out
      have hb9 := B9'.size
      have p9 := P9.out
      clear p8 hlast cz fz r5 P9 B9
      have s5 : W5At w9 gb (.int .i64 q.kind) (.int .i64 q.n) (.int .i64 q.file) (.int .i64 (tot ss.flatten : Int)) (.slice E ie de) := rnX_row p9
      have k3 := s5.c3
      have k4 := s5.c4
      have iv := rnX_isb p9 B9' (tot ss.flatten : Int)
      go_wp2_with fail
      refine (appL_any p9 (rnX_keeps _ _ _ _ _ _ _ _ _ _ _ _) hb9 HR.out.go (ht.on B9') iv (few_ok hw ⟨by omega, hpos⟩) (by omega) ⟨by omega, hpos⟩).mono ?_
      have hra := crash_app ⟨(tot ss.flatten : Int), few6 q.x.es⟩ HR.out
      generalize appendL D ss.length (tot ss.flatten : Int) ⟨(tot ss.flatten : Int), few6 q.x.es⟩ = R at *
      obtain ⟨rc, D', mm, ll⟩ := R
      rintro e w10 ⟨rfl, p10', b10⟩
      have p10 : Pair w0.heap.size w10 (LdT g D') (With (RnX w0 B m c ss.flatten E ie de (few6 q.x.es) gb #[.int .i64 q.kind, .int .i64 q.n, .int .i64 q.file, .int .i64 (tot ss.flatten : Int), .slice E ie de] 41) (LlT gl g mm ll)) := p10'
      have B10 := B9'.trans b10
      have hb10 := B10.size
      have t5 : W5At w10 gb (.int .i64 q.kind) (.int .i64 q.n) (.int .i64 q.file) (.int .i64 (tot ss.flatten : Int)) (.slice E ie de) := rnX_row p10
      have kk := with_keeps (rnX_keeps w0 B m c ss.flatten E ie de (few6 q.x.es) gb #[.int .i64 q.kind, .int .i64 q.n, .int .i64 q.file, .int .i64 (tot ss.flatten : Int), .slice E ie de] 41) (bxT_keeps gl (llV g mm ll) 81)
      clear p9 p10' B9' b10 hb9 k3 k4 iv s5
      by_cases hap : rc = 0 ∨ rc = 14
      · have hst : StC D' (ss.flatten ++ [⟨(tot ss.flatten : Int), few6 q.x.es⟩]) (rc == 14) mm ll := by
          rcases hra with ⟨r1, r2, _⟩ | ⟨r1, ss', r2, r3, r4⟩ | ⟨r1, r2⟩
          · exfalso
            rcases hap with h | h
            · exact r1 h
            · exact r2 h
          · simp only at r1 r2 r4
            subst r1
            obtain ⟨rfl, rfl⟩ := Prod.mk.inj r4
            exact .inl ⟨rfl, ss', r2, r3.symm, rfl, rfl⟩
          · simp only at r1 r2
            subst r1
            exact .inr ⟨rfl, r2⟩
        have HST := Go.Lib.hid hst
        have k3 := t5.c3
        have k4 := t5.c4
        have al := batch_bel w10 (.int .i64 (tot ss.flatten : Int)) (.slice E ie de)
        have p11 := p10.below (ldT_keeps g D') kk al
        have B11 := B10.trans (bel_up hb10 al)
        have hb11 := B11.size
        obtain ⟨cs, oc, hlc, hmore⟩ := rnX_more (a := (tot ss.flatten : Int)) p11 (ldT_keeps g D') hb11
        have d5 : RdC 2 (w10.alloc (.cells #[.int .i64 (tot ss.flatten : Int), .slice E ie de] 39)) (some ⟨w10.heap.size, 0, none⟩) 1 1 [.int .i64 (tot ss.flatten : Int), .slice E ie de] := RdC.new w10 39 [.int .i64 (tot ss.flatten : Int), .slice E ie de] rfl (by decide)
        have h63 : m + 1 ≤ maxLen := by unfold maxLen; omega
        have hsz : (m + 1) * 32 ≤ 140737488355328 := by omega
        have one := bat_one ⟨(tot ss.flatten : Int), few6 q.x.es⟩ E ie de
        have HM := Go.Lib.hid hmore
        have HAP := Go.Lib.hid hap
        clear p10 p11 B10 hb10 al hmore hra hst t5 hap
        rcases HAP.out with rfl | rfl <;>
        ( go_wp2_with (at_builtin; refine wpList_append_cells rfl (.tmp 76) (.tmp 79) 30 rfl 39 (.agg #[.int .i64 0, .slice none 0 0]) 32 Tryz.underlying30 batch_info rfl (by decide) rfl rfl oc d5 one h63 hsz hb11 ?_; intro A8 c8 w12 o8 g8 hA8)
          obtain ⟨p12, b12⟩ := HM.out A8 c8 w12 o8 g8 hA8
          have B12 := B11.trans b12
          go_roundw
          case rel => exact ⟨A8, m + 1, c8, j + 1, D', _, _, mm, ll, rfl, by first | rfl | simp, by go_num, by omega, by omega, by omega, HST, p12, B12⟩
          case measure => simp [intOf]; omega )
      · rcases hra with ⟨r1, r2, r3, r4⟩ | ⟨r1, _⟩ | ⟨r1, _⟩
        rotate_left
        · exact absurd (.inl r1) hap
        · exact absurd (.inr r1) hap
        simp only at r1 r2 r3 r4
        obtain ⟨rfl, rfl⟩ := Prod.mk.inj r4
        have i2 : (rc == 0) = false := by rw [beq_eq_false_iff_ne]; exact r1
        have i3 : (rc == 14) = false := by rw [beq_eq_false_iff_ne]; exact r2
        have p12 := rnX_drop p10
        clear t5 kk hap
        go_wp2_with fail
        go_roundw
        case rel => exact ⟨B, m, c, j + 1, D', ss.flatten, false, ss.length, (tot ss.flatten : Int), rfl, rfl, by go_num, by omega, by omega, by omega, Go.Lib.hid (.inl ⟨rfl, ss, r3, rfl, rfl, rfl⟩), p12, B10⟩
        case measure => simp [intOf]; omega
    · rw [show decide (j < n ∧ j < 25 ∧ fl = false) = false by simpa using hc]
      have hfin := HR.out.fin
      have y0 := bcell Bj x0
      have y1 := bcell Bj x1
      have y2 := bcell Bj x2
      have bd : Below wr.heap.size wr wr.drew := bel_drew (Below.refl _ _)
      have kk := rnS_keeps w0 gl g mm ll B m c ys
      have pd := pj.below (ldT_keeps g D) kk bd
      have Bd := Bj.trans (bel_up hbj bd)
      have hbd := Bd.size
      have hop := open11_any pd kk hbd (ht.on Bd) hfin hz1 (call := (k2 : Int)) (by omega)
      clear hc
      go_upto_region 20 with (fail)
      go_region_held (fun w' => w'.cell? ⟨gx, 1, none⟩ = some (.int .i64 z1) ∧ w'.cell? ⟨gx, 2, none⟩ = some (.int .i64 z2))
        (first | exact ⟨y1, y2⟩ | exact ⟨bcell BF x1, bcell BF x2⟩)
        (first
          | (go_at_call 11; refine (KD2.out _).mono ?_; rintro e w7 ⟨rfl, rfl⟩)
          | (go_at_call 29; refine hop.mono ?_; rintro e w8 ⟨D8, A8, n8, c8, k, rfl, hk8, p8, b8⟩; have BF := Bd.trans b8))
      have hbf := BF.size
      have hyl : ys.length = m := (pair_ins (pair_first (pair_first p8)) BF).len
      have rA := (pair_bs p8).rd
      have rB := pair_ins (pair_first (pair_first p8)) BF
      have h8 : n8 = k := by have := rA.len; rw [List.length_take] at this; omega
      subst h8
      have hsame := sameBs_true rA (rdBs_first rB (m := n8) (by omega))
      have hcap := rB.2.1
      have qs := fun W => bats_upto B m c n8 (by omega) W
      have i1 : ¬ (n8 : Int) > m := by omega
      have i2 : ¬ (n8 : Int) < (m : Int) - 1 := by omega
      have i3 : fl = false → (n8 : Int) = m := fun h => by
        rcases hk8.2 with h1 | ⟨h1, _⟩
        · omega
        · rw [h] at h1; cases h1
      clear hfin hop rA rB HR pj pd y0 y1 y2 hk8
      cases fl with
      | true =>
        go_wp2_with fail
        refine hsame.mono ?_
        rintro e w9 ⟨rfl, b9⟩
        have BZ := BF.trans (bel_up hbf b9)
        go_wp2_with fail
        go_ret
        have BY := bx.trans (bel_up (by rw [← hgx]; exact bx.size) BZ)
        rw [← hgx] at BY
        exact ⟨rfl, BY⟩
      | false =>
        obtain rfl : n8 = m := by have := i3 rfl; omega
        have i4 : ((n8 : Int) != (n8 : Int)) = false := by simp
        clear i3
        go_wp2_with fail
        refine hsame.mono ?_
        rintro e w9 ⟨rfl, b9⟩
        have BZ := BF.trans (bel_up hbf b9)
        go_wp2_with fail
        go_ret
        have BY := bx.trans (bel_up (by rw [← hgx]; exact bx.size) BZ)
        rw [← hgx] at BY
        exact ⟨rfl, BY⟩
end Go.Proofs.YtppidbdkejkopaaGreatDoor.WlWalk
namespace Go.Proofs.YtppidbdkejkopaaGreatDoor.Open
open Go.RowKit Go.ChangeShapes Go.WideShapes
theorem mapM_each {α β : Type} {f : α → Option β} : ∀ (L : List α) (ys : List β), L.mapM f = some ys → ∀ i ∈ L, ∃ y, f i = some y
  | [], _, _, i, hi => by cases hi
  | a :: L, ys, h, i, hi => by
    rw [List.mapM_cons] at h
    cases ha : f a with
    | none => simp [ha] at h
    | some y =>
      cases hL : L.mapM f with
      | none => simp [ha, hL] at h
      | some zs =>
        rcases List.mem_cons.1 hi with rfl | hm
        · exact ⟨y, ha⟩
        · exact mapM_each L zs hL i hm
section
variable {H : Type} {enc : TypeId × Value → H} {P : Program} {W : World} {base : Nat} {t e : TypeId} {v : Value} {d : DataW H} {p : List MemPlace}
theorem op_arr {k : IntKind} {n : Nat} (ht : P.underlying t = some (.array n e)) (he : P.underlying e = some (.int k)) (hce : P.cellsOf e = 1) (hct : P.cellsOf t = n) (ho : Value.okWide P W .any base t v) (h : DataW.Trod enc P W 0 (fun _ => true) true t v d p) :
    ∃ cs : Array Value, v = .agg cs ∧ cs.size = n ∧ ∀ i, i < n → ∃ x, cs.toList[i]? = some (.int k x) ∧ (Lit.int k x).wf = true := by
  simp only [Value.okWide, ht] at ho
  obtain ⟨cs, rfl, hs, _⟩ := ho
  refine ⟨cs, rfl, by rw [hs, hct], fun i hi => ?_⟩
  obtain ⟨fuel, hf⟩ := h
  cases fuel with
  | zero => simp [DataW.trod] at hf
  | succ m =>
    rw [DataW.trod_step] at hf
    unfold DataW.trodStep at hf
    simp only [ht, Value.cells] at hf
    split at hf
    · simp only [Option.map_eq_some_iff] at hf
      obtain ⟨ys, hy, _⟩ := hf
      obtain ⟨y, hyi⟩ := mapM_each _ _ hy i (List.mem_range.2 hi)
      obtain ⟨x, ex, _, wx⟩ := DataW.trod_int he hyi
      rw [hce, Nat.mul_one] at ex
      refine ⟨x, ?_, wx⟩
      have h2 := congrArg (fun l : List Value => l[0]?) ex
      simpa using h2
    · cases hf
theorem op_arr2 {k : IntKind} (ht : P.underlying t = some (.array 2 e)) (he : P.underlying e = some (.int k)) (hce : P.cellsOf e = 1) (hct : P.cellsOf t = 2) (ho : Value.okWide P W .any base t v) (h : DataW.Trod enc P W 0 (fun _ => true) true t v d p) :
    ∃ a b : Int, v = .agg #[.int k a, .int k b] ∧ (Lit.int k a).wf = true ∧ (Lit.int k b).wf = true := by
  obtain ⟨cs, rfl, hs, hc⟩ := op_arr ht he hce hct ho h
  obtain ⟨l⟩ := cs
  match l, hs with
  | [c0, c1], _ =>
    obtain ⟨a, ha, wa⟩ := hc 0 (by omega)
    obtain ⟨b, hb, wb⟩ := hc 1 (by omega)
    simp at ha hb
    subst ha hb
    exact ⟨a, b, rfl, wa, wb⟩
theorem op_arr4 {k : IntKind} (ht : P.underlying t = some (.array 4 e)) (he : P.underlying e = some (.int k)) (hce : P.cellsOf e = 1) (hct : P.cellsOf t = 4) (ho : Value.okWide P W .any base t v) (h : DataW.Trod enc P W 0 (fun _ => true) true t v d p) :
    ∃ a b c d : Int, v = .agg #[.int k a, .int k b, .int k c, .int k d] ∧ (Lit.int k a).wf = true ∧ (Lit.int k b).wf = true ∧ (Lit.int k c).wf = true ∧ (Lit.int k d).wf = true := by
  obtain ⟨cs, rfl, hs, hc⟩ := op_arr ht he hce hct ho h
  obtain ⟨l⟩ := cs
  match l, hs with
  | [c0, c1, c2, c3], _ =>
    obtain ⟨a, ha, wa⟩ := hc 0 (by omega)
    obtain ⟨b, hb, wb⟩ := hc 1 (by omega)
    obtain ⟨c, hcc, wc⟩ := hc 2 (by omega)
    obtain ⟨d, hd, wd⟩ := hc 3 (by omega)
    simp at ha hb hcc hd
    subst ha hb hcc hd
    exact ⟨a, b, c, d, rfl, wa, wb, wc, wd⟩
end
end Go.Proofs.YtppidbdkejkopaaGreatDoor.Open
namespace Go.Proofs.YtppidbdkejkopaaGreatDoor.WlWalk
open Go.RowKit Go.WideShapes Go.ChangeShapes NumMem Go.Proofs.YtppidbdkejkopaaGreatDoor.Open BtWalk
section
variable {H : Type} {enc : TypeId × Value → H}
theorem op_arr3 {P : Program} {W : World} {base : Nat} {t e : TypeId} {v : Value} {d : DataW H} {p : List MemPlace} {k : IntKind} (ht : P.underlying t = some (.array 3 e)) (he : P.underlying e = some (.int k)) (hce : P.cellsOf e = 1) (hct : P.cellsOf t = 3) (ho : Value.okWide P W .any base t v) (h : DataW.Trod enc P W 0 (fun _ => true) true t v d p) :
    ∃ a b c : Int, v = .agg #[.int k a, .int k b, .int k c] ∧ (Lit.int k a).wf = true ∧ (Lit.int k b).wf = true ∧ (Lit.int k c).wf = true := by
  obtain ⟨cs, rfl, hs, hc⟩ := op_arr ht he hce hct ho h
  obtain ⟨l⟩ := cs
  match l, hs with
  | [c0, c1, c2], _ =>
    obtain ⟨a, ha, wa⟩ := hc 0 (by omega)
    obtain ⟨b, hb, wb⟩ := hc 1 (by omega)
    obtain ⟨c, hcc, wc⟩ := hc 2 (by omega)
    simp at ha hb hcc
    subst ha hb hcc
    exact ⟨a, b, c, rfl, wa, wb, wc⟩
set_option maxRecDepth 100000 in
theorem crash_main (W : World) (base : Nat) (v0 v1 : Value) {d0 d1 : DataW H} {p0 p1 : List MemPlace} (o0 : Value.okWide Tryz.prog W .any base 22 v0) (o1 : Value.okWide Tryz.prog W .any base 53 v1)
    (h0 : DataW.Trod enc Tryz.prog W 0 (fun _ => true) true 22 v0 d0 p0) (h1 : DataW.Trod enc Tryz.prog W 0 (fun _ => true) true 53 v1 d1 p1)
    (ht : Lib.TabIs Tryz.prog W "internal/strconv.uint64pow10" .u64 Lib.pow10Tab) :
    Calls Tryz.prog 4 #[v0, v1] W fun e W' => e = .returned (.bool true) ∧ Below W.heap.size W W' := by
  obtain ⟨A, n, cap, os, rfl, r, hok⟩ := op_wops o0 h0
  obtain ⟨a, b, c, rfl, wa, wb, wc⟩ := op_arr3 Tryz.underlying53 Tryz.underlying3 (by kernel_rfl) (by kernel_rfl) o1 h1
  exact crash_walk A n cap os a b c W r hok (bounds_i64 wa) (bounds_i64 wb) (bounds_i64 wc) (TabW.from ht)
end
end Go.Proofs.YtppidbdkejkopaaGreatDoor.WlWalk
