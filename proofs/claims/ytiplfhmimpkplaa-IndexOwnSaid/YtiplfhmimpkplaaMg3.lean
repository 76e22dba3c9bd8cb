/-
  Contracts of the document's answers of layer 10: May.
-/
import Derived.Deep.RegionHeld
import Derived.Deep.DeepCutAuto
import Derived.Test.YtiplfhmimpkplaaProg
import Derived.Deep.CutBlock
import Derived.Deep.QuietTactic
import Derived.BigQuiet
import Derived.Test.YtiplfhmimpkplaaMg2
namespace Go.Proofs.Ytiplfhmimpkplaa.BtWalk
open Go.RowKit Go.Proofs.Ytiplfhmimpkplaa.MemRow Go.Proofs.Ytiplfhmimpkplaa.Ev Go.Proofs.Ytiplfhmimpkplaa.NameMath Go.Proofs.Ytiplfhmimpkplaa.NameWalk Go.Proofs.Ytiplfhmimpkplaa.EvWalk Go.Proofs.Ytiplfhmimpkplaa.NumMem
theorem mayX_none {a : Int} {es : List Ev} (h : es.length = 0) : mayX ⟨a, es⟩ = 22 := by unfold mayX; rw [if_pos h]
theorem mayX_big {a : Int} {es : List Ev} (h : 16 < es.length) : mayX ⟨a, es⟩ = 3 := by unfold mayX; simp only; rw [if_neg (by omega), if_pos h]
theorem mayX_ev {a : Int} {es : List Ev} (h0 : es.length ≠ 0) (h : ¬ 16 < es.length) (hm : mayEs es ≠ 0) : mayX ⟨a, es⟩ = mayEs es := by unfold mayX; simp only; rw [if_neg h0, if_neg h, if_pos hm]
theorem mayX_pos {a : Int} {es : List Ev} {n : Nat} (hl : es.length = n) (h0 : n ≠ 0) (h : ¬ 16 < n) (hm : mayEs es = 0) : mayX ⟨a, es⟩ = if a < 0 ∨ 1048576 - (n : Int) < a then 1 else 0 := by
  unfold mayX
  simp only
  rw [hl, if_neg h0, if_neg h, if_neg (by simpa using hm)]

set_option maxHeartbeats 4000000 in
set_option maxRecDepth 100000 in
theorem refMayX_any (v : Value) (x : Bat) (w : World) (hv : IsB w v x) (hok : BOk x) :
    Calls Try.prog 22 #[v] w fun e w' => e = .returned (.int .i64 (mayX x)) ∧ Below w.heap.size w w' := by
  obtain ⟨A, n, ca, rfl, rE⟩ := hv
  obtain ⟨a, es⟩ := x
  simp only at rE
  have oke := hok.evs
  have oka := hok.a
  simp only at oke oka
  have LE := Go.Lib.hid rE.len
  have hn := rE.le
  unfold maxLen at hn
  have s1 := BoxB.new w (.int .i64 a) (.slice A n ca)
  have H1 := Go.Lib.hid (fun h => mayX_none (a := a) (es := es) h)
  have H2 := Go.Lib.hid (fun h => mayX_big (a := a) (es := es) h)
  have HX := Go.Lib.hid (fun h0 h16 hm => mayX_pos (a := a) LE.out h0 h16 hm)
  have HE := Go.Lib.hid (fun h0 h16 hm => mayX_ev (a := a) (es := es) h0 h16 hm)
  clear hok
  generalize mayX ⟨a, es⟩ = M at *
  go_enter Try.func22, Try.ntmps22
  go_upto_region 1 with (fail)
  generalize w.alloc (.cells #[.int .i64 a, .slice A n ca] 33) = w1 at *
  have k1 := s1.eq.c1
  by_cases h0 : n = 0
  · subst h0
    obtain rfl : M = 22 := H1.out LE.out
    clear H1 H2 HX HE
    go_wp2_with fail
    go_ret
    exact ⟨rfl, s1.bel⟩
  have i0 : ((n : Int) == 0) = false := by rw [beq_eq_false_iff_ne]; omega
  by_cases h16 : 16 < n
  · obtain rfl : M = 3 := H2.out (by rw [LE.out]; exact h16)
    clear H1 H2 HX HE
    have i1 : (16 : Int) < n := by omega
    go_wp2_with fail
    go_ret
    exact ⟨rfl, s1.bel⟩
  have i1 : ¬ (16 : Int) < n := by omega
  have H0 := Go.Lib.hid h0
  replace HX := Go.Lib.hid (fun hm => HX.out h0 h16 hm)
  replace HE := Go.Lib.hid (fun hm => HE.out (by rw [LE.out]; exact h0) (by rw [LE.out]; exact h16) hm)
  clear h0 H1 H2
  go_wp2_with fail
  go_loopw [3, 4] (fun i _ wr => ∃ j : Nat, j ≤ n ∧ i = .int .i64 j ∧ Hid (mayEs (es.take j) = 0) ∧ BoxB wr w (.int .i64 a) (.slice A n ca)) (fun i _ _ => n - (intOf i).toNat)
  case atStart => exact ⟨0, Nat.zero_le _, rfl, Go.Lib.hid (by simp [mayEs]), s1⟩
  case round =>
    obtain ⟨j, hj, rfl, HJ, sr⟩ := hrel
    clear s1 k1
    have k0 := sr.eq.c0
    have k1 := sr.eq.c1
    by_cases hlt : j < n
    · obtain ⟨b, o, rfl, _, kt⟩ := rE.at_ (by omega)
      obtain ⟨A1, n1, c1, B1, m1, d1, x0, x1, x2, x3, r1, r2⟩ := (kt j hlt).below sr.bel
      have i2 : (j : Int) < n := by omega
      have hjl : j < es.length := by rw [LE.out]; exact hlt
      have hoe := oke _ (evsGet hjl)
      have HA := Go.Lib.hid (mayEs_at es j HJ.out hjl)
      have HT := Go.Lib.hid (mayEs_take es j HJ.out hjl)
      clear kt hjl
      generalize es.getD j noEv = ev at *
      have iv : IsEv wr (.agg #[.string ev.s, .string ev.t, .slice A1 n1 c1, .slice B1 m1 d1]) ev := ⟨_, _, _, _, _, _, rfl, r1, r2⟩
      go_wp2_with fail
      refine (refMayE_any _ ev wr iv hoe).mono ?_
      rintro e w6 ⟨rfl, b6⟩
      have s6 := sr.below b6
      clear x0 x1 x2 x3 r1 r2 iv k0 k1 sr b6
      by_cases he : mayE ev = 0
      · have HT2 := Go.Lib.hid (HT.out he)
        rw [he]
        clear he HT HA
        go_wp2_with fail
        go_roundw
        case rel => exact ⟨j + 1, by omega, by go_num, HT2, s6⟩
        case measure => simp [intOf]; omega
      · have hb : (mayE ev != 0) = true := by rw [bne_iff_ne]; exact he
        have hme := HA.out he
        have hM : M = mayE ev := by rw [HE.out (by rw [hme]; exact he), hme]
        rw [← hM] at hb ⊢
        clear HA HT HE HX hme he hM
        go_wp2_with fail
        go_ret
        exact ⟨rfl, s6.bel⟩
    · obtain rfl : n = j := by omega
      have hes : es.take n = es := List.take_of_length_le (by rw [LE.out]; exact Nat.le_refl _)
      have HM := Go.Lib.hid (HX.out (by rw [← hes]; exact HJ.out))
      clear hes HX HE HJ
      by_cases ha : a < 0
      · obtain rfl : M = 1 := by rw [HM.out, if_pos (.inl ha)]
        clear HM
        go_wp2_with fail
        go_ret
        exact ⟨rfl, sr.bel⟩
      · by_cases hb : 1048576 - (n : Int) < a
        · obtain rfl : M = 1 := by rw [HM.out, if_pos (.inr hb)]
          clear HM
          go_wp2_with fail
          go_ret
          exact ⟨rfl, sr.bel⟩
        · obtain rfl : M = 0 := by rw [HM.out, if_neg (by omega)]
          clear HM
          go_wp2_with fail
          go_ret
          exact ⟨rfl, sr.bel⟩

end Go.Proofs.Ytiplfhmimpkplaa.BtWalk

/-
  A drawing region by hand: an operation that is taken first, its slot named.
-/
namespace Go.Proofs.Ytiplfhmimpkplaa.HeldAt
open Go


theorem take_at {P : Program} {ops : Array Oper} {Q : Exit → Act → World → Prop} {md : Region.Mode} {S : World → Prop} {i d : Nat} {oi : Oper} {v : Value} {fuel : Nat} {listed : Array Bool} {a : Act} {w : World} (hi : ops[i]? = some oi) (hd : oi.dst = some d)
    (hs : Region.noSelect ops = true) (hf : Region.free md ops listed i = true) (hr : (Region.ready md ops listed).contains i = true)
    (hQ : ∀ c a w, Q (.panic c) (a.put oi.dst v) w → Q (.panic c) a w) (hy : YieldsIf P ops S oi v a) (hS : S w)
    (h : wpAnyH P md ops Q S fuel (listed.setIfInBounds i true) (a.put (some d) v) w) : wpAnyH P md ops Q S (fuel + 1) listed a w :=
  wpAnyH_take hi hs hf hr hQ hy hS (by rw [hd]; exact h)

/-- From here on a condition that says more: cells that an operation of the region has written. -/
theorem wpAnyH_more {P : Program} {ops : Array Oper} {Q : Exit → Act → World → Prop} {md : Region.Mode} {S S' : World → Prop} (hs : ∀ w, S' w → S w) : ∀ {fuel : Nat} {listed : Array Bool} {a : Act} {w : World}, wpAnyH P md ops Q S' fuel listed a w → wpAnyH P md ops Q S fuel listed a w
  | 0, _, _, _, h => h
  | _ + 1, _, _, _, h => ⟨h.1, fun i hi => wpOp_mono (fun _ w' h' => ⟨hs w' h'.1, wpAnyH_more hs h'.2⟩) (h.2 i hi)⟩

end Go.Proofs.Ytiplfhmimpkplaa.HeldAt

/-
  Contracts of the document's answers of layer 14: Add, but for the region where the index takes a record.
-/
namespace Go.Proofs.Ytiplfhmimpkplaa.IxWalk
open Go.Proofs.Ytiplfhmimpkplaa.HeldAt Go.RowKit Go.Proofs.Ytiplfhmimpkplaa.MemRow Go.Proofs.Ytiplfhmimpkplaa.Ev Go.Proofs.Ytiplfhmimpkplaa.NameMath Go.Proofs.Ytiplfhmimpkplaa.NameWalk Go.Proofs.Ytiplfhmimpkplaa.EvWalk Go.Proofs.Ytiplfhmimpkplaa.NumMem Go.Proofs.Ytiplfhmimpkplaa.Qu Go.Proofs.Ytiplfhmimpkplaa.QuWalk Go.Proofs.Ytiplfhmimpkplaa.SmWalk Go.Proofs.Ytiplfhmimpkplaa.BtWalk Go.Proofs.Ytiplfhmimpkplaa.DkWalk

section
variable {W0 w1 wr w' : World} {G : Nat → Prop} {g : Nat} {A B : Option Addr} {n c m cb : Nat} {es : List Ev} {rs : List Rc}
end

end Go.Proofs.Ytiplfhmimpkplaa.IxWalk

/-
  Contracts of the document's answers of layer 14: Add.
-/
namespace Go.Proofs.Ytiplfhmimpkplaa.IxWalk
open Go.Proofs.Ytiplfhmimpkplaa.HeldAt Go.RowKit Go.Proofs.Ytiplfhmimpkplaa.MemRow Go.Proofs.Ytiplfhmimpkplaa.Ev Go.Proofs.Ytiplfhmimpkplaa.NameMath Go.Proofs.Ytiplfhmimpkplaa.NameWalk Go.Proofs.Ytiplfhmimpkplaa.EvWalk Go.Proofs.Ytiplfhmimpkplaa.NumMem Go.Proofs.Ytiplfhmimpkplaa.Qu Go.Proofs.Ytiplfhmimpkplaa.QuWalk Go.Proofs.Ytiplfhmimpkplaa.SmWalk Go.Proofs.Ytiplfhmimpkplaa.BtWalk Go.Proofs.Ytiplfhmimpkplaa.DkWalk

theorem newR_step (es fs : List Ev) {j : Nat} (h : j < fs.length) : newR es (fs.take (j + 1)) = newR es (fs.take j) ++ [nextR (es ++ fs.take j) (fs.getD j noEv)] := by rw [evsTake fs j h, newR_snoc]
end Go.Proofs.Ytiplfhmimpkplaa.IxWalk

/-
  Rows of clauses of a call's own, whose own rows are older.
-/
namespace Go.Proofs.Ytiplfhmimpkplaa.QuWalk
open Go.RowKit Go.Proofs.Ytiplfhmimpkplaa.MemRow Go.Proofs.Ytiplfhmimpkplaa.Ev Go.Proofs.Ytiplfhmimpkplaa.NameMath Go.Proofs.Ytiplfhmimpkplaa.NameWalk Go.Proofs.Ytiplfhmimpkplaa.EvWalk Go.Proofs.Ytiplfhmimpkplaa.Qu

theorem clause_info : (Try.prog.info? 57).map (fun i => (i.zero, i.size, i.bytes)) = some (some (.agg #[.slice none 0 0, .slice none 0 0]), 2, 48) := by kernel_rfl
theorem clause_size : (Try.prog.info? 57).map (·.size) = some 2 := by kernel_rfl
theorem elem_clauses : Try.prog.elem 23 = 57 := by kernel_rfl

/-- The cells cs are the clauses q, as world w0 has them. -/
def ClsR (w0 : World) : List Cl → List Value → Prop
  | [], cs => cs = []
  | c :: q, cs => ∃ T nT cT Y nY cY cs', cs = .slice T nT cT :: .slice Y nY cY :: cs' ∧ RdS w0 T nT cT c.tags ∧ RdS w0 Y nY cY c.types ∧ ClsR w0 q cs'
theorem ClsR.snoc {w : World} {c : Cl} {T Y : Option Addr} {nT cT nY cY : Nat} (o1 : RdS w T nT cT c.tags) (o2 : RdS w Y nY cY c.types) :
    ∀ (q : List Cl) (cs : List Value), ClsR w q cs → ClsR w (q ++ [c]) (cs ++ [.slice T nT cT, .slice Y nY cY])
  | [], cs, h => by
    obtain rfl : cs = [] := h
    exact ⟨T, nT, cT, Y, nY, cY, [], rfl, o1, o2, rfl⟩
  | x :: q, cs, ⟨T1, n1, c1, F1, m1, d1, cs', hc, p1, p2, h⟩ => by
    subst hc
    exact ⟨T1, n1, c1, F1, m1, d1, cs' ++ [.slice T nT cT, .slice Y nY cY], rfl, p1, p2, ClsR.snoc o1 o2 q cs' h⟩
theorem ClsR.below {w w' : World} (hb : Below w.heap.size w w') : ∀ (q : List Cl) (cs : List Value), ClsR w q cs → ClsR w' q cs
  | [], _, h => h
  | _ :: q, _, ⟨T, nT, cT, Y, nY, cY, cs', e, o1, o2, h⟩ => ⟨T, nT, cT, Y, nY, cY, cs', e, RdC.below o1 hb, RdC.below o2 hb, ClsR.below hb q cs' h⟩
theorem ClsR.at_ {w : World} : ∀ (q : List Cl) (cs : List Value), ClsR w q cs → ∀ i, i < q.length →
    ∃ T nT cT Y nY cY, cs[i * 2]? = some (.slice T nT cT) ∧ cs[i * 2 + 1]? = some (.slice Y nY cY) ∧ RdS w T nT cT (q.getD i noCl).tags ∧ RdS w Y nY cY (q.getD i noCl).types
  | [], _, _, i, hi => by simp at hi
  | c :: q, cs, ⟨T, nT, cT, Y, nY, cY, cs', hc, o1, o2, h⟩, i, hi => by
    subst hc
    cases i with
    | zero => exact ⟨T, nT, cT, Y, nY, cY, rfl, rfl, o1, o2⟩
    | succ i =>
      obtain ⟨T1, n1, c1, F1, m1, d1, q0, q1, p1, p2⟩ := ClsR.at_ q cs' h i (by simpa using hi)
      have e2 : (i + 1) * 2 = i * 2 + 2 := by omega
      rw [e2]
      exact ⟨T1, n1, c1, F1, m1, d1, by simpa using q0, by simpa using q1, by simpa using p1, by simpa using p2⟩
/-- A slice of a call's own that holds clauses, their rows as world w0 has them. -/
def OwnQ (w0 w : World) (base : Nat) (A : Option Addr) (n cap : Nat) (q : List Cl) : Prop := ∃ cs, OwnC 2 w base 57 A n cap cs ∧ q.length = n ∧ ClsR w0 q cs
theorem OwnQ.nil (w0 w : World) (base : Nat) : OwnQ w0 w base none 0 0 [] := ⟨[], OwnC.nil _ _, rfl, rfl⟩
theorem OwnQ.len {w0 w : World} {base : Nat} {A : Option Addr} {n cap : Nat} {q : List Cl} (h : OwnQ w0 w base A n cap q) : q.length = n := by
  obtain ⟨_, _, h, _⟩ := h
  exact h
theorem OwnQ.below {w0 w w' : World} {base : Nat} {A : Option Addr} {n cap : Nat} {q : List Cl} (h : OwnQ w0 w base A n cap q) (hb : Below w.heap.size w w') : OwnQ w0 w' base A n cap q := by
  obtain ⟨cs, o, hl, hc⟩ := h
  exact ⟨cs, OwnC.below o hb, hl, hc⟩
theorem OwnQ.grown {w0 w w' : World} {base : Nat} {A : Option Addr} {n cap : Nat} {q : List Cl} {g : Nat} (h : OwnQ w0 w base A n cap q) (hg : w.grownBy w' (some g)) (hb : g < base) : OwnQ w0 w' base A n cap q := by
  obtain ⟨cs, o, hl, hc⟩ := h
  exact ⟨cs, OwnC.grown o hg fun a hA e => by
    have := (OwnC.lt o a hA).1
    injection e with e
    omega, hl, hc⟩
theorem OwnQ.rd {w0 w : World} {base : Nat} {A : Option Addr} {n cap : Nat} {q : List Cl} (h : OwnQ w0 w base A n cap q) (hb : Below w0.heap.size w0 w) : RdQ w A n cap q := by
  obtain ⟨cs, o, hl, hc⟩ := h
  have r := OwnC.rd o
  refine ⟨hl, r.2.1, r.2.2.1, fun hn => ?_⟩
  obtain ⟨b, a, hA, hlt, hcell⟩ := RdC.at_ r (by omega) hn
  refine ⟨b, a, hA, hlt, fun i hi => ?_⟩
  obtain ⟨T, nT, cT, Y, nY, cY, q0, q1, p1, p2⟩ := ClsR.at_ q cs hc i (by omega)
  exact ⟨T, nT, cT, Y, nY, cY, hcell _ _ q0, by rw [Nat.add_assoc]; exact hcell _ _ q1, RdC.below p1 hb, RdC.below p2 hb⟩
/-- A clause more. -/
theorem OwnQ.more {w0 w' : World} {base : Nat} {A' : Option Addr} {n cap' : Nat} {q : List Cl} {cs : List Value} {c : Cl} {T Y : Option Addr} {nT cT nY cY : Nat} (hl : q.length = n) (hc : ClsR w0 q cs) (o1 : RdS w0 T nT cT c.tags) (o2 : RdS w0 Y nY cY c.types)
    (ho' : OwnC 2 w' base 57 A' (n + 1) cap' (cs ++ [.slice T nT cT, .slice Y nY cY])) : OwnQ w0 w' base A' (n + 1) cap' (q ++ [c]) :=
  ⟨_, ho', by rw [List.length_append, hl]; rfl, ClsR.snoc o1 o2 q cs hc⟩
theorem cl_one (T Y : Option Addr) (nT cT nY cY : Nat) : ∀ v ∈ ([.slice T nT cT, .slice Y nY cY] : List Value), v.oneCell' = true := by
  intro v hv
  simp only [List.mem_cons, List.not_mem_nil, or_false] at hv
  rcases hv with rfl | rfl <;> rfl
theorem ClAt.set0 {w : World} {g : Nat} {v0 v1 : Value} (h : ClAt w g v0 v1) (x : Value) : ClAt (w.setCell ⟨g, 0, none⟩ x) g x v1 := by
  unfold ClAt at h ⊢
  simp only [World.setCell, Array.getElem?_modify, h]
  rfl
theorem ClAt.set1 {w : World} {g : Nat} {v0 v1 : Value} (h : ClAt w g v0 v1) (x : Value) : ClAt (w.setCell ⟨g, 1, none⟩ x) g v0 x := by
  unfold ClAt at h ⊢
  simp only [World.setCell, Array.getElem?_modify, h]
  rfl
theorem ClAt.far {w : World} {g b i : Nat} {v0 v1 : Value} (h : ClAt w g v0 v1) (hne : g ≠ b) (x : Value) : ClAt (w.setCell ⟨b, i, none⟩ x) g v0 v1 := by
  unfold ClAt at h ⊢
  simp only [World.setCell, Array.getElem?_modify]
  rw [if_neg (fun e => hne e.symm)]
  exact h
theorem QAt.set {w : World} {g : Nat} {v0 : Value} (h : QAt w g v0) (x : Value) : QAt (w.setCell ⟨g, 0, none⟩ x) g x := by
  unfold QAt at h ⊢
  simp only [World.setCell, Array.getElem?_modify, h]
  rfl
theorem QAt.far {w : World} {g b i : Nat} {v0 : Value} (h : QAt w g v0) (hne : g ≠ b) (x : Value) : QAt (w.setCell ⟨b, i, none⟩ x) g v0 := by
  unfold QAt at h ⊢
  simp only [World.setCell, Array.getElem?_modify]
  rw [if_neg (fun e => hne e.symm)]
  exact h
theorem grownSet (w : World) (g i : Nat) (x : Value) : w.grownBy (w.setCell ⟨g, i, none⟩ x) (some g) := by
  refine ⟨rfl, rfl, rfl, by simp [World.setCell], fun k _ hne => ?_⟩
  have : g ≠ k := fun e => hne (by rw [e])
  simp [World.setCell, Array.getElem?_modify, this]

/-- What stands while a query is made of another one: the argument's box, the result's cell, the query that is made. -/
structure MkAt (w0 wr w : World) (vq : Value) (A : Option Addr) (n cap : Nat) (q : List Cl) : Prop where
  eq : QAt wr w.heap.size vq
  res : QAt wr (w.heap.size + 1) (.slice none 0 0)
  out : QAt wr (w.heap.size + 1 + 1) (.slice A n cap)
  own : OwnQ w0 wr (w.heap.size + 1 + 1 + 1) A n cap q
  bel : Below w.heap.size w wr
section
variable {w0 wr w w' : World} {vq : Value} {A : Option Addr} {n cap : Nat} {q : List Cl}
theorem MkAt.below (h : MkAt w0 wr w vq A n cap q) (hb : Below wr.heap.size wr w') : MkAt w0 w' w vq A n cap q := ⟨h.eq.below hb, h.res.below hb, h.out.below hb, h.own.below hb, below_chain h.bel hb⟩
theorem MkAt.far (h : MkAt w0 wr w vq A n cap q) {g : Nat} (hg : w.heap.size + 1 + 1 < g) (hA : ∀ a, A = some a → a.block ≠ g) (i : Nat) (x : Value) : MkAt w0 (wr.setCell ⟨g, i, none⟩ x) w vq A n cap q := by
  obtain ⟨cs, o, hl, hc⟩ := h.own
  exact ⟨h.eq.far (by omega) x, h.res.far (by omega) x, h.out.far (by omega) x, ⟨cs, OwnC.grown o (grownSet wr g i x) (fun a ha e => hA a ha (by injection e)), hl, hc⟩, h.bel.setCell (by show w.heap.size ≤ g; omega) x⟩
theorem MkAt.new (w0 w : World) (vq : Value) : MkAt w0 (((w.alloc (.cells #[vq] 25)).alloc (.cells #[.slice none 0 0] 25)).alloc (.cells #[.slice none 0 0] 25)) w vq none 0 0 [] := by
  have a1 := QAt.new w vq
  have b1 : Below w.heap.size w (w.alloc (.cells #[vq] 25)) := (Below.refl _ _).alloc (Nat.le_refl _) _
  generalize hw1 : w.alloc (.cells #[vq] 25) = w1 at *
  have s1 : w1.heap.size = w.heap.size + 1 := by rw [← hw1]; simp
  have a2 := QAt.new w1 (.slice none 0 0)
  have b2 : Below w1.heap.size w1 (w1.alloc (.cells #[.slice none 0 0] 25)) := (Below.refl _ _).alloc (Nat.le_refl _) _
  generalize hw2 : w1.alloc (.cells #[.slice none 0 0] 25) = w2 at *
  have s2 : w2.heap.size = w.heap.size + 1 + 1 := by rw [← hw2]; simp [s1]
  have a3 := QAt.new w2 (.slice none 0 0)
  have b3 : Below w2.heap.size w2 (w2.alloc (.cells #[.slice none 0 0] 25)) := (Below.refl _ _).alloc (Nat.le_refl _) _
  rw [s1] at a2
  rw [s2] at a3
  exact ⟨(a1.below b2).below b3, a2.below b3, a3, OwnQ.nil _ _ _, below_chain (below_chain b1 b2) b3⟩
/-- A clause is appended, and the query's cell is written. -/
theorem MkAt.more {cs : List Value} {c : Cl} {T Y : Option Addr} {nT cT nY cY : Nat} {A' : Option Addr} {cap' : Nat} {w8 : World} (h : MkAt w0 wr w vq A n cap q) (ho : OwnC 2 wr (w.heap.size + 1 + 1 + 1) 57 A n cap cs) (hc : ClsR w0 q cs) (o1 : RdS w0 T nT cT c.tags) (o2 : RdS w0 Y nY cY c.types)
    (ho8 : OwnC 2 w8 (w.heap.size + 1 + 1 + 1) 57 A' (n + 1) cap' (cs ++ [.slice T nT cT, .slice Y nY cY])) (hg : wr.grownBy w8 (A.map (·.block))) :
    w8.frozen? ⟨w.heap.size + 1 + 1, 0, none⟩ = false ∧ w8.cell? ⟨w.heap.size + 1 + 1, 0, none⟩ = some (.slice A n cap) ∧ MkAt w0 (w8.setCell ⟨w.heap.size + 1 + 1, 0, none⟩ (.slice A' (n + 1) cap')) w vq A' (n + 1) cap' (q ++ [c]) := by
  have low : ∀ r, A.map (·.block) = some r → w.heap.size + 1 + 1 + 1 ≤ r := fun r e => by
    cases A with
    | none => cases e
    | some a =>
      simp only [Option.map_some, Option.some.injEq] at e
      have := (OwnC.lt ho a rfl).1
      omega
  have hF : ∀ k, k < w.heap.size + 1 + 1 + 1 → some k ≠ A.map (·.block) := fun k hk e => by have := low k e.symm; omega
  have e8 := h.out.grown hg (hF _ (by omega))
  have hs := grownSet w8 (w.heap.size + 1 + 1) 0 (.slice A' (n + 1) cap')
  refine ⟨e8.frozen 0, e8.c0, (h.eq.grown hg (hF _ (by omega))).far (by omega) _, (h.res.grown hg (hF _ (by omega))).far (by omega) _, e8.set _, OwnQ.grown (OwnQ.more h.own.len hc o1 o2 ho8) hs (by omega), ?_⟩
  have b8 := h.bel.grown hg h.bel.size (fun r e => by have := low r e; omega)
  exact b8.setCell (by show w.heap.size ≤ w.heap.size + 1 + 1; omega) _
end

end Go.Proofs.Ytiplfhmimpkplaa.QuWalk

/-
  The laws' words of layer 6: few.
-/
namespace Go.Proofs.Ytiplfhmimpkplaa.QuWalk
open Go.RowKit Go.Proofs.Ytiplfhmimpkplaa.MemRow Go.Proofs.Ytiplfhmimpkplaa.Ev Go.Proofs.Ytiplfhmimpkplaa.NameMath Go.Proofs.Ytiplfhmimpkplaa.NameWalk Go.Proofs.Ytiplfhmimpkplaa.EvWalk Go.Proofs.Ytiplfhmimpkplaa.Qu

/-- At most eight clauses, of eight tags and eight types each. -/
def fewC (c : Cl) : Cl := ⟨c.tags.take 8, c.types.take 8⟩
def fewQ (q : List Cl) : List Cl := (q.take 8).map fewC
theorem fewC_ok {c : Cl} (h : ClOk c) : ClOk (fewC c) := ⟨fun x hx => h.tags x (List.mem_of_mem_take hx), fun x hx => h.types x (List.mem_of_mem_take hx)⟩
theorem fewQ_ok {q : List Cl} (h : QOk q) : QOk (fewQ q) := fun c hc => by
  obtain ⟨d, hd, rfl⟩ := List.mem_map.1 hc
  exact fewC_ok (h d (List.mem_of_mem_take hd))
theorem fewQ_len (q : List Cl) : (fewQ q).length ≤ 8 := by simp only [fewQ, List.length_map, List.length_take]; omega
theorem fewQ_terms (q : List Cl) : ∀ c ∈ fewQ q, c.tags.length ≤ 8 ∧ c.types.length ≤ 8 := fun c hc => by
  obtain ⟨d, hd, rfl⟩ := List.mem_map.1 hc
  simp only [fewC, List.length_take]
  omega
theorem fewQ_snoc (q : List Cl) (j : Nat) (h : j < q.length) (h8 : j < 8) : fewQ (q.take (j + 1)) = fewQ (q.take j) ++ [fewC (q.getD j noCl)] := by
  unfold fewQ
  rw [List.take_take, List.take_take, Nat.min_eq_right (by omega), Nat.min_eq_right (by omega), cl_take q j h, List.map_append]
  rfl
theorem fewQ_take (q : List Cl) (j : Nat) (h : q.length ≤ j ∨ 8 ≤ j) : fewQ (q.take j) = fewQ q := by
  unfold fewQ
  rw [List.take_take]
  rcases h with h | h
  · congr 1
    rcases Nat.le_total 8 j with h8 | h8
    · rw [Nat.min_eq_left h8]
    · rw [Nat.min_eq_right h8, List.take_of_length_le h, List.take_of_length_le (by omega)]
  · rw [Nat.min_eq_left h]

end Go.Proofs.Ytiplfhmimpkplaa.QuWalk

/-
  The laws' words of layer 14: few, less.
-/
namespace Go.Proofs.Ytiplfhmimpkplaa.IxWalk
open Go.RowKit Go.Proofs.Ytiplfhmimpkplaa.MemRow Go.Proofs.Ytiplfhmimpkplaa.Ev Go.Proofs.Ytiplfhmimpkplaa.NameMath Go.Proofs.Ytiplfhmimpkplaa.NameWalk Go.Proofs.Ytiplfhmimpkplaa.EvWalk Go.Proofs.Ytiplfhmimpkplaa.NumMem Go.Proofs.Ytiplfhmimpkplaa.Qu Go.Proofs.Ytiplfhmimpkplaa.QuWalk Go.Proofs.Ytiplfhmimpkplaa.BtWalk

theorem fldSize14 : (Try.prog.info? 86).map (·.size) = some 2 := by kernel_rfl
theorem elemFlds14 : Try.prog.elem 45 = 86 := by kernel_rfl
theorem evInfo14 : (Try.prog.info? 47).map (fun i => (i.zero, i.size, i.bytes)) = some (some (.agg #[.string ⟨#[]⟩, .string ⟨#[]⟩, .slice none 0 0, .slice none 0 0]), 4, 80) := by kernel_rfl
/-- At most ten tags and fields. -/
def fewD (e : Ev) : Ev := ⟨e.s, e.t, e.tags.take 10, e.fs.take 10⟩
theorem fewD_ok {e : Ev} (h : EvOk e) : EvOk (fewD e) :=
  ⟨h.s, h.t, fun x hx => h.tags x (List.mem_of_mem_take hx), fun f hf => h.names f (List.mem_of_mem_take hf), fun f hf => h.nums f (List.mem_of_mem_take hf)⟩
/-- At most eight events, of ten tags and fields each. -/
def few8 (es : List Ev) : List Ev := (es.take 8).map fewD
theorem few8_len (es : List Ev) : (few8 es).length ≤ 8 := by simp only [few8, List.length_map, List.length_take]; omega
theorem evs_take (l : List Ev) (j : Nat) (h : j < l.length) : l.take (j + 1) = l.take j ++ [l.getD j noEv] := by
  rw [List.take_add_one, List.getElem?_eq_getElem h]
  simp [List.getD, List.getElem?_eq_getElem h]
theorem few8_snoc (es : List Ev) (j : Nat) (h : j < es.length) (h6 : j < 8) : few8 (es.take (j + 1)) = few8 (es.take j) ++ [fewD (es.getD j noEv)] := by
  unfold few8
  rw [List.take_take, List.take_take, Nat.min_eq_right (by omega), Nat.min_eq_right (by omega), evs_take es j h, List.map_append]
  rfl
theorem few8_take (es : List Ev) (j : Nat) (h : es.length ≤ j ∨ 8 ≤ j) : few8 (es.take j) = few8 es := by
  unfold few8
  rw [List.take_take]
  rcases h with h | h
  · congr 1
    rcases Nat.le_total 8 j with h8 | h8
    · rw [Nat.min_eq_left h8]
    · rw [Nat.min_eq_right h8, List.take_of_length_le h, List.take_of_length_le (by omega)]
  · rw [Nat.min_eq_left h]
theorem fewD_all {x : Bat} (h : BOk x) : ∀ e ∈ few8 x.es, EvOk e := fun e he => by
  obtain ⟨d, hd, rfl⟩ := List.mem_map.1 he
  exact fewD_ok (h.evs d (List.mem_of_mem_take hd))
def fewB (x : Bat) : Bat := ⟨x.a, few8 x.es⟩
theorem fewB_ok {x : Bat} (h : BOk x) : BOk (fewB x) := ⟨fun e he => by
  obtain ⟨d, hd, rfl⟩ := List.mem_map.1 he
  exact fewD_ok (h.evs d (List.mem_of_mem_take hd)), h.a⟩

set_option maxHeartbeats 8000000 in
set_option maxRecDepth 100000 in
theorem few14_any (v : Value) (x : Bat) (w0 w : World) (hv : IsB w0 v x) (hb0 : Below w0.heap.size w0 w) :
    Calls Try.prog 10 #[v] w fun e w' => ∃ A n ca, e = .returned (.agg #[.int .i64 x.a, .slice A n ca]) ∧ OwnO w0 w' (w.heap.size + 1 + 1 + 1) A n ca (few8 x.es) ∧ Below w.heap.size w w' := by
  obtain ⟨C, n, cap, rfl, rC⟩ := hv
  obtain ⟨a, es⟩ := x
  simp only at rC
  have LC := Go.Lib.hid rC.len
  have hn := rC.le
  unfold maxLen at hn
  have s1 := MkB.new w0 w a (.slice C n cap)
  go_enter Try.func10, Try.ntmps10
  go_upto_region 2 with (fail)
  generalize ((w.alloc (.cells #[.int .i64 a, .slice C n cap] 33)).alloc (.cells #[.int .i64 0, .slice none 0 0] 33)).alloc (.cells #[.int .i64 a, .slice none 0 0] 33) = w1 at *
  go_wp2_with fail
  go_loopw [4, 5] (fun i _ wr => ∃ (j : Nat) (A : Option Addr) (ca : Nat), j ≤ n ∧ j ≤ 8 ∧ i = .int .i64 j ∧ MkB w0 wr w a (.slice C n cap) A j ca (few8 (es.take j))) (fun i _ _ => n - (intOf i).toNat)
  case atStart => exact ⟨0, none, 0, Nat.zero_le _, by omega, rfl, s1⟩
  case round =>
    obtain ⟨j, A, ca, hjn, hj20, rfl, sr⟩ := hrel
    clear s1
    have k0 := sr.eq.c0
    have k1 := sr.eq.c1
    by_cases hlt : j < n ∧ j < 8
    · obtain ⟨h1, h2⟩ := hlt
      obtain ⟨bt, ot, rfl, _, kt⟩ := rC.at_ (by omega)
      obtain ⟨T, nT, cT, Y, nY, cY, x0', x1', x2', x3', rT, rY⟩ := kt j h1
      have bb := below_chain hb0 sr.bel
      have x0 := bcell bb x0'
      have x1 := bcell bb x1'
      have x2 := bcell bb x2'
      have x3 := bcell bb x3'
      have i1 : (j : Int) < n := by omega
      have i2 : (j : Int) < 8 := by omega
      have HS := Go.Lib.hid (few8_snoc es j (by rw [LC.out]; exact h1) h2)
      clear kt x0' x1' x2' x3' bb
      generalize es.getD j noEv = ev at *
      go_upto_region 6 with (fail)
      have al : Below wr.heap.size wr (wr.alloc (.cells #[.string ev.s, .string ev.t, .slice T nT cT, .slice Y nY cY] 47)) := (Below.refl _ _).alloc (Nat.le_refl _) _
      have c5 := EvAt.new wr (.string ev.s) (.string ev.t) (.slice T nT cT) (.slice Y nY cY)
      have s5 := sr.below al
      have glt : w.heap.size + 1 + 1 < wr.heap.size := sr.out.lt
      have gA : ∀ a, A = some a → a.block ≠ wr.heap.size := fun a hA => by
        obtain ⟨cs, o, _, _⟩ := sr.own
        have := (OwnC.lt o a hA).2
        omega
      have GA := Go.Lib.hid gA
      generalize wr.alloc (.cells #[.string ev.s, .string ev.t, .slice T nT cT, .slice Y nY cY] 47) = w5 at *
      generalize wr.heap.size = g at *
      have LT := Go.Lib.hid rT.len
      have LY := Go.Lib.hid rY.len
      have hnT := RdC.le rT
      have hnY := RdC.le rY
      unfold maxLen at hnT hnY
      clear sr k0 k1 x0 x1 x2 x3 al gA
      have k2 := c5.c2
      go_upto_if 28 with (fail)
      go_cut [5] (fun p wx => p = .pointer (some ⟨g, 0, none⟩) ∧ ∃ nT', EvAt wx g (.string ev.s) (.string ev.t) (.slice T nT' cT) (.slice Y nY cY) ∧ RdS w0 T nT' cT (ev.tags.take 10) ∧ MkB w0 wx w a (.slice (some ⟨bt, ot, none⟩) n cap) A j ca (few8 (es.take j)))
      case first =>
        by_cases h8 : 10 < nT
        · obtain ⟨q1, d1⟩ := slice_hi (P := Try.prog) 44 9 Try.underlying44 elem_strs string_size rT (m := 10) (by omega)
          rw [strs_take] at d1
          have q1' : ∀ W, (Instr.slice 44 (.slice T nT cT) none (some (.int .i64 10)) none).run Try.prog W = .ok (.slice T 10 cT) W := q1
          have i3 : (10 : Int) < nT := by omega
          have z5 := c5.frozen 2
          have c6 := c5.set2 (.slice T 10 cT)
          have s6 := s5.far glt GA.out 2 (.slice T 10 cT)
          have C6 := Go.Lib.hid c6
          have S6 := Go.Lib.hid s6
          clear q1 c6 s6
          go_wp2_with fail
          go_meet
          exact ⟨rfl, 10, C6.out, d1, S6.out⟩
        · have i3 : ¬ (10 : Int) < nT := by omega
          have d1 : RdS w0 T nT cT (ev.tags.take 10) := by rw [List.take_of_length_le (by rw [LT.out]; omega)]; exact rT
          go_wp2_with fail
          go_meet
          exact ⟨rfl, nT, c5, d1, s5⟩
      case rest =>
        obtain ⟨rfl, nT', c6, d6, s6⟩ := hcut
        clear k2 c5 s5
        have k3 := c6.c3
        go_upto_if 36 with (fail)
        go_cut [5] (fun p wx => p = .pointer (some ⟨g, 0, none⟩) ∧ ∃ nY', EvAt wx g (.string ev.s) (.string ev.t) (.slice T nT' cT) (.slice Y nY' cY) ∧ RdF w0 Y nY' cY (ev.fs.take 10) ∧ MkB w0 wx w a (.slice (some ⟨bt, ot, none⟩) n cap) A j ca (few8 (es.take j)))
        case first =>
          by_cases h8 : 10 < nY
          · obtain ⟨q1, d1⟩ := slice_hi (P := Try.prog) 45 86 Try.underlying45 elemFlds14 fldSize14 rY (m := 10) (by omega)
            rw [flds_take] at d1
            have q1' : ∀ W, (Instr.slice 45 (.slice Y nY cY) none (some (.int .i64 10)) none).run Try.prog W = .ok (.slice Y 10 cY) W := q1
            have i3 : (10 : Int) < nY := by omega
            have z5 := c6.frozen 3
            have c7 := c6.set3 (.slice Y 10 cY)
            have s7 := s6.far glt GA.out 3 (.slice Y 10 cY)
            have C7 := Go.Lib.hid c7
            have S7 := Go.Lib.hid s7
            clear q1 c7 s7
            go_wp2_with fail
            go_meet
            exact ⟨rfl, 10, C7.out, d1, S7.out⟩
          · have i3 : ¬ (10 : Int) < nY := by omega
            have d1 : RdF w0 Y nY cY (ev.fs.take 10) := by rw [List.take_of_length_le (by rw [LY.out]; omega)]; exact rY
            go_wp2_with fail
            go_meet
            exact ⟨rfl, nY, c6, d1, s6⟩
        case rest =>
          obtain ⟨rfl, nY', c7, d7, s7⟩ := hcut
          clear k3 c6 s6
          have k0 := c7.c0
          have k1 := c7.c1
          have k2 := c7.c2
          have k3 := c7.c3
          have o1 := s7.out.c1
          have al : Below wc.heap.size wc (wc.alloc (.cells #[.string ev.s, .string ev.t, .slice T nT' cT, .slice Y nY' cY] 47)) := (Below.refl _ _).alloc (Nat.le_refl _) _
          have s8 := s7.below al
          have d8 : RdC 4 (wc.alloc (.cells #[.string ev.s, .string ev.t, .slice T nT' cT, .slice Y nY' cY] 47)) (some ⟨wc.heap.size, 0, none⟩) 1 1 [.string ev.s, .string ev.t, .slice T nT' cT, .slice Y nY' cY] := RdC.new wc 47 [.string ev.s, .string ev.t, .slice T nT' cT, .slice Y nY' cY] rfl (by decide)
          have big : w.heap.size + 1 + 1 + 1 ≤ (wc.alloc (.cells #[.string ev.s, .string ev.t, .slice T nT' cT, .slice Y nY' cY] 47)).heap.size := s8.out.lt
          have h63 : j + 1 ≤ maxLen := by unfold maxLen; omega
          have hsz : (j + 1) * 80 ≤ 140737488355328 := by omega
          obtain ⟨cs, oc, hcl, hcs⟩ := s8.own
          clear s7 c7 GA al LT LY hnT hnY
          go_wp2_with (at_builtin; refine wpList_append_cells rfl (.tmp 42) (.tmp 44) 31 rfl 47 (.agg #[.string ⟨#[]⟩, .string ⟨#[]⟩, .slice none 0 0, .slice none 0 0]) 80 Try.underlying31 evInfo14 rfl (by decide) rfl rfl oc d8 (ev_one ev _ _ _ _ _ _) h63 hsz big ?_; intro A9 c9 w9 o9 g9 _; obtain ⟨z9, k9, n9⟩ := s8.more (e := fewD ev) oc hcs d6 d7 o9 g9)
          go_roundw
          case rel => exact ⟨j + 1, A9, c9, by omega, by omega, by go_num, by rw [HS.out]; exact n9⟩
          case measure => simp [intOf]; omega
    · have hq : few8 (es.take j) = few8 es := few8_take es j (by rw [LC.out]; omega)
      rw [hq] at sr
      have HQ := Go.Lib.hid hq
      have o0 := sr.out.c0
      have o1 := sr.out.c1
      have r0 := sr.res.c0
      have r1 := sr.res.c1
      have z0 := sr.res.frozen 0
      have z1 := sr.res.frozen 1
      have E9 := Go.Lib.hid (sr.res.all (.int .i64 a) (.slice A j ca))
      have RQ := Go.Lib.hid (sr.own.setB (g := w.heap.size + 1) (by omega) (.int .i64 a) (.slice A j ca))
      have bq0 : Below w.heap.size w (wr.setCell ⟨w.heap.size + 1, 0, none⟩ (.int .i64 a)) := sr.bel.setCell (by show w.heap.size ≤ w.heap.size + 1; omega) _
      have bq1 : Below w.heap.size w ((wr.setCell ⟨w.heap.size + 1, 0, none⟩ (.int .i64 a)).setCell ⟨w.heap.size + 1, 1, none⟩ (.slice A j ca)) := bq0.setCell (by show w.heap.size ≤ w.heap.size + 1; omega) _
      have BQ := Go.Lib.hid bq1
      clear bq0 bq1
      clear hq
      by_cases h1 : j < n
      · have i2 : ¬ (j : Int) < 8 := by omega
        have i1 : (j : Int) < n := by omega
        clear hlt
        go_wp2_with fail
        have e9 := E9.out
        have rq9 := RQ.out
        have b9 := BQ.out
        generalize (wr.setCell ⟨w.heap.size + 1, 0, none⟩ (.int .i64 a)).setCell ⟨w.heap.size + 1, 1, none⟩ (.slice A j ca) = w9 at *
        have q0 := e9.c0
        have q1 := e9.c1
        exact bodyPost_ret (v := .agg #[.int .i64 a, .slice A j ca]) (by simp [results, Try.results10, go_sem, q0, q1]) rfl ⟨_, _, _, rfl, rq9, b9⟩
      · have i1 : ¬ (j : Int) < n := by omega
        clear hlt
        go_wp2_with fail
        have e9 := E9.out
        have rq9 := RQ.out
        have b9 := BQ.out
        generalize (wr.setCell ⟨w.heap.size + 1, 0, none⟩ (.int .i64 a)).setCell ⟨w.heap.size + 1, 1, none⟩ (.slice A j ca) = w9 at *
        have q0 := e9.c0
        have q1 := e9.c1
        exact bodyPost_ret (v := .agg #[.int .i64 a, .slice A j ca]) (by simp [results, Try.results10, go_sem, q0, q1]) rfl ⟨_, _, _, rfl, rq9, b9⟩

/-! ### The document's example -/

set_option maxHeartbeats 8000000 in
set_option maxRecDepth 100000 in
theorem less14_any (v : Value) (q : List Cl) (w0 w : World) (hv : IsQ w0 v q) (hb0 : Below w0.heap.size w0 w) :
    Calls Try.prog 13 #[v] w fun e w' => ∃ A n ca, e = .returned (.agg #[.slice A n ca]) ∧ OwnQ w0 w' (w.heap.size + 1 + 1 + 1) A n ca (fewQ q) ∧ Below w.heap.size w w' := by
  obtain ⟨C, n, cap, rfl, rC⟩ := hv
  have LC := Go.Lib.hid rC.len
  have hn := rC.le
  unfold maxLen at hn
  have s1 := MkAt.new w0 w (.slice C n cap)
  go_enter Try.func13, Try.ntmps13
  go_upto_region 2 with (fail)
  generalize ((w.alloc (.cells #[.slice C n cap] 25)).alloc (.cells #[.slice none 0 0] 25)).alloc (.cells #[.slice none 0 0] 25) = w1 at *
  go_wp2_with fail
  go_loopw [4, 5] (fun i _ wr => ∃ (j : Nat) (A : Option Addr) (ca : Nat), j ≤ n ∧ j ≤ 8 ∧ i = .int .i64 j ∧ MkAt w0 wr w (.slice C n cap) A j ca (fewQ (q.take j))) (fun i _ _ => n - (intOf i).toNat)
  case atStart => exact ⟨0, none, 0, Nat.zero_le _, by omega, rfl, s1⟩
  case round =>
    obtain ⟨j, A, ca, hjn, hj8, rfl, sr⟩ := hrel
    clear s1
    have k0 := sr.eq.c0
    by_cases hlt : j < n ∧ j < 8
    · obtain ⟨h1, h2⟩ := hlt
      obtain ⟨bt, ot, rfl, _, kt⟩ := rC.at_ (by omega)
      obtain ⟨T, nT, cT, Y, nY, cY, x0', x1', rT, rY⟩ := kt j h1
      have x0 := bcell (below_chain hb0 sr.bel) x0'
      have x1 := bcell (below_chain hb0 sr.bel) x1'
      have i1 : (j : Int) < n := by omega
      have i2 : (j : Int) < 8 := by omega
      have HS := Go.Lib.hid (fewQ_snoc q j (by rw [LC.out]; exact h1) h2)
      clear kt x0' x1'
      generalize q.getD j noCl = c at *
      go_upto_region 6 with (fail)
      have al : Below wr.heap.size wr (wr.alloc (.cells #[.slice T nT cT, .slice Y nY cY] 57)) := (Below.refl _ _).alloc (Nat.le_refl _) _
      have c5 := ClAt.new wr (.slice T nT cT) (.slice Y nY cY)
      have s5 := sr.below al
      have glt : w.heap.size + 1 + 1 < wr.heap.size := sr.out.lt
      have gA : ∀ a, A = some a → a.block ≠ wr.heap.size := fun a hA => by
        obtain ⟨cs, o, _, _⟩ := sr.own
        have := (OwnC.lt o a hA).2
        omega
      have GA := Go.Lib.hid gA
      generalize wr.alloc (.cells #[.slice T nT cT, .slice Y nY cY] 57) = w5 at *
      generalize wr.heap.size = g at *
      have LT := Go.Lib.hid rT.len
      have LY := Go.Lib.hid rY.len
      have hnT := RdC.le rT
      have hnY := RdC.le rY
      unfold maxLen at hnT hnY
      clear sr k0 x0 x1 al gA
      have k5 := c5.c0
      go_upto_if 26 with (fail)
      go_cut [5] (fun p wx => p = .pointer (some ⟨g, 0, none⟩) ∧ ∃ nT', ClAt wx g (.slice T nT' cT) (.slice Y nY cY) ∧ RdS w0 T nT' cT (c.tags.take 8) ∧ MkAt w0 wx w (.slice (some ⟨bt, ot, none⟩) n cap) A j ca (fewQ (q.take j)))
      case first =>
        by_cases h8 : 8 < nT
        · obtain ⟨q1, d1⟩ := slice_hi (P := Try.prog) 44 9 Try.underlying44 elem_strs string_size rT (m := 8) (by omega)
          rw [strs_take] at d1
          have q1' : ∀ W, (Instr.slice 44 (.slice T nT cT) none (some (.int .i64 8)) none).run Try.prog W = .ok (.slice T 8 cT) W := q1
          have i3 : (8 : Int) < nT := by omega
          have z5 := c5.frozen 0
          have c6 := c5.set0 (.slice T 8 cT)
          have s6 := s5.far glt GA.out 0 (.slice T 8 cT)
          have C6 := Go.Lib.hid c6
          have S6 := Go.Lib.hid s6
          clear q1 c6 s6
          go_wp2_with fail
          go_meet
          exact ⟨rfl, 8, C6.out, d1, S6.out⟩
        · have i3 : ¬ (8 : Int) < nT := by omega
          have d1 : RdS w0 T nT cT (c.tags.take 8) := by rw [List.take_of_length_le (by rw [LT.out]; omega)]; exact rT
          go_wp2_with fail
          go_meet
          exact ⟨rfl, nT, c5, d1, s5⟩
      case rest =>
        obtain ⟨rfl, nT', c6, d6, s6⟩ := hcut
        clear k5 c5 s5
        have k6 := c6.c1
        go_upto_if 34 with (fail)
        go_cut [5] (fun p wx => p = .pointer (some ⟨g, 0, none⟩) ∧ ∃ nY', ClAt wx g (.slice T nT' cT) (.slice Y nY' cY) ∧ RdS w0 Y nY' cY (c.types.take 8) ∧ MkAt w0 wx w (.slice (some ⟨bt, ot, none⟩) n cap) A j ca (fewQ (q.take j)))
        case first =>
          by_cases h8 : 8 < nY
          · obtain ⟨q1, d1⟩ := slice_hi (P := Try.prog) 44 9 Try.underlying44 elem_strs string_size rY (m := 8) (by omega)
            rw [strs_take] at d1
            have q1' : ∀ W, (Instr.slice 44 (.slice Y nY cY) none (some (.int .i64 8)) none).run Try.prog W = .ok (.slice Y 8 cY) W := q1
            have i3 : (8 : Int) < nY := by omega
            have z5 := c6.frozen 1
            have c7 := c6.set1 (.slice Y 8 cY)
            have s7 := s6.far glt GA.out 1 (.slice Y 8 cY)
            have C7 := Go.Lib.hid c7
            have S7 := Go.Lib.hid s7
            clear q1 c7 s7
            go_wp2_with fail
            go_meet
            exact ⟨rfl, 8, C7.out, d1, S7.out⟩
          · have i3 : ¬ (8 : Int) < nY := by omega
            have d1 : RdS w0 Y nY cY (c.types.take 8) := by rw [List.take_of_length_le (by rw [LY.out]; omega)]; exact rY
            go_wp2_with fail
            go_meet
            exact ⟨rfl, nY, c6, d1, s6⟩
        case rest =>
          obtain ⟨rfl, nY', c7, d7, s7⟩ := hcut
          clear k6 c6 s6
          have k0 := c7.c0
          have k1 := c7.c1
          have o0 := s7.out.c0
          have al : Below wc.heap.size wc (wc.alloc (.cells #[.slice T nT' cT, .slice Y nY' cY] 57)) := (Below.refl _ _).alloc (Nat.le_refl _) _
          have s8 := s7.below al
          have d8 : RdC 2 (wc.alloc (.cells #[.slice T nT' cT, .slice Y nY' cY] 57)) (some ⟨wc.heap.size, 0, none⟩) 1 1 [.slice T nT' cT, .slice Y nY' cY] := RdC.new wc 57 [.slice T nT' cT, .slice Y nY' cY] rfl (by decide)
          have big : w.heap.size + 1 + 1 + 1 ≤ (wc.alloc (.cells #[.slice T nT' cT, .slice Y nY' cY] 57)).heap.size := s8.out.lt
          have h63 : j + 1 ≤ maxLen := by unfold maxLen; omega
          have hsz : (j + 1) * 48 ≤ 140737488355328 := by omega
          obtain ⟨cs, oc, hcl, hcs⟩ := s8.own
          clear s7 c7 GA al LT LY hnT hnY
          go_wp2_with (at_builtin; refine wpList_append_cells rfl (.tmp 40) (.tmp 42) 23 rfl 57 (.agg #[.slice none 0 0, .slice none 0 0]) 48 Try.underlying23 clause_info rfl (by decide) rfl rfl oc d8 (cl_one _ _ _ _ _ _) h63 hsz big ?_; intro A9 c9 w9 o9 g9 _; obtain ⟨z9, k9, n9⟩ := s8.more (c := fewC c) oc hcs d6 d7 o9 g9)
          go_roundw
          case rel => exact ⟨j + 1, A9, c9, by omega, by omega, by go_num, by rw [HS.out]; exact n9⟩
          case measure => simp [intOf]; omega
    · have hq : fewQ (q.take j) = fewQ q := fewQ_take q j (by rw [LC.out]; omega)
      rw [hq] at sr
      have HQ := Go.Lib.hid hq
      have o0 := sr.out.c0
      have r0 := sr.res.c0
      have z0 := sr.res.frozen 0
      have e9 := sr.res.set (.slice A j ca)
      have rq9 : OwnQ w0 (wr.setCell ⟨w.heap.size + 1, 0, none⟩ (.slice A j ca)) (w.heap.size + 1 + 1 + 1) A j ca (fewQ q) :=
        OwnQ.grown sr.own (grownSet wr (w.heap.size + 1) 0 (.slice A j ca)) (by omega)
      have b9 : Below w.heap.size w (wr.setCell ⟨w.heap.size + 1, 0, none⟩ (.slice A j ca)) := sr.bel.setCell (by show w.heap.size ≤ w.heap.size + 1; omega) _
      have E9 := Go.Lib.hid e9
      have RQ := Go.Lib.hid rq9
      have BQ := Go.Lib.hid b9
      clear hq e9 rq9 b9
      by_cases h1 : j < n
      · have i2 : ¬ (j : Int) < 8 := by omega
        have i1 : (j : Int) < n := by omega
        clear hlt
        go_wp2_with fail
        have e9 := E9.out
        have rq9 := RQ.out
        have b9 := BQ.out
        generalize wr.setCell ⟨w.heap.size + 1, 0, none⟩ (.slice A j ca) = w9 at *
        have q0 := e9.c0
        exact bodyPost_ret (v := .agg #[.slice A j ca]) (by simp [results, Try.results13, go_sem, q0]) rfl ⟨_, _, _, rfl, rq9, b9⟩
      · have i1 : ¬ (j : Int) < n := by omega
        clear hlt
        go_wp2_with fail
        have e9 := E9.out
        have rq9 := RQ.out
        have b9 := BQ.out
        generalize wr.setCell ⟨w.heap.size + 1, 0, none⟩ (.slice A j ca) = w9 at *
        have q0 := e9.c0
        exact bodyPost_ret (v := .agg #[.slice A j ca]) (by simp [results, Try.results13, go_sem, q0]) rfl ⟨_, _, _, rfl, rq9, b9⟩



end Go.Proofs.Ytiplfhmimpkplaa.IxWalk

/-
  Rows of batches, read. No encodings here.
-/
namespace Go.Proofs.Ytiplfhmimpkplaa.BtWalk
open Go.RowKit Go.Proofs.Ytiplfhmimpkplaa.MemRow Go.Proofs.Ytiplfhmimpkplaa.Ev Go.Proofs.Ytiplfhmimpkplaa.NameMath Go.Proofs.Ytiplfhmimpkplaa.NameWalk Go.Proofs.Ytiplfhmimpkplaa.EvWalk Go.Proofs.Ytiplfhmimpkplaa.NumMem

/-- The two cells at an address read as a batch. -/
def BaCells (w : World) (b o : Nat) (x : Bat) : Prop := ∃ A n ca, w.cell? ⟨b, o, none⟩ = some (.int .i64 x.a) ∧ w.cell? ⟨b, o + 1, none⟩ = some (.slice A n ca) ∧ RdE w A n ca x.es
theorem BaCells.below {w w' : World} {b o : Nat} {x : Bat} (h : BaCells w b o x) (hb : Below w.heap.size w w') : BaCells w' b o x := by
  obtain ⟨A, n, ca, h0, h1, h2⟩ := h
  exact ⟨A, n, ca, bcell hb h0, bcell hb h1, h2.below hb⟩
/-- A slice that reads as batches. -/
def RdBs (w : World) (A : Option Addr) (n cap : Nat) (xs : List Bat) : Prop :=
  xs.length = n ∧ n ≤ cap ∧ cap ≤ maxLen ∧ (0 < n → ∃ b o, A = some ⟨b, o, none⟩ ∧ b < w.heap.size ∧ ∀ i, i < n → BaCells w b (o + i * 2) (xs.getD i noBat))
section
variable {w w' : World} {A : Option Addr} {n cap : Nat} {xs : List Bat}
theorem RdBs.nil (w : World) : RdBs w none 0 0 [] := ⟨rfl, Nat.le_refl _, Nat.zero_le _, fun h => absurd h (by omega)⟩
theorem RdBs.len (h : RdBs w A n cap xs) : xs.length = n := h.1
theorem RdBs.le (h : RdBs w A n cap xs) : n ≤ maxLen := Nat.le_trans h.2.1 h.2.2.1
theorem RdBs.at_ (h : RdBs w A n cap xs) (hn : 0 < n) : ∃ b o, A = some ⟨b, o, none⟩ ∧ b < w.heap.size ∧ ∀ i, i < n → BaCells w b (o + i * 2) (xs.getD i noBat) := h.2.2.2 hn
theorem RdBs.below (h : RdBs w A n cap xs) (hb : Below w.heap.size w w') : RdBs w' A n cap xs :=
  ⟨h.1, h.2.1, h.2.2.1, fun hn => by
    obtain ⟨b, o, hA, hlt, hc⟩ := h.2.2.2 hn
    exact ⟨b, o, hA, Nat.lt_of_lt_of_le hlt hb.size, fun i hi => (hc i hi).below hb⟩⟩
end

theorem bat_take (l : List Bat) (j : Nat) (h : j < l.length) : l.take (j + 1) = l.take j ++ [l.getD j noBat] := by
  rw [List.take_succ_eq_append_getElem h]
  simp [List.getD, List.getElem?_eq_getElem h]
theorem bat_get {l : List Bat} {j : Nat} (h : j < l.length) : l.getD j noBat ∈ l := by
  simp only [List.getD, List.getElem?_eq_getElem h, Option.getD_some]
  exact List.getElem_mem h


end Go.Proofs.Ytiplfhmimpkplaa.BtWalk

/-
  Layer 14: records that a call gave, the caller's own; what is asked of the landed index.
-/
namespace Go.Proofs.Ytiplfhmimpkplaa.IxWalk
open Go.RowKit Go.Proofs.Ytiplfhmimpkplaa.MemRow Go.Proofs.Ytiplfhmimpkplaa.Ev Go.Proofs.Ytiplfhmimpkplaa.NameMath Go.Proofs.Ytiplfhmimpkplaa.NameWalk Go.Proofs.Ytiplfhmimpkplaa.EvWalk Go.Proofs.Ytiplfhmimpkplaa.NumMem Go.Proofs.Ytiplfhmimpkplaa.Qu Go.Proofs.Ytiplfhmimpkplaa.QuWalk Go.Proofs.Ytiplfhmimpkplaa.SmWalk Go.Proofs.Ytiplfhmimpkplaa.BtWalk Go.Proofs.Ytiplfhmimpkplaa.DkWalk

/-! ### Records that a call gave -/
/-- A row that may be written, in the blocks G. -/
def Wr (w : World) (G : Nat → Prop) (A : Option Addr) (n k : Nat) (t : TypeId) : Prop := 0 < n → ∃ b o cur, A = some ⟨b, o, none⟩ ∧ G b ∧ w.heap[b]? = some (.cells cur t (0, 0)) ∧ o + n * k ≤ cur.size
theorem Wr.keep {w w' : World} {G : Nat → Prop} {A : Option Addr} {n k : Nat} {t : TypeId} (h : Wr w G A n k t) (hk : ∀ i, G i → w'.heap[i]? = w.heap[i]?) : Wr w' G A n k t := fun hn => by
  obtain ⟨b, o, cur, e, hg, hb, hs⟩ := h hn
  exact ⟨b, o, cur, e, hg, (hk b hg).trans hb, hs⟩
theorem Wr.rd {w w' : World} {G : Nat → Prop} {A : Option Addr} {n k c : Nat} {t : TypeId} {cs : List Value} (h : Wr w G A n k t) (hr : RdC k w A n c cs) (hk : ∀ i, G i → w'.heap[i]? = w.heap[i]?) : RdC k w' A n c cs := by
  refine RdC.keepN hr fun hn b o hA i v hc => ?_
  obtain ⟨b', o', cur, e, hg, _, _⟩ := h hn
  rw [hA] at e
  injection e with e
  injection e with e1 e2
  subst e1
  have e := hk b hg
  exact (World.cell?_of_block (w := w) (a := ⟨b, o + i, none⟩) e).trans hc
/-- The six cells of a record whose rows may be written, in the blocks G. -/
def RoCells (w : World) (G : Nat → Prop) (b o : Nat) (r : Rc) : Prop :=
  ∃ T nT cT F nF cF, w.cell? ⟨b, o, none⟩ = some (.int .i64 r.pos) ∧ w.cell? ⟨b, o + 1, none⟩ = some (.int .i64 r.ver) ∧ w.cell? ⟨b, o + 2, none⟩ = some (.string r.e.s) ∧ w.cell? ⟨b, o + 3, none⟩ = some (.string r.e.t) ∧ w.cell? ⟨b, o + 4, none⟩ = some (.slice T nT cT) ∧ w.cell? ⟨b, o + 5, none⟩ = some (.slice F nF cF) ∧ RdS w T nT cT r.e.tags ∧ RdF w F nF cF r.e.fs ∧ Wr w G T nT 1 9 ∧ Wr w G F nF 2 86
/-- A row of records of the caller's own: the row in G1, the records' rows in G2. -/
def RoW (w : World) (G1 G2 : Nat → Prop) (A : Option Addr) (n c : Nat) (rs : List Rc) : Prop :=
  rs.length = n ∧ n ≤ c ∧ c ≤ maxLen ∧ (0 < n → ∃ b o, A = some ⟨b, o, none⟩ ∧ b < w.heap.size ∧ G1 b ∧ ∀ i, i < n → RoCells w G2 b (o + i * 6) (rs.getD i noRc))
theorem RoW.rd {w : World} {G1 G2 : Nat → Prop} {A : Option Addr} {n c : Nat} {rs : List Rc} (h : RoW w G1 G2 A n c rs) : RdRc w A n c rs :=
  ⟨h.1, h.2.1, h.2.2.1, fun hn => by
    obtain ⟨b, o, hA, hlt, _, hc⟩ := h.2.2.2 hn
    exact ⟨b, o, hA, hlt, fun i hi => by
      obtain ⟨T, nT, cT, F, nF, cF, h0, h1, h2, h3, h4, h5, h6, h7, _⟩ := hc i hi
      exact ⟨T, nT, cT, F, nF, cF, h0, h1, h2, h3, h4, h5, h6, h7⟩⟩⟩
theorem RoW.keep {w w' : World} {G1 G2 : Nat → Prop} {A : Option Addr} {n c : Nat} {rs : List Rc} (h : RoW w G1 G2 A n c rs) (hs : w.heap.size ≤ w'.heap.size) (h1 : ∀ i, G1 i → w'.heap[i]? = w.heap[i]?) (h2 : ∀ i, G2 i → w'.heap[i]? = w.heap[i]?) : RoW w' G1 G2 A n c rs :=
  ⟨h.1, h.2.1, h.2.2.1, fun hn => by
    obtain ⟨b, o, hA, hlt, hg, hc⟩ := h.2.2.2 hn
    refine ⟨b, o, hA, Nat.lt_of_lt_of_le hlt hs, hg, fun i hi => ?_⟩
    obtain ⟨T, nT, cT, F, nF, cF, k0, k1, k2, k3, k4, k5, k6, k7, k8, k9⟩ := hc i hi
    have kk : ∀ (j : Nat) (v : Value), w.cell? ⟨b, j, none⟩ = some v → w'.cell? ⟨b, j, none⟩ = some v := fun j v hv => by
      have e := h1 b hg
      exact (World.cell?_of_block (w := w) (a := ⟨b, j, none⟩) e).trans hv
    exact ⟨T, nT, cT, F, nF, cF, kk _ _ k0, kk _ _ k1, kk _ _ k2, kk _ _ k3, kk _ _ k4, kk _ _ k5, k8.rd k6 h2, k9.rd k7 h2, k8.keep h2, k9.keep h2⟩⟩
def RoT (A : Option Addr) (n c : Nat) (rs : List Rc) : Thing := fun w G => ∃ G1 G2 : Nat → Prop, RoW w G1 G2 A n c rs ∧ (∀ k, G1 k → G k) ∧ (∀ k, G2 k → G k) ∧ (∀ k, G1 k → ¬ G2 k) ∧ ∀ k, G k → k < w.heap.size
theorem roT_keeps (A : Option Addr) (n c : Nat) (rs : List Rc) : Keeps (RoT A n c rs) :=
  ⟨fun ⟨G1, G2, h, i1, i2, i3, i4⟩ hs hk => ⟨G1, G2, h.keep hs (fun k hk1 => hk k (i1 k hk1)) (fun k hk2 => hk k (i2 k hk2)), i1, i2, i3, fun k hg => Nat.lt_of_lt_of_le (i4 k hg) hs⟩, fun ⟨_, _, _, _, _, _, h⟩ => h⟩
theorem pair_ro {base : Nat} {w : World} {P Q : Thing} {A : Option Addr} {n c : Nat} {rs : List Rc} (h : Pair base w P (With Q (RoT A n c rs))) : RdRc w A n c rs := by
  obtain ⟨_, _, _, ⟨_, _, _, ⟨_, _, hr, _⟩, _⟩, _⟩ := h
  exact hr.rd

/-! ### What is asked of the landed index -/
/-- A query as the laws hand it over. -/
def QFew (q : List Cl) : Prop := QOk q ∧ q.length ≤ 8 ∧ ∀ c ∈ q, c.tags.length ≤ 8 ∧ c.types.length ≤ 8
/-- A log as the laws make it. -/
def LogOk (es : List Ev) : Prop := es.length ≤ 400 ∧ ∀ e ∈ es, mayE e = 0
structure IApi (Ix : Nat → List Ev → Thing) : Prop where
  keeps : ∀ g es, Keeps (Ix g es)
  new : ∀ {base : Nat} {w : World} {G : Nat → Prop} {Q : Thing}, Q w G → Keeps Q → (∀ k, G k → base ≤ k) → base ≤ w.heap.size →
    Calls Try.prog 9 #[] w fun e w' => ∃ g, e = .returned (.pointer (some ⟨g, 0, none⟩)) ∧ Pair base w' (Ix g []) Q ∧ Below w.heap.size w w'
  add : ∀ {base : Nat} {w : World} {g : Nat} {es : List Ev} {Q : Thing} {v : Value} {x : Bat}, Pair base w (Ix g es) Q → Keeps Q → base ≤ w.heap.size → LogOk es → es.length + x.es.length ≤ 400 → (∀ (w' : World) (G : Nat → Prop), Q w' G → Below base w w' → IsB w' v x) → BOk x →
    Calls Try.prog 12 #[.pointer (some ⟨g, 0, none⟩), v] w fun r w' => ∃ B m c, r = .returned (.tuple #[.slice B m c, .int .i64 (addB es x).1]) ∧ Pair base w' (Ix g (addB es x).2.2) (With Q (RoT B m c (addB es x).2.1)) ∧ Below base w w'
  last : ∀ {base : Nat} {w : World} {g : Nat} {es : List Ev} {Q : Thing}, Pair base w (Ix g es) Q → Keeps Q → LogOk es →
    Calls Try.prog 11 #[.pointer (some ⟨g, 0, none⟩)] w fun e w' => e = .returned (.int .i64 (es.length : Nat)) ∧ Pair base w' (Ix g es) Q ∧ Below w.heap.size w w'
  all : ∀ {base : Nat} {w : World} {g : Nat} {es : List Ev} {Q : Thing} {u : Int}, Pair base w (Ix g es) Q → Keeps Q → base ≤ w.heap.size → LogOk es → (-9223372036854775808 ≤ u ∧ u ≤ 9223372036854775807) →
    Calls Try.prog 21 #[.pointer (some ⟨g, 0, none⟩), .int .i64 u] w fun e w' => ∃ B m c, e = .returned (.slice B m c) ∧ Pair base w' (Ix g es) (With Q (RoT B m c (allF es u))) ∧ Below w.heap.size w w'
  str : ∀ {base : Nat} {w : World} {g : Nat} {es : List Ev} {Q : Thing} {s : ByteArray} {u : Int}, Pair base w (Ix g es) Q → Keeps Q → base ≤ w.heap.size → LogOk es → s.size ≤ maxLen → (-9223372036854775808 ≤ u ∧ u ≤ 9223372036854775807) →
    Calls Try.prog 14 #[.pointer (some ⟨g, 0, none⟩), .string s, .int .i64 u] w fun e w' => ∃ B m c, e = .returned (.slice B m c) ∧ Pair base w' (Ix g es) (With Q (RoT B m c (strF es s u))) ∧ Below w.heap.size w w'
  qry : ∀ {base : Nat} {w : World} {g : Nat} {es : List Ev} {Q : Thing} {v : Value} {q : List Cl} {u : Int}, Pair base w (Ix g es) Q → Keeps Q → base ≤ w.heap.size → LogOk es → IsQ w v q → QFew q → (-9223372036854775808 ≤ u ∧ u ≤ 9223372036854775807) →
    Calls Try.prog 15 #[.pointer (some ⟨g, 0, none⟩), v, .int .i64 u] w fun e w' => ∃ B m c, e = .returned (.slice B m c) ∧ Pair base w' (Ix g es) (With Q (RoT B m c (qryF es q u))) ∧ Below w.heap.size w w'
  ver : ∀ {base : Nat} {w : World} {g : Nat} {es : List Ev} {Q : Thing} {s : ByteArray} {u : Int}, Pair base w (Ix g es) Q → Keeps Q → LogOk es → s.size ≤ maxLen → (-9223372036854775808 ≤ u ∧ u ≤ 9223372036854775807) →
    Calls Try.prog 20 #[.pointer (some ⟨g, 0, none⟩), .string s, .int .i64 u] w fun e w' => e = .returned (.int .i64 ((strF es s u).length : Nat)) ∧ Pair base w' (Ix g es) Q ∧ Below w.heap.size w w'
  since : ∀ {base : Nat} {w : World} {g : Nat} {es : List Ev} {Q : Thing} {v : Value} {q : List Cl} {a : Int}, Pair base w (Ix g es) Q → Keeps Q → LogOk es → IsQ w v q → QFew q → (-9223372036854775808 ≤ a ∧ a ≤ 9223372036854775807) →
    Calls Try.prog 18 #[.pointer (some ⟨g, 0, none⟩), v, .int .i64 a] w fun e w' => e = .returned (.bool (sinceF es q a)) ∧ Pair base w' (Ix g es) Q ∧ Below w.heap.size w w'
/-- .. and two, one of them made by Clone: they may share memory. -/
structure ITwo (Ix : Nat → List Ev → Thing) (It : Nat → List Ev → Nat → List Ev → Thing) : Prop extends IApi Ix where
  tkeeps : ∀ g es g' es', Keeps (It g es g' es')
  swap : ∀ g es g' es', Imp (It g es g' es') (It g' es' g es)
  fst : ∀ g es g' es', Imp (It g es g' es') (Ix g es)
  clone : ∀ {base : Nat} {w : World} {g : Nat} {es : List Ev} {Q : Thing}, Pair base w (Ix g es) Q → Keeps Q → base ≤ w.heap.size → LogOk es →
    Calls Try.prog 25 #[.pointer (some ⟨g, 0, none⟩)] w fun e w' => ∃ g', e = .returned (.pointer (some ⟨g', 0, none⟩)) ∧ Pair base w' (It g es g' es) Q ∧ Below w.heap.size w w'
  tadd : ∀ {base : Nat} {w : World} {g g' : Nat} {es es' : List Ev} {Q : Thing} {v : Value} {x : Bat}, Pair base w (It g es g' es') Q → Keeps Q → base ≤ w.heap.size → LogOk es → es.length + x.es.length ≤ 400 → (∀ (w' : World) (G : Nat → Prop), Q w' G → Below base w w' → IsB w' v x) → BOk x →
    Calls Try.prog 12 #[.pointer (some ⟨g, 0, none⟩), v] w fun r w' => ∃ B m c, r = .returned (.tuple #[.slice B m c, .int .i64 (addB es x).1]) ∧ Pair base w' (It g (addB es x).2.2 g' es') (With Q (RoT B m c (addB es x).2.1)) ∧ Below base w w'
  tlast : ∀ {base : Nat} {w : World} {g g' : Nat} {es es' : List Ev} {Q : Thing}, Pair base w (It g es g' es') Q → Keeps Q → LogOk es →
    Calls Try.prog 11 #[.pointer (some ⟨g, 0, none⟩)] w fun e w' => e = .returned (.int .i64 (es.length : Nat)) ∧ Pair base w' (It g es g' es') Q ∧ Below w.heap.size w w'
  tall : ∀ {base : Nat} {w : World} {g g' : Nat} {es es' : List Ev} {Q : Thing} {u : Int}, Pair base w (It g es g' es') Q → Keeps Q → base ≤ w.heap.size → LogOk es → (-9223372036854775808 ≤ u ∧ u ≤ 9223372036854775807) →
    Calls Try.prog 21 #[.pointer (some ⟨g, 0, none⟩), .int .i64 u] w fun e w' => ∃ B m c, e = .returned (.slice B m c) ∧ Pair base w' (It g es g' es') (With Q (RoT B m c (allF es u))) ∧ Below w.heap.size w w'
theorem logOk_nil : LogOk [] := ⟨Nat.zero_le _, fun _ h => by cases h⟩
theorem logOk_add {es : List Ev} {x : Bat} (h : LogOk es) (hl : es.length + x.es.length ≤ 400) : LogOk (addB es x).2.2 := by
  by_cases h1 : mayX x = 0
  · by_cases h2 : x.a = es.length
    · rw [addB_yes h1 h2]
      refine ⟨by simp only [List.length_append]; omega, fun e he => ?_⟩
      rcases List.mem_append.1 he with he | he
      · exact h.2 e he
      · exact ((mayX_zero x).1 h1).2.2.1 e he
    · rw [addB_no h1 h2]; exact h
  · rw [addB_bad h1]; exact h

end Go.Proofs.Ytiplfhmimpkplaa.IxWalk

/-
  Layer 14's readings: rows of batches that came in; an ask that came in.
-/
namespace Go.Proofs.Ytiplfhmimpkplaa.IxWalk
open Go.RowKit Go.WideShapes Go.ChangeShapes Go.Joins Go.Deep Go.Proofs.Ytiplfhmimpkplaa.MemRow Go.Proofs.Ytiplfhmimpkplaa.Ev Go.Proofs.Ytiplfhmimpkplaa.NameMath Go.Proofs.Ytiplfhmimpkplaa.NameWalk Go.Proofs.Ytiplfhmimpkplaa.EvWalk Go.Proofs.Ytiplfhmimpkplaa.NumMem Go.Proofs.Ytiplfhmimpkplaa.Open Go.Proofs.Ytiplfhmimpkplaa.BtWalk Go.Proofs.Ytiplfhmimpkplaa.Qu

section
variable {H : Type} {enc : TypeId × Value → H} {P : Program} {W : World} {base : Nat} {t e : TypeId} {v : Value} {d : DataW H} {p : List MemPlace}
theorem trodTwo {spare : Nat → Bool} {held : Bool} {f0 f1 : Field} {fuel : Nat} {cs : List Value} {x : DataW H × List MemPlace} (ht : P.underlying t = some (.struct #[f0, f1])) (h : DataW.trod enc P W base spare held fuel t cs = some x) :
    ∃ y0 y1 n, DataW.trod enc P W base spare held n f0.type ((cs.drop f0.offset).take (P.cellsOf f0.type)) = some y0 ∧ DataW.trod enc P W base spare held n f1.type ((cs.drop f1.offset).take (P.cellsOf f1.type)) = some y1 := by
  obtain ⟨xs, n, _, rfl, hl, hlen, hf⟩ := DataW.trod_struct ht h
  match xs, hlen with
  | [y0, y1], _ => exact ⟨y0, y1, n, by simpa using hf 0 f0 rfl, by simpa using hf 1 f1 rfl⟩
end
section
variable {H : Type} {enc : TypeId × Value → H}
set_option maxRecDepth 100000 in
theorem tr_batch {W : World} {fuel : Nat} {v0 v1 : Value} {y : DataW H × List MemPlace} (h : DataW.trod enc Try.prog W 0 (fun _ => true) true fuel 33 [v0, v1] = some y) :
    ∃ x : Bat, BOk x ∧ ∃ A n ca, v0 = .int .i64 x.a ∧ v1 = .slice A n ca ∧ RdE W A n ca x.es := by
  have c0 : Try.prog.cellsOf 3 = 1 := by kernel_rfl
  have c4 : Try.prog.cellsOf 31 = 1 := by kernel_rfl
  obtain ⟨u0, u1, m, b0, b1⟩ := trodTwo Try.underlying33 h
  have b0' : DataW.trod enc Try.prog W 0 (fun _ => true) true m 3 [v0] = some u0 := by simpa [c0] using b0
  have b1' : DataW.trod enc Try.prog W 0 (fun _ => true) true m 31 [v1] = some u1 := by simpa [c4] using b1
  obtain ⟨zd, x3, _, w3⟩ := DataW.trod_int Try.underlying3 b0'
  obtain ⟨A, k, ca, es, rfl, r, ok⟩ := tr_events Try.underlying31 Try.underlying47 (by kernel_rfl) (by kernel_rfl) Try.underlying9 Try.underlying9 Try.underlying44 Try.underlying9 (by kernel_rfl) Try.underlying45 Try.underlying86 (by kernel_rfl) rfl rfl (by kernel_rfl) (by kernel_rfl) Try.underlying9 Try.underlying3 b1'
  injection x3 with x3
  subst x3
  exact ⟨⟨zd, es⟩, ⟨ok, (bounds_i64 w3).1, (bounds_i64 w3).2⟩, A, k, ca, rfl, rfl, r⟩
set_option maxRecDepth 100000 in
theorem tr_batches {W : World} {v : Value} {fuel : Nat} {y : DataW H × List MemPlace} (hf : DataW.trod enc Try.prog W 0 (fun _ => true) true fuel 22 [v] = some y) :
    ∃ A n ca xs, v = .slice A n ca ∧ RdBs W A n ca xs ∧ ∀ x ∈ xs, BOk x := by
  have ce : Try.prog.cellsOf 33 = 2 := by kernel_rfl
  rcases open_slice Try.underlying22 hf with ⟨hcs, _⟩ | ⟨a, l, c, m, nn, D, Pl, hcs, _, hl, hm, hmm, _, hx⟩
  · simp only [List.cons.injEq, and_true] at hcs
    subst hcs
    exact ⟨none, 0, 0, [], rfl, RdBs.nil W, fun d hd => by simp at hd⟩
  · simp only [List.cons.injEq, and_true] at hcs
    subst hcs
    have hm' : m = c := by simpa using hmm
    subst hm'
    have each : ∀ i, i < m → ∃ d : Bat, BOk d ∧ ∃ A n ca, W.cell? (a.add (i * 2)) = some (.int .i64 d.a) ∧ W.cell? (a.add (i * 2 + 1)) = some (.slice A n ca) ∧ RdE W A n ca d.es := by
      intro i hi
      obtain ⟨cs', h1, h2⟩ := hx i hi
      rw [ce] at h1
      obtain ⟨_, hlen, hcell⟩ := World.cells?_some h1
      match cs', hlen with
      | [v0, v1], _ =>
        have e0 := hcell 0 (by omega)
        have e1 := hcell 1 (by omega)
        rw [add_add] at e0 e1
        obtain ⟨d, ok, A, n, ca, rfl, rfl, r⟩ := tr_batch h2
        exact ⟨d, ok, A, n, ca, by simpa using e0, by simpa using e1, r⟩
    have hex : ∃ F : Nat → Bat, ∀ i, i < m → BOk (F i) ∧ ∃ A n ca, W.cell? (a.add (i * 2)) = some (.int .i64 (F i).a) ∧ W.cell? (a.add (i * 2 + 1)) = some (.slice A n ca) ∧ RdE W A n ca (F i).es :=
      ⟨fun i => if hi : i < m then (each i hi).choose else noBat, fun i hi => by simp only [hi, dif_pos]; exact (each i hi).choose_spec⟩
    obtain ⟨F, hF'⟩ := hex
    refine ⟨_, l, m, (List.range l).map F, rfl, ⟨by simp, hl, hm, fun hn => ?_⟩, ?_⟩
    · obtain ⟨_, _, _, _, hc0, _⟩ := hF' 0 (by omega)
      rw [Nat.zero_mul] at hc0
      have e0 := spot_none hc0
      have hb := World.block_lt_of_cell? W _ hc0
      rw [e0, add_at] at hb
      refine ⟨a.block, a.off, by rw [← e0], hb, fun i hi => ?_⟩
      have hFj : ((List.range l).map F).getD i noBat = F i := by simp [List.getD, hi]
      rw [hFj]
      obtain ⟨_, A, n, ca, h0, h1, r⟩ := hF' i (by omega)
      rw [e0, add_at] at h0 h1
      exact ⟨A, n, ca, h0, h1, r⟩
    · intro x hxm
      obtain ⟨j, hj, rfl⟩ := List.mem_map.1 hxm
      exact (hF' j (by have := List.mem_range.1 hj; omega)).1
set_option maxRecDepth 100000 in
/-- Batches that came in. -/
theorem op_batches {W : World} {base : Nat} {v : Value} {d : DataW H} {p : List MemPlace} (ho : Value.okWide Try.prog W .any base 22 v) (h : DataW.Trod enc Try.prog W 0 (fun _ => true) true 22 v d p) :
    ∃ A n ca xs, v = .slice A n ca ∧ RdBs W A n ca xs ∧ ∀ x ∈ xs, BOk x := by
  obtain ⟨a, len, cap, rfl⟩ := okWide_slice Try.underlying22 ho
  obtain ⟨fuel, hf⟩ := h
  exact tr_batches hf
end

end Go.Proofs.Ytiplfhmimpkplaa.IxWalk

/-
  Layer 14's statements: the document's example.
-/
namespace Go.Proofs.Ytiplfhmimpkplaa.IxWalk
open Go.RowKit Go.Proofs.Ytiplfhmimpkplaa.MemRow Go.Proofs.Ytiplfhmimpkplaa.Ev Go.Proofs.Ytiplfhmimpkplaa.NameMath Go.Proofs.Ytiplfhmimpkplaa.NameWalk Go.Proofs.Ytiplfhmimpkplaa.EvWalk Go.Proofs.Ytiplfhmimpkplaa.NumMem Go.Proofs.Ytiplfhmimpkplaa.Qu Go.Proofs.Ytiplfhmimpkplaa.QuWalk Go.Proofs.Ytiplfhmimpkplaa.SmWalk Go.Proofs.Ytiplfhmimpkplaa.BtWalk Go.Proofs.Ytiplfhmimpkplaa.DkWalk

def eS : Ev := ⟨⟨#[115]⟩, ⟨#[116]⟩, [], []⟩
def eT : Ev := ⟨⟨#[116]⟩, ⟨#[116]⟩, [], []⟩
theorem eS_may : mayE eS = 0 := by decide
theorem eT_may : mayE eT = 0 := by decide
theorem eS_ok : EvOk eS := ⟨by decide, by decide, (fun _ h => by cases h), (fun _ h => by cases h), (fun _ h => by cases h)⟩
theorem eT_ok : EvOk eT := ⟨by decide, by decide, (fun _ h => by cases h), (fun _ h => by cases h), (fun _ h => by cases h)⟩
def x1 : Bat := ⟨0, [eS, eS]⟩
def x2 : Bat := ⟨2, [eT]⟩
theorem x1_may : mayX x1 = 0 := (mayX_zero _).2 ⟨by decide, by decide, (by intro e he; simp only [x1, List.mem_cons, List.not_mem_nil, or_false, or_self] at he; subst he; exact eS_may), by decide, by decide⟩
theorem x2_may : mayX x2 = 0 := (mayX_zero _).2 ⟨by decide, by decide, (by intro e he; simp only [x2, List.mem_cons, List.not_mem_nil, or_false] at he; subst he; exact eT_may), by decide, by decide⟩
theorem x1_ok : BOk x1 := ⟨by intro e he; simp only [x1, List.mem_cons, List.not_mem_nil, or_false, or_self] at he; subst he; exact eS_ok, by decide, by decide⟩
theorem x2_ok : BOk x2 := ⟨by intro e he; simp only [x2, List.mem_cons, List.not_mem_nil, or_false] at he; subst he; exact eT_ok, by decide, by decide⟩
theorem add_x1 : addB [] x1 = (0, [⟨1, 1, eS⟩, ⟨2, 2, eS⟩], [eS, eS]) := by rw [addB_yes x1_may rfl]; rfl
theorem add_x2 : addB [eS, eS] x2 = (0, [⟨3, 1, eT⟩], [eS, eS, eT]) := by rw [addB_yes x2_may rfl]; rfl
theorem ver_s1 : (strF [eS, eS, eT] ⟨#[115]⟩ 1).length = 1 := by decide

theorem two_isb (w : World) (g : Nat) (hg : w.heap[g]? = some (.cells #[.string ⟨#[115]⟩, .string ⟨#[116]⟩, .slice none 0 0, .slice none 0 0, .string ⟨#[115]⟩, .string ⟨#[116]⟩, .slice none 0 0, .slice none 0 0] 47 (0, 0))) : IsB w (.agg #[.int .i64 0, .slice (some ⟨g, 0, none⟩) 2 2]) x1 := by
  refine ⟨_, _, _, rfl, rfl, Nat.le_refl _, by decide, fun _ => ⟨g, 0, rfl, (Array.getElem?_eq_some_iff.1 hg).1, fun i hi => ?_⟩⟩
  have h : ∀ k, w.cell? ⟨g, k, none⟩ = (#[.string ⟨#[115]⟩, .string ⟨#[116]⟩, .slice none 0 0, .slice none 0 0, .string ⟨#[115]⟩, .string ⟨#[116]⟩, .slice none 0 0, .slice none 0 0] : Array Value)[k]? := fun k => cell_of_row w g k _ _ _ hg
  rcases (by omega : i = 0 ∨ i = 1) with rfl | rfl
  · exact ⟨none, 0, 0, none, 0, 0, h 0, h 1, h 2, h 3, RdC.nil _, RdC.nil _⟩
  · exact ⟨none, 0, 0, none, 0, 0, h 4, h 5, h 6, h 7, RdC.nil _, RdC.nil _⟩
theorem one_isb (w : World) (g : Nat) (hg : w.heap[g]? = some (.cells #[.string ⟨#[116]⟩, .string ⟨#[116]⟩, .slice none 0 0, .slice none 0 0] 47 (0, 0))) : IsB w (.agg #[.int .i64 2, .slice (some ⟨g, 0, none⟩) 1 1]) x2 := by
  refine ⟨_, _, _, rfl, rfl, Nat.le_refl _, by decide, fun _ => ⟨g, 0, rfl, (Array.getElem?_eq_some_iff.1 hg).1, fun i hi => ?_⟩⟩
  have h : ∀ k, w.cell? ⟨g, k, none⟩ = (#[.string ⟨#[116]⟩, .string ⟨#[116]⟩, .slice none 0 0, .slice none 0 0] : Array Value)[k]? := fun k => cell_of_row w g k _ _ _ hg
  obtain rfl : i = 0 := by omega
  exact ⟨none, 0, 0, none, 0, 0, h 0, h 1, h 2, h 3, RdC.nil _, RdC.nil _⟩

section
variable {Ix : Nat → List Ev → Thing}
set_option maxHeartbeats 8000000 in
set_option maxRecDepth 100000 in
/-- The document's example. -/
theorem shown14_any (api : IApi Ix) (w : World) : Calls Try.prog 8 #[] w fun e w' => e = .returned (.bool true) ∧ Below w.heap.size w w' := by
  go_enter Try.func8, Try.ntmps8
  go_wp2_with fail
  refine (api.new (base := w.heap.size) (w := w) (Q := NoT) (G := fun _ => False) (fun k h => h) noT_keeps (fun k h => h.elim) (Nat.le_refl _)).mono ?_
  rintro e w1 ⟨g, rfl, p1, B1⟩
  go_upto_region 5 with (fail)
  have b2 := (Below.refl w1.heap.size w1).alloc (Nat.le_refl _) (.cells #[.string ⟨#[115]⟩, .string ⟨#[116]⟩, .slice none 0 0, .slice none 0 0] 47)
  have bx := EvAt.new w1 (.string ⟨#[115]⟩) (.string ⟨#[116]⟩) (.slice none 0 0) (.slice none 0 0)
  have p2 := p1.below (api.keeps _ _) noT_keeps b2
  have B2 := below_chain B1 b2
  clear p1 B1 b2
  generalize w1.alloc (.cells #[.string ⟨#[115]⟩, .string ⟨#[116]⟩, .slice none 0 0, .slice none 0 0] 47) = w2 at *
  generalize w1.heap.size = ge at *
  have k0 := bx.c0
  have k1 := bx.c1
  have k2 := bx.c2
  have k3 := bx.c3
  obtain ⟨p3, b3⟩ := bx_new (api.keeps _ _) noT_keeps B2.size p2 #[.string ⟨#[115]⟩, .string ⟨#[116]⟩, .slice none 0 0, .slice none 0 0, .string ⟨#[115]⟩, .string ⟨#[116]⟩, .slice none 0 0, .slice none 0 0] 47
  have kb := with_keeps noT_keeps (bxT_keeps w2.heap.size #[.string ⟨#[115]⟩, .string ⟨#[116]⟩, .slice none 0 0, .slice none 0 0, .string ⟨#[115]⟩, .string ⟨#[116]⟩, .slice none 0 0, .slice none 0 0] 47)
  have B3 := below_chain B2 b3
  have C := Go.Lib.hid (api.add p3 kb B3.size logOk_nil (by decide) (fun w' G hq _ => by obtain ⟨_, _, _, hbx, _⟩ := hq; exact two_isb w' _ hbx.1) x1_ok)
  clear p2 B2 b3 p3 bx kb
  go_wp2_with fail
  refine (C.out).mono ?_
  rintro e w4 ⟨A4, n4, c4, rfl, p4, B4'⟩
  have p4 := pair_imp (th_drop) p4
  rw [add_x1] at p4 ⊢
  simp only at p4 ⊢
  have B4 := B3.trans B4'
  obtain rfl : n4 = 2 := (pair_ro p4).len.symm
  have kq : Keeps (With NoT (RoT A4 2 c4 [⟨1, 1, eS⟩, ⟨2, 2, eS⟩])) := with_keeps noT_keeps (roT_keeps _ _ _ _)
  obtain ⟨p5, b5⟩ := bx_new (api.keeps _ _) kq B4.size p4 #[.string ⟨#[116]⟩, .string ⟨#[116]⟩, .slice none 0 0, .slice none 0 0] 47
  have kb := with_keeps kq (bxT_keeps w4.heap.size #[.string ⟨#[116]⟩, .string ⟨#[116]⟩, .slice none 0 0, .slice none 0 0] 47)
  have B5 := below_chain B4 b5
  have lo : LogOk [eS, eS] := ⟨by decide, fun e he => by simp only [List.mem_cons, List.not_mem_nil, or_false, or_self] at he; subst he; exact eS_may⟩
  have lo2 : LogOk [eS, eS, eT] := ⟨by decide, fun e he => by
    simp only [List.mem_cons, List.not_mem_nil, or_false] at he
    rcases he with rfl | rfl | rfl
    · exact eS_may
    · exact eS_may
    · exact eT_may⟩
  have C2 := Go.Lib.hid (api.add p5 kb B5.size lo (by decide) (fun w' G hq _ => by obtain ⟨_, _, _, hbx, _⟩ := hq; exact one_isb w' _ hbx.1) x2_ok)
  have KQ := Go.Lib.hid kq
  have LO2 := Go.Lib.hid lo2
  clear p4 B3 B4' B4 b5 p5 lo lo2 kq kb C k0 k1 k2 k3
  go_wp2_with fail
  refine (C2.out).mono ?_
  rintro e w6 ⟨A6, n6, c6, rfl, p6, B6'⟩
  have p6 := pair_imp (th_drop) p6
  rw [add_x2] at p6 ⊢
  simp only at p6 ⊢
  have B6 := B5.trans B6'
  have r6 := pair_ro p6
  have r4 := pair_ro (pair_first p6)
  obtain rfl : n6 = 1 := r6.len.symm
  obtain ⟨b4, o4, rfl, _, q4⟩ := r4.at_ (by decide)
  obtain ⟨bb6, o6, rfl, _, q6⟩ := r6.at_ (by decide)
  obtain ⟨_, _, _, _, _, _, _, y1, _⟩ := q4 1 (by decide)
  obtain ⟨_, _, _, _, _, _, z0, z1, _⟩ := q6 0 (by decide)
  have y1 : w6.cell? ⟨b4, o4 + 6 + 1, none⟩ = some (.int .i64 2) := y1
  have z0 : w6.cell? ⟨bb6, o6, none⟩ = some (.int .i64 3) := z0
  have z1 : w6.cell? ⟨bb6, o6 + 1, none⟩ = some (.int .i64 1) := z1
  have CV := Go.Lib.hid (api.ver (s := ⟨#[115]⟩) (u := 1) p6 (with_keeps KQ.out (roT_keeps _ _ _ _)) LO2.out (by decide) (by decide))
  clear C2 B5 B6' r4 r6 q4 q6 p6
  go_wp2_with fail
  refine (CV.out).mono ?_
  rintro e w7 ⟨rfl, _, b7⟩
  rw [ver_s1]
  have B7 := below_chain B6 b7
  go_wp2_with fail
  go_ret
  exact ⟨by simp, B7⟩
end

end Go.Proofs.Ytiplfhmimpkplaa.IxWalk

/-
  Walk of a statement of layer 14: IndexRefuses.
-/
namespace Go.Proofs.Ytiplfhmimpkplaa.IxWalk
open Go.RowKit Go.WideShapes Go.ChangeShapes Go.Proofs.Ytiplfhmimpkplaa.MemRow Go.Proofs.Ytiplfhmimpkplaa.Ev Go.Proofs.Ytiplfhmimpkplaa.Open Go.Proofs.Ytiplfhmimpkplaa.NameMath Go.Proofs.Ytiplfhmimpkplaa.NameWalk Go.Proofs.Ytiplfhmimpkplaa.EvWalk Go.Proofs.Ytiplfhmimpkplaa.NumMem Go.Proofs.Ytiplfhmimpkplaa.Qu Go.Proofs.Ytiplfhmimpkplaa.QuWalk Go.Proofs.Ytiplfhmimpkplaa.SmWalk Go.Proofs.Ytiplfhmimpkplaa.BtWalk Go.Proofs.Ytiplfhmimpkplaa.DkWalk

theorem pair_set {base : Nat} {w : World} {P Q : Thing} (h : Pair base w P Q) (kp : Keeps P) (kq : Keeps Q) {g : Nat} (hg : g < base) (i : Nat) (v : Value) : Pair base (w.setCell ⟨g, i, none⟩ v) P Q := by
  obtain ⟨F, G, hp, hq, h1, h2, h3⟩ := h
  have hs : w.heap.size ≤ (w.setCell ⟨g, i, none⟩ v).heap.size := by simp [World.setCell]
  have hk : ∀ k, base ≤ k → (w.setCell ⟨g, i, none⟩ v).heap[k]? = w.heap[k]? := fun k hk => by
    have : g ≠ k := by omega
    simp [World.setCell, Array.getElem?_modify, this]
  exact ⟨F, G, kp.keep hp hs fun k hf => hk k (h1 k hf), kq.keep hq hs fun k hf => hk k (h2 k hf), h1, h2, h3⟩
theorem ownO_other {W0 w : World} {lo : Nat} {A : Option Addr} {n c : Nat} {es : List Ev} (h : OwnO W0 w lo A n c es) {g : Nat} (hne : ∀ a, A = some a → a.block ≠ g) (i : Nat) (v : Value) : OwnO W0 (w.setCell ⟨g, i, none⟩ v) lo A n c es := by
  obtain ⟨cs, o, hl, hc⟩ := h
  exact ⟨cs, OwnC.grown o (boxGrown w g i v) (fun a ha e => hne a ha (by injection e)), hl, hc⟩
theorem ownO_lt {W0 w : World} {lo : Nat} {A : Option Addr} {n c : Nat} {es : List Ev} (h : OwnO W0 w lo A n c es) : ∀ a, A = some a → lo ≤ a.block ∧ a.block < w.heap.size := by
  obtain ⟨cs, o, _⟩ := h
  exact OwnC.lt o
theorem addB_most (es : List Ev) (x : Bat) : (addB es x).2.2.length ≤ es.length + x.es.length := by
  obtain ⟨fs, h1, _, h2⟩ := addB_grows es x
  rw [h1, List.length_append]
  rcases h2 with rfl | rfl
  · simp
  · omega
theorem bats_ok {xs : List Bat} (h : ∀ x ∈ xs, BOk x) (j : Nat) : BOk (xs.getD j noBat) := by
  by_cases hj : j < xs.length
  · exact h _ (bat_get hj)
  · have : xs.getD j noBat = noBat := by simp [List.getD, List.getElem?_eq_none (Nat.le_of_not_lt hj)]
    rw [this]
    exact ⟨fun _ h => (by cases h), by decide, by decide⟩
theorem logOk_more {es : List Ev} {x : Bat} {N : Nat} (h : LogOk es) (hl : es.length ≤ N) (hx : x.es.length ≤ 8) (hN : N + 8 ≤ 400) : LogOk (addB es x).2.2 ∧ (addB es x).2.2.length ≤ N + 8 := by
  have := addB_most es x
  exact ⟨logOk_add h (by omega), by omega⟩
/-- Events that can be read while the blocks G stay, and what is older than W0. -/
def EvK (W0 : World) (E : Option Addr) (i d : Nat) (es : List Ev) : Thing := fun w G => (∀ w', Below W0.heap.size W0 w' → (∀ k, G k → w'.heap[k]? = w.heap[k]?) → RdE w' E i d es) ∧ ∀ k, G k → k < w.heap.size
theorem evK_keeps (W0 : World) (E : Option Addr) (i d : Nat) (es : List Ev) : Keeps (EvK W0 E i d es) :=
  ⟨fun h hs hk => ⟨fun w2 hb h2 => h.1 w2 hb fun k hf => (h2 k hf).trans (hk k hf), fun k hf => Nat.lt_of_lt_of_le (h.2 k hf) hs⟩, fun h => h.2⟩
theorem evK_of {W0 w w' : World} {lo : Nat} {E : Option Addr} {i d : Nat} {es : List Ev} (h : OwnO W0 w' lo E i d es) (hlo : w.heap.size ≤ lo) : EvK W0 E i d es w' (fun k => w.heap.size ≤ k ∧ k < w'.heap.size) := by
  refine ⟨fun w2 hb hk => ?_, fun k hk => hk.2⟩
  obtain ⟨cs, o, hl, hc⟩ := h
  have o2 : OwnC 4 w2 lo 47 E i d cs := own_keep o fun a ha => hk _ ⟨Nat.le_trans hlo (OwnC.lt o a ha).1, (OwnC.lt o a ha).2⟩
  exact OwnO.rd (base := lo) ⟨cs, o2, hl, hc⟩ hb
theorem pair_evk {W0 w : World} {base : Nat} {P Q : Thing} {E : Option Addr} {i d : Nat} {es : List Ev} (hp : Pair base w P (With Q (EvK W0 E i d es))) (hB : Below W0.heap.size W0 w) : RdE w E i d es := by
  obtain ⟨_, _, _, ⟨_, _, _, h, _⟩, _⟩ := hp
  exact h.1 w hB fun _ _ => rfl
theorem evk_isb {W0 w : World} {G : Nat → Prop} {Q R : Thing} {E : Option Addr} {i d : Nat} {es : List Ev} {a : Int} (h : With (With Q (EvK W0 E i d es)) R w G) (hB : Below W0.heap.size W0 w) : IsB w (.agg #[.int .i64 a, .slice E i d]) ⟨a, es⟩ := by
  obtain ⟨_, _, ⟨_, _, _, h, _⟩, _⟩ := h
  exact ⟨E, i, d, rfl, h.1 w hB fun _ _ => rfl⟩
theorem evk_isb1 {W0 w : World} {G : Nat → Prop} {Q : Thing} {E : Option Addr} {i d : Nat} {es : List Ev} {a : Int} (h : With Q (EvK W0 E i d es) w G) (hB : Below W0.heap.size W0 w) : IsB w (.agg #[.int .i64 a, .slice E i d]) ⟨a, es⟩ := by
  obtain ⟨_, _, _, h, _⟩ := h
  exact ⟨E, i, d, rfl, h.1 w hB fun _ _ => rfl⟩
section
variable {Ix : Nat → List Ev → Thing}
set_option maxHeartbeats 8000000 in
set_option maxRecDepth 100000 in
theorem refuses_walk (api : IApi Ix) (A : Option Addr) (n cap : Nat) (xs : List Bat) (vb : Value) (xb : Bat) (w0 : World) (h0 : RdBs w0 A n cap xs) (hok : ∀ x ∈ xs, BOk x) (hvb : IsB w0 vb xb) (hbk : BOk xb) :
    Calls Try.prog 5 #[.slice A n cap, vb] w0 fun e w' => e = .returned (.bool true) ∧ Below w0.heap.size w0 w' := by
  have hn := h0.le
  unfold maxLen at hn
  have HOK := Go.Lib.hid (bats_ok hok)
  have kI := api.keeps
  obtain ⟨Cb, nb, cb, rfl, rb⟩ := hvb
  have HB := Go.Lib.hid (⟨Cb, nb, cb, rfl, rb⟩ : IsB w0 (.agg #[.int .i64 xb.a, .slice Cb nb cb]) xb)
  have al := batch_bel w0 (.int .i64 xb.a) (.slice Cb nb cb)
  have bx := BxAt.new w0 (.int .i64 xb.a) (.slice Cb nb cb)
  clear hok rb
  go_enter Try.func5, Try.ntmps5
  go_upto_region 1 with (fail)
  generalize w0.alloc (.cells #[.int .i64 xb.a, .slice Cb nb cb] 33) = w1 at *
  have hw1 := bx.lt
  go_wp2_with fail
  refine (shown14_any api w1).mono ?_
  rintro e w2 ⟨rfl, B2⟩
  go_wp2_with fail
  refine (api.new (base := w1.heap.size) (Q := NoT) (G := fun _ => False) (fun k h => h) noT_keeps (fun k h => h.elim) B2.size).mono ?_
  rintro e w3 ⟨g, rfl, p3, b3⟩
  have B3 := below_chain B2 b3
  clear B2 b3
  go_wp2_with fail
  go_loopw [7, 8] (fun iv _ wr => ∃ (j : Nat) (es : List Ev), iv = .int .i64 (j : Int) ∧ j ≤ n ∧ j ≤ 10 ∧ Hid (LogOk es ∧ es.length ≤ 8 * j) ∧ Pair w1.heap.size wr (Ix g es) NoT ∧ Below w1.heap.size w1 wr) (fun iv _ _ => n - (intOf iv).toNat)
  case atStart => exact ⟨0, [], rfl, Nat.zero_le _, by omega, Go.Lib.hid ⟨logOk_nil, Nat.zero_le _⟩, p3, B3⟩
  case round =>
    obtain ⟨j, es, rfl, hjn, hj10, HL, pj, Bj⟩ := hrel
    clear p3 B3
    go_upto_region 6 with (fail)
    go_cut [29] (fun v wx => v = .bool (decide (j < n ∧ j < 10)) ∧ wr = wx)
    case first =>
      by_cases h1 : j < n
      · have i1 : (j : Int) < n := by omega
        by_cases h2 : j < 10
        · have i2 : (j : Int) < 10 := by omega
          go_wp2_with fail
          go_meet
          exact ⟨by simp [h1, h2], rfl⟩
        · have i2 : ¬ (j : Int) < 10 := by omega
          go_wp2_with fail
          go_meet
          exact ⟨by simp [h1, h2], rfl⟩
      · have i1 : ¬ (j : Int) < n := by omega
        go_wp2_with fail
        go_meet
        exact ⟨by simp [h1], rfl⟩
    obtain ⟨rfl, rfl⟩ := hcut
    by_cases hc : j < n ∧ j < 10
    · rw [show decide (j < n ∧ j < 10) = true by simpa using hc]
      obtain ⟨h1, h2⟩ := hc
      obtain ⟨bi, oi, rfl, _, kk⟩ := h0.at_ (by omega)
      obtain ⟨E, nE, cE, y0', y1', rE⟩ := kk j h1
      have BB := below_chain al Bj
      have y0 := bcell BB y0'
      have y1 := bcell BB y1'
      have hxo := HOK.out j
      clear kk y0' y1'
      generalize xs.getD j noBat = x at *
      have i1 : (j : Int) < n := by omega
      have CF := Go.Lib.hid (few14_any (.agg #[.int .i64 x.a, .slice E nE cE]) x w0 wr ⟨E, nE, cE, rfl, rE⟩ BB)
      have HXO := Go.Lib.hid hxo
      clear rE hxo BB
      go_wp2_with fail
      refine (CF.out).mono ?_
      rintro e w4 ⟨A4, n4, c4, rfl, o4, b4⟩
      have p4 := pair_more pj (kI _ _) noT_keeps Bj.size b4 (evK_of o4 (by omega))
      have k4 := with_keeps noT_keeps (evK_keeps w0 A4 n4 c4 (few8 x.es))
      have B4 := below_chain Bj b4
      obtain ⟨p5, b5⟩ := bx_new (kI _ _) k4 B4.size p4 #[.int .i64 x.a, .slice A4 n4 c4] 33
      have x5 := BxAt.new w4 (.int .i64 x.a) (.slice A4 n4 c4)
      have B5 := below_chain B4 b5
      have hlen8 := few8_len x.es
      have XK := Go.Lib.hid (fewD_all HXO.out)
      clear pj Bj CF b4 p4 B4 o4 b5 y0 y1 HXO
      generalize few8 x.es = xe at *
      go_upto_region 9 with (fail)
      generalize w4.alloc (.cells #[.int .i64 x.a, .slice A4 n4 c4] 33) = w5 at *
      generalize w4.heap.size = gc at *
      go_wp2_with fail
      refine (api.last p5 (with_keeps k4 (bxT_keeps _ _ _)) HL.out.1).mono ?_
      rintro e w6 ⟨rfl, p6, b6⟩
      have x6 := x5.below b6
      have B6 := below_chain B5 b6
      have k0 := x6.c0
      have z0 := x6.frozen 0
      have x7 := x6.set0 (.int .i64 (es.length : Nat))
      obtain ⟨p7, b7⟩ := lg_put (v := .int .i64 (es.length : Nat)) (i := 0) (kI _ _) k4 p6 x7
      have B7 := B6.trans b7
      have X7 := Go.Lib.hid x7
      clear p5 B5 x5 p6 b6 x6 B6 b7 x7
      go_upto_region 10 with (fail)
      generalize w6.setCell ⟨gc, 0, none⟩ (.int .i64 (es.length : Nat)) = w7 at *
      have k0 := X7.out.c0
      have k1 := X7.out.c1
      have BB7 := below_chain al B7
      have hle := HL.out.2
      have CA := Go.Lib.hid (api.add (x := ⟨(es.length : Nat), xe⟩) p7 (with_keeps k4 (bxT_keeps _ _ _)) B7.size HL.out.1 (by simp only; omega) (fun _ _ hq hb' => evk_isb hq (BB7.trans (hb'.mono (Nat.le_of_lt hw1)))) ⟨XK.out, by simp only; omega, by simp only; omega⟩)
      have HL2 := Go.Lib.hid (logOk_more (x := ⟨(es.length : Nat), xe⟩) (N := 8 * j) HL.out.1 hle hlen8 (by omega))
      clear p7 z0 hle X7 BB7 k4
      go_wp2_with fail
      refine (CA.out).mono ?_
      rintro e w8 ⟨A8, n8, c8, rfl, p8, b8⟩
      have p9 := pair_first (pair_first (pair_first p8))
      have B9 := B7.trans b8
      clear p8 B7 b8 CA HL
      generalize addB es ⟨(es.length : Nat), xe⟩ = R at *
      obtain ⟨re, rr, es2⟩ := R
      simp only at p9
      have HL3 : Hid (LogOk es2 ∧ es2.length ≤ 8 * (j + 1)) := Go.Lib.hid ⟨HL2.out.1, by have := HL2.out.2; simp only at this; omega⟩
      clear HL2
      go_wp2_with fail
      go_roundw
      case rel => exact ⟨j + 1, es2, by go_num, by omega, by omega, HL3, p9, B9⟩
      case measure => simp [intOf]; omega
    · rw [show decide (j < n ∧ j < 10) = false by simpa using hc]
      clear hc
      have bx1 := bx.below Bj
      have HL2 : Hid (LogOk es ∧ es.length ≤ 80) := Go.Lib.hid ⟨HL.out.1, by have := HL.out.2; omega⟩
      go_wp2_with fail
      refine (api.last pj noT_keeps HL2.out.1).mono ?_
      rintro e w4 ⟨rfl, p4, b4⟩
      have B4 := below_chain Bj b4
      clear pj Bj HL
      go_wp2_with fail
      refine (api.all p4 noT_keeps B4.size HL2.out.1 (by have := HL2.out.2; omega)).mono ?_
      rintro e w5 ⟨Aw, nw, cw, rfl, p5, b5⟩
      rw [all_all es (Int.le_refl _)] at p5
      have B5 := below_chain B4 b5
      have hnw := (pair_ro p5).len
      rw [rec_len] at hnw
      have k5 : Keeps (With NoT (RoT Aw nw cw (recF es))) := with_keeps noT_keeps (roT_keeps _ _ _ _)
      have bx5 := bx.below B5
      have BB5 := below_chain al B5
      have CF := Go.Lib.hid (few14_any (.agg #[.int .i64 xb.a, .slice Cb nb cb]) xb w0 w5 HB.out BB5)
      have q0 := bx5.c0
      have q1 := bx5.c1
      have hw5 : w0.heap.size < w5.heap.size := bx5.lt
      clear p4 b4 B4 b5 bx1 bx
      go_wp2_with fail
      refine (CF.out).mono ?_
      rintro e w6 ⟨A6, n6, c6, rfl, o6, b6⟩
      have p6 := pair_more p5 (kI _ _) k5 B5.size b6 (evK_of o6 (by omega))
      have k6 : Keeps (With (With NoT (RoT Aw nw cw (recF es))) (EvK w0 A6 n6 c6 (few8 xb.es))) := with_keeps k5 (evK_keeps _ _ _ _ _)
      have BB6 := below_chain BB5 b6
      have bx6 := bx5.below b6
      have z0 := bx6.frozen 0
      have z1 := bx6.frozen 1
      have u0 := bx6.c0
      have u1 := bx6.c1
      have p7 := pair_set (pair_set p6 (kI _ _) k6 hw1 0 (.int .i64 xb.a)) (kI _ _) k6 hw1 1 (.slice A6 n6 c6)
      have bx7 := bx6.all (.int .i64 xb.a) (.slice A6 n6 c6)
      have BB7 := (BB6.setCell (Nat.le_refl _) (p := ⟨w0.heap.size, 0, none⟩) (.int .i64 xb.a)).setCell (Nat.le_refl _) (p := ⟨w0.heap.size, 1, none⟩) (.slice A6 n6 c6)
      have hs7 : w1.heap.size ≤ ((w6.setCell ⟨w0.heap.size, 0, none⟩ (.int .i64 xb.a)).setCell ⟨w0.heap.size, 1, none⟩ (.slice A6 n6 c6)).heap.size := by
        have h1 := B5.size
        have h2 := b6.size
        simp only [World.setCell, Array.size_modify]
        omega
      have hlen8 := few8_len xb.es
      have XOK := Go.Lib.hid (fewB_ok hbk)
      unfold fewB at XOK
      have K6 := Go.Lib.hid k6
      have P7 := Go.Lib.hid p7
      have BX7 := Go.Lib.hid bx7
      have BB7' := Go.Lib.hid BB7
      clear p5 p6 p7 bx5 bx6 bx7 BB5 BB6 BB7 CF q0 q1 b6 o6 k5 k6 B5
      go_upto_region 13 with (fail)
      generalize (w6.setCell ⟨w0.heap.size, 0, none⟩ (.int .i64 xb.a)).setCell ⟨w0.heap.size, 1, none⟩ (.slice A6 n6 c6) = w7 at *
      clear z0 z1 u0 u1
      have u0 := BX7.out.c0
      have u1 := BX7.out.c1
      obtain ⟨xa, xes⟩ := xb
      simp only at u0 u1
      have XOK : Hid (BOk ⟨xa, few8 xes⟩) := XOK
      have hlen8 : (few8 xes).length ≤ 8 := hlen8
      have hra := XOK.out.a
      simp only at hra
      generalize few8 xes = ee at *
      have RE7 := pair_evk P7.out BB7'.out
      have hn6 := RE7.len
      have hle := HL2.out.2
      have CA := Go.Lib.hid (api.add (x := ⟨xa, ee⟩) P7.out K6.out hs7 HL2.out.1 (by simp only; omega) (fun _ _ hq hb' => evk_isb1 hq (BB7'.out.trans (hb'.mono (Nat.le_of_lt hw1)))) XOK.out)
      have hbx : w0.heap.size < w7.heap.size := BX7.out.lt
      clear RE7
      go_wp2_with fail
      refine (CA.out).mono ?_
      rintro e w8 ⟨A8, n8, c8, rfl, p8, b8⟩
      have BB8 := BB7'.out.trans (b8.mono (Nat.le_of_lt hw1))
      have bx8 : BxAt w8 w0.heap.size (.int .i64 xa) (.slice A6 n6 c6) := (b8.block _ hw1).trans BX7.out
      have RE8 := pair_evk (pair_first p8) BB8
      have CM := Go.Lib.hid (refMayX_any (.agg #[.int .i64 xa, .slice A6 n6 c6]) ⟨xa, ee⟩ w8 ⟨A6, n6, c6, rfl, RE8⟩ XOK.out)
      have v0 := bx8.c0
      have v1 := bx8.c1
      have HB8 := Go.Lib.hid BB8
      have hs8 := b8.size
      have hz0 : (addB es ⟨xa, ee⟩).1 = 0 ↔ mayX ⟨xa, ee⟩ = 0 ∧ xa = (nw : Int) := by rw [addB_zero, hnw]
      have kR := fun rs => with_keeps K6.out (roT_keeps A8 n8 c8 rs)
      have KR := Go.Lib.hid kR
      clear CA b8 BB8 RE8 P7 BB7' BX7 u0 u1 kR
      by_cases hz : mayX ⟨xa, ee⟩ = 0 ∧ xa = (nw : Int)
      · obtain ⟨hz1, rfl⟩ := hz
        have e1 : addB es ⟨(nw : Int), ee⟩ = (0, newR es ee, es ++ ee) := addB_yes hz1 (by simp only; omega)
        rw [e1] at p8 ⊢
        rw [hz1] at CM
        simp only at p8 ⊢
        have hn8 := (pair_ro p8).len
        rw [newR_len] at hn8
        obtain rfl : n8 = n6 := by omega
        have hle8 : n8 ≤ 8 := by omega
        have HLL := Go.Lib.hid (logOk_add (x := ⟨(nw : Int), ee⟩) HL2.out.1 (by simp only; omega))
        rw [e1] at HLL
        have hsum : (es ++ ee).length = nw + n8 := by rw [List.length_append]; omega
        have HSUM := Go.Lib.hid hsum
        have P8 := Go.Lib.hid p8
        have BX8 := Go.Lib.hid bx8
        have i1 : ((nw : Int) == (nw : Int)) = true := by simp
        have hnw8 : nw ≤ 80 := by omega
        have hww : IntKind.i64.wrap ((nw : Int) + n8) = ((nw + n8 : Nat) : Int) := by rw [IntWalk.i64_in _ (by omega)]; omega
        clear p8 bx8 hz0 hz1 e1 hn8 hn6 hnw hsum hra hle hlen8 hbx hs7 hs8 hw5 HB hbk
        go_wp2_with fail
        refine (CM.out).mono ?_
        rintro e w9 ⟨rfl, b9⟩
        have v0 := bcell b9 v0
        have v1 := bcell b9 v1
        have p9 := P8.out.below (kI _ _) (KR.out _) b9
        have BB9 := below_chain HB8.out b9
        have CL := Go.Lib.hid (api.last p9 (KR.out _) HLL.out)
        clear P8 b9 p9 CM
        go_wp2_with fail
        refine (CL.out).mono ?_
        rintro e w10 ⟨rfl, _, b10⟩
        rw [HSUM.out]
        have BB10 := below_chain BB9 b10
        clear CL BB9 b10
        go_wp2_with fail
        go_ret
        exact ⟨by simp, BB10⟩
      · have hcode : (addB es ⟨xa, ee⟩).1 ≠ 0 := fun h => hz (hz0.1 h)
        have e1 := addB_same hcode
        rw [e1] at p8
        generalize (addB es ⟨xa, ee⟩).1 = co at *
        simp only at p8
        obtain rfl : n8 = 0 := (pair_ro p8).len.symm
        have hco : (co != 0) = true := by rw [bne_iff_ne]; exact hcode
        have P8 := Go.Lib.hid p8
        have CM2 : Hid (Calls Try.prog 22 #[.agg #[.int .i64 xa, .slice A6 n6 c6]] w8 fun e w' => e = .returned (.int .i64 (mayX ⟨xa, ee⟩)) ∧ Below w8.heap.size w8 w') := CM
        have HZ := Go.Lib.hid hz
        clear hz hz0 hcode e1 p8 bx8 CM
        go_upto_region 14 with (fail)
        go_cut [12] (fun v wx => v = .bool false ∧ Below w8.heap.size w8 wx)
        case first =>
          clear hra hle hlen8 hbx hs7 hs8 hw5 HB hbk hn6 hnw P8
          go_wp2_with fail
          refine (CM2.out).mono ?_
          rintro e w9 ⟨rfl, b9⟩
          have v0 := bcell b9 v0
          have v1 := bcell b9 v1
          have hz := HZ.out
          generalize mayX ⟨xa, ee⟩ = M at *
          by_cases hM : M = 0
          · subst hM
            have i1 : (xa == (nw : Int)) = false := by rw [beq_eq_false_iff_ne]; exact fun h => hz ⟨rfl, h⟩
            clear hz HZ
            go_wp2_with fail
            go_meet
            exact ⟨by simp, b9⟩
          · have i1 : (M == 0) = false := by rw [beq_eq_false_iff_ne]; exact hM
            clear hz HZ hM
            go_wp2_with fail
            go_meet
            exact ⟨by simp, b9⟩
        case rest =>
          obtain ⟨rfl, bc⟩ := hcut
          have pc := P8.out.below (kI _ _) (KR.out _) bc
          have BBc := below_chain HB8.out bc
          have hbc : w1.heap.size ≤ wc.heap.size := by have := bc.size; omega
          have CL := Go.Lib.hid (api.last pc (KR.out _) HL2.out.1)
          clear P8 bc CM2 v0 v1 HZ pc hra hlen8 hbx hs7 hs8 hw5 HB hbk hn6 hnw
          go_wp2_with fail
          refine (CL.out).mono ?_
          rintro e w9 ⟨rfl, p9, b9⟩
          have BB9 := below_chain BBc b9
          have hb9 := b9.size
          have CX := Go.Lib.hid (api.all p9 (KR.out _) (by omega) HL2.out.1 (u := (es.length : Nat)) (by omega))
          clear CL p9 b9 BBc
          go_wp2_with fail
          refine (CX.out).mono ?_
          rintro e w10 ⟨Ay, ny, cy, rfl, p10, b10⟩
          rw [all_all es (Int.le_refl _)] at p10
          have BB10 := below_chain BB9 b10
          have ry := pair_ro p10
          have rw_ := pair_ro (pair_first (pair_first (pair_first p10)))
          have CS := Go.Lib.hid (refSame14_any Aw Ay nw ny cw cy (recF es) w10 rw_ ry)
          clear CX p10 b10 BB9 ry rw_
          go_wp2_with fail
          refine (CS.out).mono ?_
          rintro e w11 ⟨rfl, b11⟩
          have BB11 := below_chain BB10 b11
          clear CS b11 BB10
          go_wp2_with fail
          go_ret
          exact ⟨by simp, BB11⟩
end

end Go.Proofs.Ytiplfhmimpkplaa.IxWalk

/-
  The laws' word of layer 14: add.
-/
namespace Go.Proofs.Ytiplfhmimpkplaa.IxWalk
open Go.RowKit Go.WideShapes Go.ChangeShapes Go.Proofs.Ytiplfhmimpkplaa.MemRow Go.Proofs.Ytiplfhmimpkplaa.Ev Go.Proofs.Ytiplfhmimpkplaa.Open Go.Proofs.Ytiplfhmimpkplaa.NameMath Go.Proofs.Ytiplfhmimpkplaa.NameWalk Go.Proofs.Ytiplfhmimpkplaa.EvWalk Go.Proofs.Ytiplfhmimpkplaa.NumMem Go.Proofs.Ytiplfhmimpkplaa.Qu Go.Proofs.Ytiplfhmimpkplaa.QuWalk Go.Proofs.Ytiplfhmimpkplaa.SmWalk Go.Proofs.Ytiplfhmimpkplaa.BtWalk Go.Proofs.Ytiplfhmimpkplaa.DkWalk

/-- What add makes of a log. -/
def playN (es : List Ev) (xs : List Bat) (k : Nat) : List Ev := playB es ((xs.take k).map fewB)
theorem playN_zero (es : List Ev) (xs : List Bat) : playN es xs 0 = es := rfl
theorem playN_step (es : List Ev) {xs : List Bat} {j : Nat} (h : j < xs.length) : playN es xs (j + 1) = (addB (playN es xs j) ⟨(playN es xs j).length, few8 (xs.getD j noBat).es⟩).2.2 := by
  unfold playN
  rw [bat_take xs j h, List.map_append, List.map_singleton, playB_snoc]
  rfl
theorem playN_ok {es : List Ev} (h : LogOk es) (hl : es.length ≤ 200) (xs : List Bat) : ∀ k, k ≤ 24 → LogOk (playN es xs k) ∧ (playN es xs k).length ≤ es.length + 8 * k
  | 0, _ => ⟨h, Nat.le_refl _⟩
  | k + 1, hk => by
    obtain ⟨h1, h2⟩ := playN_ok h hl xs k (by omega)
    by_cases hx : k < xs.length
    · rw [playN_step es hx]
      obtain ⟨h3, h4⟩ := logOk_more (x := ⟨(playN es xs k).length, few8 (xs.getD k noBat).es⟩) h1 h2 (few8_len _) (by omega)
      exact ⟨h3, by omega⟩
    · have e : playN es xs (k + 1) = playN es xs k := by
        unfold playN
        rw [List.take_of_length_le (by omega), List.take_of_length_le (by omega)]
      rw [e]
      exact ⟨h1, by omega⟩
theorem playN_all (es : List Ev) (xs : List Bat) {j k : Nat} (h : xs.length ≤ j) (hk : xs.length ≤ k) : playN es xs j = playN es xs k := by
  unfold playN
  rw [List.take_of_length_le h, List.take_of_length_le hk]

/-- An index among others. -/
structure OneApi (g : Nat) (Px : List Ev → Thing) : Prop where
  keeps : ∀ es, Keeps (Px es)
  add : ∀ {base : Nat} {w : World} {es : List Ev} {Q : Thing} {v : Value} {x : Bat}, Pair base w (Px es) Q → Keeps Q → base ≤ w.heap.size → LogOk es → es.length + x.es.length ≤ 400 → (∀ (w' : World) (G : Nat → Prop), Q w' G → Below base w w' → IsB w' v x) → BOk x →
    Calls Try.prog 12 #[.pointer (some ⟨g, 0, none⟩), v] w fun r w' => ∃ B m c, r = .returned (.tuple #[.slice B m c, .int .i64 (addB es x).1]) ∧ Pair base w' (Px (addB es x).2.2) (With Q (RoT B m c (addB es x).2.1)) ∧ Below base w w'
  last : ∀ {base : Nat} {w : World} {es : List Ev} {Q : Thing}, Pair base w (Px es) Q → Keeps Q → LogOk es →
    Calls Try.prog 11 #[.pointer (some ⟨g, 0, none⟩)] w fun e w' => e = .returned (.int .i64 (es.length : Nat)) ∧ Pair base w' (Px es) Q ∧ Below w.heap.size w w'
theorem one_of {Ix : Nat → List Ev → Thing} (api : IApi Ix) (g : Nat) : OneApi g (Ix g) := ⟨api.keeps g, api.add, api.last⟩
theorem one_two {Ix : Nat → List Ev → Thing} {It : Nat → List Ev → Nat → List Ev → Thing} (api : ITwo Ix It) (g g' : Nat) (es' : List Ev) : OneApi g (fun es => It g es g' es') := ⟨fun es => api.tkeeps g es g' es', api.tadd, api.tlast⟩

set_option maxHeartbeats 8000000 in
set_option maxRecDepth 100000 in
theorem add14_any {Px : List Ev → Thing} {g : Nat} (one : OneApi g Px) {base : Nat} {w0 w : World} {es : List Ev} {Q : Thing} {A : Option Addr} {n cap : Nat} {xs : List Bat} (hp : Pair base w (Px es) Q) (kq : Keeps Q) (hb : base ≤ w.heap.size) (lo : LogOk es) (hl : es.length ≤ 200) (h0 : RdBs w0 A n cap xs) (hok : ∀ x ∈ xs, BOk x) (hW : Below w0.heap.size w0 w) (hWb : w0.heap.size ≤ base) :
    Calls Try.prog 24 #[.pointer (some ⟨g, 0, none⟩), .slice A n cap] w fun e w' => e = .returned (.tuple #[]) ∧ Pair base w' (Px (playN es xs 8)) Q ∧ Below base w w' := by
  have hn := h0.le
  unfold maxLen at hn
  have HN := Go.Lib.hid h0.len
  have HOK := Go.Lib.hid (bats_ok hok)
  have kP := one.keeps
  have HP := Go.Lib.hid (playN_ok lo hl xs)
  have HB : Hid (Below base w w) := Go.Lib.hid (Below.refl base w)
  clear hok lo
  go_enter Try.func24, Try.ntmps24
  go_wp2_with fail
  go_loopw [4, 5] (fun iv _ wr => ∃ (j : Nat), iv = .int .i64 (j : Int) ∧ j ≤ n ∧ j ≤ 8 ∧ Pair base wr (Px (playN es xs j)) Q ∧ Below base w wr) (fun iv _ _ => n - (intOf iv).toNat)
  case atStart => exact ⟨0, rfl, Nat.zero_le _, by omega, hp, HB.out⟩
  case round =>
    obtain ⟨j, rfl, hjn, hj8, pj, Bj⟩ := hrel
    clear hp
    go_upto_region 1 with (fail)
    go_cut [13] (fun v wx => v = .bool (decide (j < n ∧ j < 8)) ∧ wr = wx)
    case first =>
      by_cases h1 : j < n
      · have i1 : (j : Int) < n := by omega
        by_cases h2 : j < 8
        · have i2 : (j : Int) < 8 := by omega
          go_wp2_with fail
          go_meet
          exact ⟨by simp [h1, h2], rfl⟩
        · have i2 : ¬ (j : Int) < 8 := by omega
          go_wp2_with fail
          go_meet
          exact ⟨by simp [h1, h2], rfl⟩
      · have i1 : ¬ (j : Int) < n := by omega
        go_wp2_with fail
        go_meet
        exact ⟨by simp [h1], rfl⟩
    obtain ⟨rfl, rfl⟩ := hcut
    have hbr : base ≤ wr.heap.size := Nat.le_trans hb Bj.size
    by_cases hc : j < n ∧ j < 8
    · rw [show decide (j < n ∧ j < 8) = true by simpa using hc]
      obtain ⟨h1, h2⟩ := hc
      obtain ⟨bi, oi, rfl, _, kk⟩ := h0.at_ (by omega)
      obtain ⟨E, nE, cE, y0', y1', rE⟩ := kk j h1
      have BB := hW.trans (Bj.mono hWb)
      have y0 := bcell BB y0'
      have y1 := bcell BB y1'
      have hxo := HOK.out j
      obtain ⟨hok1, hle1⟩ := HP.out j (by omega)
      have HS := Go.Lib.hid (playN_step es (xs := xs) (j := j) (by rw [HN.out]; exact h1))
      clear kk y0' y1'
      generalize xs.getD j noBat = x at *
      generalize playN es xs j = ej at *
      have i1 : (j : Int) < n := by omega
      have CF := Go.Lib.hid (few14_any (.agg #[.int .i64 x.a, .slice E nE cE]) x w0 wr ⟨E, nE, cE, rfl, rE⟩ BB)
      have HXO := Go.Lib.hid hxo
      have HO1 := Go.Lib.hid hok1
      have HBB := Go.Lib.hid BB
      clear rE hxo BB hok1
      go_wp2_with fail
      refine (CF.out).mono ?_
      rintro e w4 ⟨A4, n4, c4, rfl, o4, b4⟩
      have p4 := pair_more pj (kP _) kq hbr b4 (evK_of o4 (by omega))
      have k4 := with_keeps kq (evK_keeps w0 A4 n4 c4 (few8 x.es))
      have B4 := Bj.trans (bel_up hbr b4)
      have hb4 := Nat.le_trans hbr b4.size
      obtain ⟨p5, b5⟩ := bx_new (kP _) k4 hb4 p4 #[.int .i64 x.a, .slice A4 n4 c4] 33
      have x5 := BxAt.new w4 (.int .i64 x.a) (.slice A4 n4 c4)
      have B5 := B4.trans (bel_up hb4 b5)
      have BB5 := Go.Lib.hid (below_chain (below_chain HBB.out b4) b5)
      have hb5 := Nat.le_trans hb4 b5.size
      have hlen8 := few8_len x.es
      have XK := Go.Lib.hid (fewD_all HXO.out)
      clear pj Bj CF b4 p4 B4 o4 b5 y0 y1 HXO HBB hbr hb4
      generalize few8 x.es = xe at *
      go_upto_region 4 with (fail)
      generalize w4.alloc (.cells #[.int .i64 x.a, .slice A4 n4 c4] 33) = w5 at *
      generalize w4.heap.size = gc at *
      go_wp2_with fail
      refine (one.last p5 (with_keeps k4 (bxT_keeps _ _ _)) HO1.out).mono ?_
      rintro e w6 ⟨rfl, p6, b6⟩
      have x6 := x5.below b6
      have B6 := B5.trans (bel_up hb5 b6)
      have BB6 := Go.Lib.hid (below_chain BB5.out b6)
      have hb6 := Nat.le_trans hb5 b6.size
      have k0 := x6.c0
      have z0 := x6.frozen 0
      have x7 := x6.set0 (.int .i64 (ej.length : Nat))
      obtain ⟨p7, b7⟩ := lg_put (v := .int .i64 (ej.length : Nat)) (i := 0) (kP _) k4 p6 x7
      have B7 := B6.trans b7
      have BB7 := Go.Lib.hid (BB6.out.trans (b7.mono hWb))
      have hb7 := Nat.le_trans hb6 b7.size
      have X7 := Go.Lib.hid x7
      clear p5 B5 x5 p6 b6 x6 B6 b7 x7 BB5 BB6 hb5 hb6
      go_upto_region 5 with (fail)
      generalize w6.setCell ⟨gc, 0, none⟩ (.int .i64 (ej.length : Nat)) = w7 at *
      have k0 := X7.out.c0
      have k1 := X7.out.c1
      have CA := Go.Lib.hid (one.add (x := ⟨(ej.length : Nat), xe⟩) p7 (with_keeps k4 (bxT_keeps _ _ _)) hb7 HO1.out (by simp only; omega) (fun _ _ hq hb' => evk_isb hq (BB7.out.trans (hb'.mono hWb))) ⟨XK.out, by simp only; omega, by simp only; omega⟩)
      clear p7 z0 X7 BB7 k4
      go_wp2_with fail
      refine (CA.out).mono ?_
      rintro e w8 ⟨A8, n8, c8, rfl, p8, b8⟩
      have p9 := pair_first (pair_first (pair_first p8))
      have B9 := B7.trans b8
      have HS2 : Hid (playN es xs (j + 1) = (addB ej ⟨(ej.length : Nat), xe⟩).2.2) := HS
      clear p8 B7 b8 CA HS
      generalize addB ej ⟨(ej.length : Nat), xe⟩ = R at *
      obtain ⟨re, rr, es2⟩ := R
      simp only at p9
      have P9 : Hid (Pair base w8 (Px (playN es xs (j + 1))) Q) := Go.Lib.hid (by rw [HS2.out]; exact p9)
      clear p9 HS2
      go_wp2_with fail
      go_roundw
      case rel => exact ⟨j + 1, by go_num, by omega, by omega, P9.out, B9⟩
      case measure => simp [intOf]; omega
    · rw [show decide (j < n ∧ j < 8) = false by simpa using hc]
      have e : playN es xs j = playN es xs 8 := by
        by_cases h8 : j = 8
        · rw [h8]
        · exact playN_all es xs (by rw [HN.out]; omega) (by rw [HN.out]; omega)
      rw [e] at pj
      clear hc e
      go_wp2_with fail
      go_end0
      exact ⟨rfl, pj, Bj⟩

end Go.Proofs.Ytiplfhmimpkplaa.IxWalk

/-
  Walk of a statement of layer 14: IndexCopies.
-/
namespace Go.Proofs.Ytiplfhmimpkplaa.IxWalk
open Go.RowKit Go.WideShapes Go.ChangeShapes Go.Proofs.Ytiplfhmimpkplaa.MemRow Go.Proofs.Ytiplfhmimpkplaa.Ev Go.Proofs.Ytiplfhmimpkplaa.Open Go.Proofs.Ytiplfhmimpkplaa.NameMath Go.Proofs.Ytiplfhmimpkplaa.NameWalk Go.Proofs.Ytiplfhmimpkplaa.EvWalk Go.Proofs.Ytiplfhmimpkplaa.NumMem Go.Proofs.Ytiplfhmimpkplaa.Qu Go.Proofs.Ytiplfhmimpkplaa.QuWalk Go.Proofs.Ytiplfhmimpkplaa.SmWalk Go.Proofs.Ytiplfhmimpkplaa.BtWalk Go.Proofs.Ytiplfhmimpkplaa.DkWalk

theorem pairImpL {base : Nat} {w : World} {P P' Q : Thing} (i : Imp P P') (h : Pair base w P Q) : Pair base w P' Q := (pair_imp i h.swap).swap
theorem pair_all {base : Nat} {w : World} {P Q : Thing} (h : Pair base w P Q) (kp : Keeps P) (kq : Keeps Q) : ∃ G, With P Q w G ∧ ∀ k, G k → base ≤ k := by
  obtain ⟨F, G, hp, hq, h1, h2, h3⟩ := h
  refine ⟨fun k => F k ∨ G k, ⟨F, G, hp, hq, fun _ h => .inl h, fun _ h => .inr h, fun k hk => ?_, h3⟩, fun k hk => ?_⟩
  · rcases hk with hk | hk
    · exact kp.lt hp k hk
    · exact kq.lt hq k hk
  · rcases hk with hk | hk
    · exact h1 k hk
    · exact h2 k hk
section
variable {Ix : Nat → List Ev → Thing} {It : Nat → List Ev → Nat → List Ev → Thing}
theorem new_with (api : IApi Ix) {base : Nat} {w : World} {P Q : Thing} (h : Pair base w P Q) (kp : Keeps P) (kq : Keeps Q) (hb : base ≤ w.heap.size) :
    Calls Try.prog 9 #[] w fun e w' => ∃ g, e = .returned (.pointer (some ⟨g, 0, none⟩)) ∧ Pair base w' (Ix g []) (With P Q) ∧ Below w.heap.size w w' := by
  obtain ⟨G, hw, hG⟩ := pair_all h kp kq
  exact api.new hw (with_keeps kp kq) hG hb
set_option maxHeartbeats 8000000 in
set_option maxRecDepth 100000 in
theorem icopies_walk (api : ITwo Ix It) (A1 A2 A3 : Option Addr) (n1 n2 n3 c1 c2 c3 : Nat) (l m k : List Bat) (w0 : World) (h1 : RdBs w0 A1 n1 c1 l) (h2 : RdBs w0 A2 n2 c2 m) (h3 : RdBs w0 A3 n3 c3 k) (o1 : ∀ x ∈ l, BOk x) (o2 : ∀ x ∈ m, BOk x) (o3 : ∀ x ∈ k, BOk x) :
    Calls Try.prog 7 #[.slice A1 n1 c1, .slice A2 n2 c2, .slice A3 n3 c3] w0 fun e w' => e = .returned (.bool true) ∧ Below w0.heap.size w0 w' := by
  have kI := api.keeps
  have kT := api.tkeeps
  obtain ⟨lL, bL⟩ := playN_ok logOk_nil (by simp) l 8 (by omega)
  rw [List.length_nil] at bL
  obtain ⟨lM, bM⟩ := playN_ok lL (by omega) m 8 (by omega)
  obtain ⟨lN, bN⟩ := playN_ok lL (by omega) k 8 (by omega)
  have hu : ((-9223372036854775808 : Int) ≤ 1048576 ∧ (1048576 : Int) ≤ 9223372036854775807) := by decide
  have AD := fun {g : Nat} {Px : List Ev → Thing} (one : OneApi g Px) {w : World} {es : List Ev} {Q : Thing} (xs : List Bat) {A : Option Addr} {n c : Nat} (hp : Pair w0.heap.size w (Px es) Q) (kq : Keeps Q) (B : Below w0.heap.size w0 w) (lo : LogOk es) (hl : es.length ≤ 200) (h0 : RdBs w0 A n c xs) (hok : ∀ x ∈ xs, BOk x) => add14_any one hp kq B.size lo hl h0 hok B (Nat.le_refl _)
  have HH := Go.Lib.hid (⟨lL, lM, lN, bL, bM, bN⟩ : _ ∧ _ ∧ _ ∧ _ ∧ _ ∧ _)
  have HL : Hid (∀ {g : Nat} {Px : List Ev → Thing} (_ : OneApi g Px) {w : World} {Q : Thing}, Pair w0.heap.size w (Px []) Q → Keeps Q → Below w0.heap.size w0 w → Calls Try.prog 24 #[.pointer (some ⟨g, 0, none⟩), .slice A1 n1 c1] w fun e w' => e = .returned (.tuple #[]) ∧ Pair w0.heap.size w' (Px (playN [] l 8)) Q ∧ Below w0.heap.size w w') := Go.Lib.hid (fun one {w Q} hp kq B => AD one l hp kq B logOk_nil (by simp) h1 o1)
  have HM : Hid (∀ {g : Nat} {Px : List Ev → Thing} (_ : OneApi g Px) {w : World} {Q : Thing}, Pair w0.heap.size w (Px (playN [] l 8)) Q → Keeps Q → Below w0.heap.size w0 w → Calls Try.prog 24 #[.pointer (some ⟨g, 0, none⟩), .slice A2 n2 c2] w fun e w' => e = .returned (.tuple #[]) ∧ Pair w0.heap.size w' (Px (playN (playN [] l 8) m 8)) Q ∧ Below w0.heap.size w w') := Go.Lib.hid (fun one {w Q} hp kq B => AD one m hp kq B lL (by omega) h2 o2)
  have HN : Hid (∀ {g : Nat} {Px : List Ev → Thing} (_ : OneApi g Px) {w : World} {Q : Thing}, Pair w0.heap.size w (Px (playN [] l 8)) Q → Keeps Q → Below w0.heap.size w0 w → Calls Try.prog 24 #[.pointer (some ⟨g, 0, none⟩), .slice A3 n3 c3] w fun e w' => e = .returned (.tuple #[]) ∧ Pair w0.heap.size w' (Px (playN (playN [] l 8) k 8)) Q ∧ Below w0.heap.size w w') := Go.Lib.hid (fun one {w Q} hp kq B => AD one k hp kq B lL (by omega) h3 o3)
  clear AD lL lM lN bL bM bN h1 h2 h3 o1 o2 o3
  generalize playN (playN [] l 8) m 8 = M at *
  generalize playN (playN [] l 8) k 8 = N at *
  generalize playN [] l 8 = L at *
  obtain ⟨lL, lM, lN, bL, bM, bN⟩ := HH.out
  clear HH
  go_enter Try.func7, Try.ntmps7
  go_wp2_with fail
  refine (shown14_any api.toIApi w0).mono ?_
  rintro e w1 ⟨rfl, B1⟩
  go_wp2_with fail
  refine (api.new (base := w0.heap.size) (Q := NoT) (G := fun _ => False) (fun k h => h) noT_keeps (fun k h => h.elim) B1.size).mono ?_
  rintro e w2 ⟨ga, rfl, p2, b2⟩
  have B2 := below_chain B1 b2
  clear B1 b2
  go_wp2_with fail
  refine (new_with api.toIApi p2 (kI _ _) noT_keeps B2.size).mono ?_
  rintro e w3 ⟨gb, rfl, p3, b3⟩
  have B3 := below_chain B2 b3
  have p3 := pair_rot (kI _ _) p3
  clear B2 p2 b3
  go_wp2_with fail
  refine (HL.out (one_of api.toIApi ga) p3 (with_keeps (kI _ _) noT_keeps) B3).mono ?_
  rintro e w4 ⟨rfl, p4, b4⟩
  have B4 := B3.trans b4
  have p4 := pair_rot (kI _ _) p4
  clear B3 p3 b4
  go_wp2_with fail
  refine (HL.out (one_of api.toIApi gb) p4 (with_keeps (kI _ _) noT_keeps) B4).mono ?_
  rintro e w5 ⟨rfl, p5, b5⟩
  have B5 := B4.trans b5
  have p5 := pair_rot (kI _ _) p5
  clear B4 p4 b5
  go_wp2_with fail
  refine (api.clone p5 (with_keeps (kI _ _) noT_keeps) B5.size lL).mono ?_
  rintro e w6 ⟨gc, rfl, p6, b6⟩
  have B6 := below_chain B5 b6
  clear B5 p5 b6
  go_wp2_with fail
  refine (HM.out (one_two api ga gc L) p6 (with_keeps (kI _ _) noT_keeps) B6).mono ?_
  rintro e w7 ⟨rfl, p7, b7⟩
  have B7 := B6.trans b7
  have p7 := pairImpL (api.swap _ _ _ _) p7
  clear B6 p6 b7
  go_wp2_with fail
  refine (HN.out (one_two api gc ga M) p7 (with_keeps (kI _ _) noT_keeps) B7).mono ?_
  rintro e w8 ⟨rfl, p8, b8⟩
  have B8 := B7.trans b8
  have p8 := pair_rot (kT _ _ _ _) p8
  clear B7 p7 b8
  go_wp2_with fail
  refine (HN.out (one_of api.toIApi gb) p8 (with_keeps (kT _ _ _ _) noT_keeps) B8).mono ?_
  rintro e w9 ⟨rfl, p9, b9⟩
  have B9 := B8.trans b9
  have p9 := pair_rot (kI _ _) p9
  clear B8 p8 b9
  go_wp2_with fail
  refine (api.tall p9 (with_keeps (kI _ _) noT_keeps) B9.size lN hu).mono ?_
  rintro e w10 ⟨Ar, nr, cr, rfl, p10, b10⟩
  have B10 := below_chain B9 b10
  have p10 := side_in (with_keeps (kT _ _ _ _) (roT_keeps _ _ _ _)) (pair_rot (kT _ _ _ _) p10)
  clear B9 p9 b10
  go_wp2_with fail
  refine (api.all p10 (with_keeps (with_keeps (kT _ _ _ _) (roT_keeps _ _ _ _)) noT_keeps) B10.size lN hu).mono ?_
  rintro e w11 ⟨As, ns, cs, rfl, p11, b11⟩
  have B11 := below_chain B10 b11
  have r2 := pair_ro p11
  have p12 := pair_first (pair_first p11)
  have r1 := pair_ro p12
  have p13 := pair_first p12
  have CS := Go.Lib.hid (refSame14_any Ar As nr ns cr cs (allF N 1048576) w11 r1 r2)
  clear B10 p10 b11 p11 p12 r1 r2
  go_wp2_with fail
  refine (CS.out).mono ?_
  rintro e w12 ⟨rfl, b12⟩
  have B12 := below_chain B11 b12
  have p13 := p13.below (kI _ _) (kT _ _ _ _) b12
  clear CS B11 b12
  go_wp2_with fail
  refine (new_with api.toIApi p13 (kI _ _) (kT _ _ _ _) B12.size).mono ?_
  rintro e w13 ⟨gd, rfl, p14, b13⟩
  have B13 := below_chain B12 b13
  have p14 := pair_second p14
  clear B12 p13 b13
  go_wp2_with fail
  refine (HL.out (one_of api.toIApi gd) p14 (kT _ _ _ _) B13).mono ?_
  rintro e w14 ⟨rfl, p15, b14⟩
  have B14 := B13.trans b14
  clear B13 p14 b14
  go_wp2_with fail
  refine (HM.out (one_of api.toIApi gd) p15 (kT _ _ _ _) B14).mono ?_
  rintro e w15 ⟨rfl, p16, b15⟩
  have B15 := B14.trans b15
  have p16 := pairImpL (api.swap _ _ _ _) p16.swap
  clear B14 p15 b15
  go_wp2_with fail
  refine (api.tall p16 (kI _ _) B15.size lM hu).mono ?_
  rintro e w16 ⟨At, nt, ct, rfl, p17, b16⟩
  have B16 := below_chain B15 b16
  have p17 := pair_rot (kT _ _ _ _) p17
  clear B15 p16 b16
  go_wp2_with fail
  refine (api.all p17 (with_keeps (kT _ _ _ _) (roT_keeps _ _ _ _)) B16.size lM hu).mono ?_
  rintro e w17 ⟨Av, nv, cv, rfl, p18, b17⟩
  have B17 := below_chain B16 b17
  have r4 := pair_ro p18
  have r3 := pair_ro (pair_first p18)
  have CS := Go.Lib.hid (refSame14_any At Av nt nv ct cv (allF M 1048576) w17 r3 r4)
  clear B16 p17 b17 p18 r3 r4
  go_wp2_with fail
  refine (CS.out).mono ?_
  rintro e w18 ⟨rfl, b18⟩
  have B18 := below_chain B17 b18
  go_wp2_with fail
  go_ret
  exact ⟨by simp, B18⟩
end

end Go.Proofs.Ytiplfhmimpkplaa.IxWalk

/-
  Layer 14's statements: a query as a thing; an ask that came in.
-/
namespace Go.Proofs.Ytiplfhmimpkplaa.IxWalk
open Go.RowKit Go.WideShapes Go.ChangeShapes Go.Joins Go.Deep Go.Proofs.Ytiplfhmimpkplaa.MemRow Go.Proofs.Ytiplfhmimpkplaa.Ev Go.Proofs.Ytiplfhmimpkplaa.Open Go.Proofs.Ytiplfhmimpkplaa.NameMath Go.Proofs.Ytiplfhmimpkplaa.NameWalk Go.Proofs.Ytiplfhmimpkplaa.EvWalk Go.Proofs.Ytiplfhmimpkplaa.NumMem Go.Proofs.Ytiplfhmimpkplaa.Qu Go.Proofs.Ytiplfhmimpkplaa.QuWalk Go.Proofs.Ytiplfhmimpkplaa.SmWalk Go.Proofs.Ytiplfhmimpkplaa.BtWalk Go.Proofs.Ytiplfhmimpkplaa.DkWalk

theorem qfew_of {q : List Cl} (h : QOk q) : QFew (fewQ q) := ⟨fewQ_ok h, fewQ_len q, fewQ_terms q⟩
/-- A query's clauses, told by whatever agrees on its blocks. -/
def QkT (W0 : World) (A : Option Addr) (n c : Nat) (q : List Cl) : Thing := fun w G => (∀ w', Below W0.heap.size W0 w' → (∀ k, G k → w'.heap[k]? = w.heap[k]?) → RdQ w' A n c q) ∧ ∀ k, G k → k < w.heap.size
theorem qkT_keeps (W0 : World) (A : Option Addr) (n c : Nat) (q : List Cl) : Keeps (QkT W0 A n c q) :=
  ⟨fun h hs hk => ⟨fun w2 hb h2 => h.1 w2 hb fun k hk2 => (h2 k hk2).trans (hk k hk2), fun k h3 => Nat.lt_of_lt_of_le (h.2 k h3) hs⟩, fun h => h.2⟩
theorem qkT_of {W0 w w' : World} {lo : Nat} {A : Option Addr} {n c : Nat} {q : List Cl} (h : OwnQ W0 w' lo A n c q) (hlo : w.heap.size ≤ lo) : QkT W0 A n c q w' (fun k => w.heap.size ≤ k ∧ k < w'.heap.size) := by
  refine ⟨fun w2 hb h2 => ?_, fun k hk => hk.2⟩
  obtain ⟨cs, o, hl, hc⟩ := h
  refine OwnQ.rd ⟨cs, own_keep o fun a ha => h2 _ ?_, hl, hc⟩ hb
  have := OwnC.lt o a ha
  exact ⟨by omega, this.2⟩
theorem pair_qk {base : Nat} {W0 w : World} {P Q : Thing} {A : Option Addr} {n c : Nat} {q : List Cl} (h : Pair base w P (With Q (QkT W0 A n c q))) (hB : Below W0.heap.size W0 w) : RdQ w A n c q := by
  obtain ⟨_, _, _, ⟨_, _, _, hr, _⟩, _⟩ := h
  exact hr.1 w hB fun _ _ => rfl
theorem getD_of {rs : List Rc} {j : Nat} (h : j < rs.length) : rs.getD j noRc = rs[j] := by
  rw [List.getD_eq_getElem?_getD, List.getElem?_eq_getElem h]; rfl
theorem rows_at (es : List Ev) (s : ByteArray) (u : Int) {j : Nat} (h : j < (strF es s u).length) : ((strF es s u).getD j noRc).ver = (j : Int) + 1 ∧ ((strF es s u).getD j noRc).e.s = s := by
  rw [getD_of h]
  exact str_at es s u j h
/-- A query's rows: each matches, and positions rise. -/
theorem qry_at (es : List Ev) (q : List Cl) (u : Int) {j : Nat} (h : j < (qryF es q u).length) : matchQ q ((qryF es q u).getD j noRc).e = true := by
  rw [getD_of h]
  exact (tell_mem.1 (List.getElem_mem h)).2.2
theorem qry_up (es : List Ev) (q : List Cl) (u : Int) {j : Nat} (h : j < (qryF es q u).length) (h0 : 0 < j) : ((qryF es q u).getD (j - 1) noRc).pos < ((qryF es q u).getD j noRc).pos := by
  have h1 : j - 1 < (qryF es q u).length := by omega
  rw [getD_of h, getD_of h1]
  exact List.pairwise_iff_getElem.1 (tell_inc (matchQ q) es u) (j - 1) j h1 h (by omega)

end Go.Proofs.Ytiplfhmimpkplaa.IxWalk

/-
  Walk of a statement of layer 14: IndexStays. (Written by genstays.py.)
-/
namespace Go.Proofs.Ytiplfhmimpkplaa.IxWalk
open Go.Proofs.Ytiplfhmimpkplaa.HeldAt Go.RowKit Go.WideShapes Go.ChangeShapes Go.Proofs.Ytiplfhmimpkplaa.MemRow Go.Proofs.Ytiplfhmimpkplaa.Ev Go.Proofs.Ytiplfhmimpkplaa.Open Go.Proofs.Ytiplfhmimpkplaa.NameMath Go.Proofs.Ytiplfhmimpkplaa.NameWalk Go.Proofs.Ytiplfhmimpkplaa.EvWalk Go.Proofs.Ytiplfhmimpkplaa.NumMem Go.Proofs.Ytiplfhmimpkplaa.Qu Go.Proofs.Ytiplfhmimpkplaa.QuWalk Go.Proofs.Ytiplfhmimpkplaa.SmWalk Go.Proofs.Ytiplfhmimpkplaa.BtWalk Go.Proofs.Ytiplfhmimpkplaa.DkWalk

section
variable {Ix : Nat → List Ev → Thing}
set_option maxHeartbeats 16000000 in
set_option maxRecDepth 100000 in
theorem stays_walk (api : IApi Ix) (A1 A2 : Option Addr) (n1 n2 c1 c2 : Nat) (l m : List Bat) (s : ByteArray) (Cq : Option Addr) (nq cq : Nat) (q0 : List Cl) (z : Int) (w0 : World) (r1 : RdBs w0 A1 n1 c1 l) (r2 : RdBs w0 A2 n2 c2 m) (o1 : ∀ x ∈ l, BOk x) (o2 : ∀ x ∈ m, BOk x) (hs : s.size ≤ maxLen) (hq : RdQ w0 Cq nq cq q0) (hqo : QOk q0) (hz : -9223372036854775808 ≤ z ∧ z ≤ 9223372036854775807) :
    Calls Try.prog 3 #[.slice A1 n1 c1, .slice A2 n2 c2, .agg #[.string s, .slice Cq nq cq, .int .i64 z]] w0 fun e w' => e = .returned (.bool true) ∧ Below w0.heap.size w0 w' := by
  have hn1 := r1.le
  have hn2 := r2.le
  unfold maxLen at hn1 hn2
  have one : ∀ g, OneApi g (Ix g) := one_of api
  have HN1 := Go.Lib.hid r1.len
  have HN2 := Go.Lib.hid r2.len
  have HOK1 := Go.Lib.hid (bats_ok o1)
  have HOK2 := Go.Lib.hid (bats_ok o2)
  have HP1 := Go.Lib.hid (playN_ok logOk_nil (by simp) l)
  obtain ⟨lL, bL⟩ := HP1.out 12 (by omega)
  rw [List.length_nil, Nat.zero_add] at bL
  have HP2 := Go.Lib.hid (playN_ok lL (by omega) m)
  obtain ⟨lM, bM⟩ := HP2.out 12 (by omega)
  have HLL := Go.Lib.hid lL
  have HLM := Go.Lib.hid lM
  have HQ : Hid (RdQ w0 Cq nq cq q0) := Go.Lib.hid hq
  have HQF := Go.Lib.hid (qfew_of hqo)
  have al := (Below.refl w0.heap.size w0).alloc (Nat.le_refl _) (.cells #[.string s, .slice Cq nq cq, .int .i64 z] 27)
  have bx := heap_alloc_new w0 (.cells #[.string s, .slice Cq nq cq, .int .i64 z] 27)
  have hE0 : ([] : List Ev).length ≤ 200 := by simp
  clear o1 o2 lL lM hq hqo
  go_enter Try.func3, Try.ntmps3
  go_upto_region 1 with (fail)
  generalize w0.alloc (.cells #[.string s, .slice Cq nq cq, .int .i64 z] 27) = w1 at *
  have hw1 : w0.heap.size ≤ w1.heap.size := al.size
  have AL := Go.Lib.hid al
  have BX := Go.Lib.hid bx
  clear al bx
  go_wp2_with fail
  refine (shown14_any api w1).mono ?_
  rintro e w2 ⟨rfl, B2⟩
  go_wp2_with fail
  refine (api.new (base := w1.heap.size) (Q := NoT) (G := fun _ => False) (fun k h => h) noT_keeps (fun k h => h.elim) B2.size).mono ?_
  rintro e w3 ⟨g, rfl, p3, b3⟩
  have B3 := below_chain B2 b3
  have hb3 := B3.size
  have HW3 := Go.Lib.hid (below_chain AL.out B3)
  have HB3 := Go.Lib.hid B3
  have one := one g
  clear B2 b3 B3
  go_wp2_with fail
  go_loopw [9, 10] (fun iv _ wr => ∃ (j : Nat), iv = .int .i64 (j : Int) ∧ j ≤ n1 ∧ j ≤ 12 ∧ Pair w1.heap.size wr (Ix g (playN [] l j)) (NoT) ∧ Below w1.heap.size w3 wr) (fun iv _ _ => n1 - (intOf iv).toNat)
  case atStart => exact ⟨0, rfl, Nat.zero_le _, by omega, p3, Below.refl _ _⟩
  case round =>
    obtain ⟨j1, rfl, hjn1, hjK1, pj, Bj⟩ := hrel
    clear p3
    go_upto_region 6 with (fail)
    go_cut [41] (fun v wx => v = .bool (decide (j1 < n1 ∧ j1 < 12)) ∧ wr = wx)
    case first =>
      by_cases h1 : j1 < n1
      · have i1 : (j1 : Int) < n1 := by omega
        by_cases h2 : j1 < 12
        · have i2 : (j1 : Int) < 12 := by omega
          go_wp2_with fail
          go_meet
          exact ⟨by simp [h1, h2], rfl⟩
        · have i2 : ¬ (j1 : Int) < 12 := by omega
          go_wp2_with fail
          go_meet
          exact ⟨by simp [h1, h2], rfl⟩
      · have i1 : ¬ (j1 : Int) < n1 := by omega
        go_wp2_with fail
        go_meet
        exact ⟨by simp [h1], rfl⟩
    obtain ⟨rfl, rfl⟩ := hcut
    have hbr : w1.heap.size ≤ wr.heap.size := Nat.le_trans hb3 Bj.size
    by_cases hc : j1 < n1 ∧ j1 < 12
    · rw [show decide (j1 < n1 ∧ j1 < 12) = true by simpa using hc]
      obtain ⟨h1, h2⟩ := hc
      obtain ⟨bi, oi, rfl, _, kk⟩ := RdBs.at_ r1 (by omega)
      obtain ⟨E, nE, cE, y0', y1', rE⟩ := kk j1 h1
      have BB := HW3.out.trans (Bj.mono hw1)
      have y0 := bcell BB y0'
      have y1 := bcell BB y1'
      have hxo := HOK1.out j1
      obtain ⟨hok1, hle1⟩ := HP1.out j1 (by omega)
      have HS := Go.Lib.hid (playN_step [] (xs := l) (j := j1) (by rw [HN1.out]; exact h1))
      clear kk y0' y1'
      generalize l.getD j1 noBat = x at *
      generalize playN [] l j1 = ej at *
      have i1 : (j1 : Int) < n1 := by omega
      have CF := Go.Lib.hid (few14_any (.agg #[.int .i64 x.a, .slice E nE cE]) x w0 wr ⟨E, nE, cE, rfl, rE⟩ BB)
      have HXO := Go.Lib.hid hxo
      have HO1 := Go.Lib.hid hok1
      have HL1 := Go.Lib.hid hle1
      have HBB := Go.Lib.hid BB
      clear rE hxo BB hok1 hle1
      go_wp2_with fail
      refine (CF.out).mono ?_
      rintro e w4 ⟨A4, n4, c4, rfl, o4, b4⟩
      have p4 := pair_more pj (one.keeps _) noT_keeps hbr b4 (evK_of o4 (by omega))
      have k4 := with_keeps noT_keeps (evK_keeps w0 A4 n4 c4 (few8 x.es))
      have B4 := Bj.trans (bel_up hbr b4)
      have hb4 := Nat.le_trans hbr b4.size
      obtain ⟨p5, b5⟩ := bx_new (one.keeps _) k4 hb4 p4 #[.int .i64 x.a, .slice A4 n4 c4] 33
      have x5 := BxAt.new w4 (.int .i64 x.a) (.slice A4 n4 c4)
      have B5 := B4.trans (bel_up hb4 b5)
      have BB5 := Go.Lib.hid (below_chain (below_chain HBB.out b4) b5)
      have hb5 := Nat.le_trans hb4 b5.size
      have hlen8 := few8_len x.es
      have XK := Go.Lib.hid (fewD_all HXO.out)
      clear pj Bj CF b4 p4 B4 o4 b5 y0 y1 HXO HBB hbr hb4
      generalize few8 x.es = xe at *
      go_upto_region 9 with (fail)
      generalize w4.alloc (.cells #[.int .i64 x.a, .slice A4 n4 c4] 33) = w5 at *
      generalize w4.heap.size = gc at *
      go_wp2_with fail
      refine (one.last p5 (with_keeps k4 (bxT_keeps _ _ _)) HO1.out).mono ?_
      rintro e w6 ⟨rfl, p6, b6⟩
      have x6 := x5.below b6
      have B6 := B5.trans (bel_up hb5 b6)
      have BB6 := Go.Lib.hid (below_chain BB5.out b6)
      have hb6 := Nat.le_trans hb5 b6.size
      have k0 := x6.c0
      have z0 := x6.frozen 0
      have x7 := x6.set0 (.int .i64 (ej.length : Nat))
      obtain ⟨p7, b7⟩ := lg_put (v := .int .i64 (ej.length : Nat)) (i := 0) (one.keeps _) k4 p6 x7
      have B7 := B6.trans b7
      have BB7 := Go.Lib.hid (BB6.out.trans (b7.mono hw1))
      have hb7 := Nat.le_trans hb6 b7.size
      have X7 := Go.Lib.hid x7
      clear p5 B5 x5 p6 b6 x6 B6 b7 x7 BB5 BB6 hb5 hb6
      go_upto_region 10 with (fail)
      generalize w6.setCell ⟨gc, 0, none⟩ (.int .i64 (ej.length : Nat)) = w7 at *
      have k0 := X7.out.c0
      have k1 := X7.out.c1
      have hle1 := HL1.out
      have CA := Go.Lib.hid (one.add (x := ⟨(ej.length : Nat), xe⟩) p7 (with_keeps k4 (bxT_keeps _ _ _)) hb7 HO1.out (by simp only; omega) (fun _ _ hq hb' => evk_isb hq (BB7.out.trans (hb'.mono hw1))) ⟨XK.out, by simp only; omega, by simp only; omega⟩)
      clear p7 z0 X7 BB7 hle1 k4
      go_wp2_with fail
      refine (CA.out).mono ?_
      rintro e w8 ⟨A8, n8, c8, rfl, p8, b8⟩
      have p9 := pair_first (pair_first (pair_first p8))
      have B9 := B7.trans b8
      have HS2 : Hid (playN [] l (j1 + 1) = (addB ej ⟨(ej.length : Nat), xe⟩).2.2) := HS
      clear p8 B7 b8 CA HS
      generalize addB ej ⟨(ej.length : Nat), xe⟩ = R at *
      obtain ⟨re, rr, es2⟩ := R
      simp only at p9
      have P9 : Hid (Pair w1.heap.size w8 (Ix g (playN [] l (j1 + 1))) (NoT)) := Go.Lib.hid (by rw [HS2.out]; exact p9)
      clear p9 HS2
      go_wp2_with fail
      go_roundw
      case rel => exact ⟨j1 + 1, by go_num, by omega, by omega, P9.out, B9⟩
      case measure => simp [intOf]; omega
    · rw [show decide (j1 < n1 ∧ j1 < 12) = false by simpa using hc]
      have e : playN [] l j1 = playN [] l 12 := by
        by_cases h8 : j1 = 12
        · rw [h8]
        · exact playN_all [] l (by rw [HN1.out]; omega) (by rw [HN1.out]; omega)
      rw [e] at pj
      clear hc e
      generalize hE : playN [] l 12 = es at *
      have B4 := HB3.out.trans Bj
      have CL := Go.Lib.hid (api.last pj noT_keeps HLL.out)
      clear pj Bj HW3 hbr HB3
      go_wp2_with fail
      refine (CL.out).mono ?_
      rintro e w5 ⟨rfl, p5, b5⟩
      have B5 := below_chain B4 b5
      have hx5 := (B5.block w0.heap.size (Array.getElem?_eq_some_iff.1 BX.out).1).trans BX.out
      have k0 : w5.cell? ⟨w0.heap.size, 0, none⟩ = some (.string s) := by rw [cell_of_row w5 w0.heap.size 0 _ _ _ hx5]; rfl
      have k1 : w5.cell? ⟨w0.heap.size, 1, none⟩ = some (.slice Cq nq cq) := by rw [cell_of_row w5 w0.heap.size 1 _ _ _ hx5]; rfl
      have k2 : w5.cell? ⟨w0.heap.size, 2, none⟩ = some (.int .i64 z) := by rw [cell_of_row w5 w0.heap.size 2 _ _ _ hx5]; rfl
      obtain ⟨t, ht⟩ : ∃ t, min z (es.length : Int) = t := ⟨_, rfl⟩
      have htl : t ≤ es.length := by omega
      have htr : -9223372036854775808 ≤ t ∧ t ≤ 9223372036854775807 := by omega
      have BB5 := below_chain AL.out B5
      have CF := Go.Lib.hid (less14_any (.agg #[.slice Cq nq cq]) q0 w0 w5 ⟨Cq, nq, cq, rfl, HQ.out⟩ BB5)
      have HT := Go.Lib.hid ht
      clear CL B4 b5 hx5
      go_wp2_with fail
      refine (CF.out).mono ?_
      rintro e w6 ⟨A6, n6, c6, rfl, o6, b6⟩
      have p6 := pair_more p5 (one.keeps _) noT_keeps B5.size b6 (qkT_of o6 (by omega))
      have B6 := below_chain B5 b6
      obtain ⟨p7, b7⟩ := bx_new (one.keeps _) (with_keeps noT_keeps (qkT_keeps _ _ _ _ _)) B6.size p6 #[.slice A6 n6 c6] 25
      have B7 := below_chain B6 b7
      have y0 := bcell b7 (bcell b6 k0)
      have gx : (w6.alloc (.cells #[.slice A6 n6 c6] 25)).cell? ⟨w6.heap.size, 0, none⟩ = some (.slice A6 n6 c6) := by rw [cell_of_row _ w6.heap.size 0 _ _ _ (heap_alloc_new w6 _)]; rfl
      generalize fewQ q0 = q at *
      clear p5 B5 BB5 CF o6 b6 p6 B6 b7 k0 k1 k2 ht
      go_upto_region 14 with (fail)
      generalize w6.alloc (.cells #[.slice A6 n6 c6] 25) = w7 at *
      generalize w6.heap.size = gq at *
      have CS := Go.Lib.hid (api.str (s := s) (u := t) p7 (with_keeps (with_keeps noT_keeps (qkT_keeps _ _ _ _ _)) (bxT_keeps _ _ _)) B7.size HLL.out hs htr)
      clear p7
      go_wp2_with fail
      refine (CS.out).mono ?_
      rintro e w8 ⟨Aa, na, ca, rfl, p8, b8⟩
      have B8 := below_chain B7 b8
      have gx := bcell b8 gx
      have BB8 := below_chain AL.out B8
      have k8 : Keeps (With (With (With NoT (QkT w0 A6 n6 c6 q)) (BxT gq #[.slice A6 n6 c6] 25)) (RoT Aa na ca (strF es s t))) := with_keeps (with_keeps (with_keeps noT_keeps (qkT_keeps _ _ _ _ _)) (bxT_keeps _ _ _)) (roT_keeps _ _ _ _)
      have CQ := Go.Lib.hid (api.qry (q := q) (u := t) p8 k8 B8.size HLL.out ⟨A6, n6, c6, rfl, pair_qk (pair_first (pair_first p8)) BB8⟩ HQF.out htr)
      clear CS B7 b8 p8
      go_wp2_with fail
      refine (CQ.out).mono ?_
      rintro e w9 ⟨Ab, nb, cb, rfl, p9, b9⟩
      have B9 := below_chain B8 b9
      have hb9 := B9.size
      have HW9 := Go.Lib.hid (below_chain AL.out B9)
      have HB9 := Go.Lib.hid B9
      have k9 := with_keeps k8 (roT_keeps Ab nb cb (qryF es q t))
      generalize hQ : With (With (With (With NoT (QkT w0 A6 n6 c6 q)) (BxT gq #[.slice A6 n6 c6] 25)) (RoT Aa na ca (strF es s t))) (RoT Ab nb cb (qryF es q t)) = Q0 at *
      have HQ0 := Go.Lib.hid hQ
      have HE := Go.Lib.hid hE
      have hE1 : es.length ≤ 200 := by omega
      clear CQ b9 B8 B9 k8 BB8 hQ hE y0 gx
      go_wp2_with fail
      go_loopw [16, 17] (fun iv _ wr => ∃ (j : Nat), iv = .int .i64 (j : Int) ∧ j ≤ n2 ∧ j ≤ 12 ∧ Pair w1.heap.size wr (Ix g (playN es m j)) (Q0) ∧ Below w1.heap.size w9 wr) (fun iv _ _ => n2 - (intOf iv).toNat)
      case atStart => exact ⟨0, rfl, Nat.zero_le _, by omega, p9, Below.refl _ _⟩
      case round =>
        obtain ⟨j2, rfl, hjn2, hjK2, pj, Bj⟩ := hrel
        clear p9
        go_upto_region 17 with (fail)
        go_cut [80] (fun v wx => v = .bool (decide (j2 < n2 ∧ j2 < 12)) ∧ wr = wx)
        case first =>
          by_cases h1 : j2 < n2
          · have i1 : (j2 : Int) < n2 := by omega
            by_cases h2 : j2 < 12
            · have i2 : (j2 : Int) < 12 := by omega
              go_wp2_with fail
              go_meet
              exact ⟨by simp [h1, h2], rfl⟩
            · have i2 : ¬ (j2 : Int) < 12 := by omega
              go_wp2_with fail
              go_meet
              exact ⟨by simp [h1, h2], rfl⟩
          · have i1 : ¬ (j2 : Int) < n2 := by omega
            go_wp2_with fail
            go_meet
            exact ⟨by simp [h1], rfl⟩
        obtain ⟨rfl, rfl⟩ := hcut
        have hbr : w1.heap.size ≤ wr.heap.size := Nat.le_trans hb9 Bj.size
        by_cases hc : j2 < n2 ∧ j2 < 12
        · rw [show decide (j2 < n2 ∧ j2 < 12) = true by simpa using hc]
          obtain ⟨h1, h2⟩ := hc
          obtain ⟨bi, oi, rfl, _, kk⟩ := RdBs.at_ r2 (by omega)
          obtain ⟨E, nE, cE, y0', y1', rE⟩ := kk j2 h1
          have BB := HW9.out.trans (Bj.mono hw1)
          have y0 := bcell BB y0'
          have y1 := bcell BB y1'
          have hxo := HOK2.out j2
          obtain ⟨hok1, hle1⟩ := HP2.out j2 (by omega)
          have HS := Go.Lib.hid (playN_step es (xs := m) (j := j2) (by rw [HN2.out]; exact h1))
          clear kk y0' y1'
          generalize m.getD j2 noBat = x at *
          generalize playN es m j2 = ej at *
          have i1 : (j2 : Int) < n2 := by omega
          have CF := Go.Lib.hid (few14_any (.agg #[.int .i64 x.a, .slice E nE cE]) x w0 wr ⟨E, nE, cE, rfl, rE⟩ BB)
          have HXO := Go.Lib.hid hxo
          have HO1 := Go.Lib.hid hok1
          have HL1 := Go.Lib.hid hle1
          have HBB := Go.Lib.hid BB
          clear rE hxo BB hok1 hle1
          go_wp2_with fail
          refine (CF.out).mono ?_
          rintro e w4 ⟨A4, n4, c4, rfl, o4, b4⟩
          have p4 := pair_more pj (one.keeps _) k9 hbr b4 (evK_of o4 (by omega))
          have k4 := with_keeps k9 (evK_keeps w0 A4 n4 c4 (few8 x.es))
          have B4 := Bj.trans (bel_up hbr b4)
          have hb4 := Nat.le_trans hbr b4.size
          obtain ⟨p5, b5⟩ := bx_new (one.keeps _) k4 hb4 p4 #[.int .i64 x.a, .slice A4 n4 c4] 33
          have x5 := BxAt.new w4 (.int .i64 x.a) (.slice A4 n4 c4)
          have B5 := B4.trans (bel_up hb4 b5)
          have BB5 := Go.Lib.hid (below_chain (below_chain HBB.out b4) b5)
          have hb5 := Nat.le_trans hb4 b5.size
          have hlen8 := few8_len x.es
          have XK := Go.Lib.hid (fewD_all HXO.out)
          clear pj Bj CF b4 p4 B4 o4 b5 y0 y1 HXO HBB hbr hb4
          generalize few8 x.es = xe at *
          go_upto_region 20 with (fail)
          generalize w4.alloc (.cells #[.int .i64 x.a, .slice A4 n4 c4] 33) = w5 at *
          generalize w4.heap.size = gc at *
          go_wp2_with fail
          refine (one.last p5 (with_keeps k4 (bxT_keeps _ _ _)) HO1.out).mono ?_
          rintro e w6 ⟨rfl, p6, b6⟩
          have x6 := x5.below b6
          have B6 := B5.trans (bel_up hb5 b6)
          have BB6 := Go.Lib.hid (below_chain BB5.out b6)
          have hb6 := Nat.le_trans hb5 b6.size
          have k0 := x6.c0
          have z0 := x6.frozen 0
          have x7 := x6.set0 (.int .i64 (ej.length : Nat))
          obtain ⟨p7, b7⟩ := lg_put (v := .int .i64 (ej.length : Nat)) (i := 0) (one.keeps _) k4 p6 x7
          have B7 := B6.trans b7
          have BB7 := Go.Lib.hid (BB6.out.trans (b7.mono hw1))
          have hb7 := Nat.le_trans hb6 b7.size
          have X7 := Go.Lib.hid x7
          clear p5 B5 x5 p6 b6 x6 B6 b7 x7 BB5 BB6 hb5 hb6
          go_upto_region 21 with (fail)
          generalize w6.setCell ⟨gc, 0, none⟩ (.int .i64 (ej.length : Nat)) = w7 at *
          have k0 := X7.out.c0
          have k1 := X7.out.c1
          have hle1 := HL1.out
          have CA := Go.Lib.hid (one.add (x := ⟨(ej.length : Nat), xe⟩) p7 (with_keeps k4 (bxT_keeps _ _ _)) hb7 HO1.out (by simp only; omega) (fun _ _ hq hb' => evk_isb hq (BB7.out.trans (hb'.mono hw1))) ⟨XK.out, by simp only; omega, by simp only; omega⟩)
          clear p7 z0 X7 BB7 hle1 k4
          go_wp2_with fail
          refine (CA.out).mono ?_
          rintro e w8 ⟨A8, n8, c8, rfl, p8, b8⟩
          have p9 := pair_first (pair_first (pair_first p8))
          have B9 := B7.trans b8
          have HS2 : Hid (playN es m (j2 + 1) = (addB ej ⟨(ej.length : Nat), xe⟩).2.2) := HS
          clear p8 B7 b8 CA HS
          generalize addB ej ⟨(ej.length : Nat), xe⟩ = R at *
          obtain ⟨re, rr, es2⟩ := R
          simp only at p9
          have P9 : Hid (Pair w1.heap.size w8 (Ix g (playN es m (j2 + 1))) (Q0)) := Go.Lib.hid (by rw [HS2.out]; exact p9)
          clear p9 HS2
          go_wp2_with fail
          go_roundw
          case rel => exact ⟨j2 + 1, by go_num, by omega, by omega, P9.out, B9⟩
          case measure => simp [intOf]; omega
        · rw [show decide (j2 < n2 ∧ j2 < 12) = false by simpa using hc]
          have e : playN es m j2 = playN es m 12 := by
            by_cases h8 : j2 = 12
            · rw [h8]
            · exact playN_all es m (by rw [HN2.out]; omega) (by rw [HN2.out]; omega)
          rw [e] at pj
          clear hc e
          obtain ⟨fs, hfs⟩ := playB_grows ((m.take 12).map fewB) es
          have hfs : playN es m 12 = es ++ fs := hfs
          have S1 := Go.Lib.hid (show strF (playN es m 12) s t = strF es s t by rw [hfs]; exact tell_stays _ es fs htl)
          have S2 := Go.Lib.hid (show qryF (playN es m 12) q t = qryF es q t by rw [hfs]; exact tell_stays _ es fs htl)
          have hge : es.length ≤ (playN es m 12).length := by rw [hfs, List.length_append]; omega
          generalize playN es m 12 = es2 at *
          have hQ := HQ0.out
          subst hQ
          have Bp := HB9.out.trans Bj
          have K9 := Go.Lib.hid k9
          clear HQ0 HW9 HB9 Bj hbr hfs HP2 k9
          have RQ : Hid (∀ w, Below w0.heap.size w0 w → Pair w1.heap.size w (Ix g es2) (With (With (With (With NoT (QkT w0 A6 n6 c6 q)) (BxT gq #[.slice A6 n6 c6] 25)) (RoT Aa na ca (strF es s t))) (RoT Ab nb cb (qryF es q t))) → RdQ w A6 n6 c6 q ∧ w.cell? ⟨gq, 0, none⟩ = some (.slice A6 n6 c6) ∧ RdRc w Aa na ca (strF es s t) ∧ RdRc w Ab nb cb (qryF es q t)) := Go.Lib.hid (fun w hB h => by
            refine ⟨pair_qk (pair_first (pair_first (pair_first h))) hB, ?_, pair_ro (pair_first h), pair_ro h⟩
            rw [cell_of_row w gq 0 _ _ _ (pair_bx (pair_first (pair_first h)))]
            rfl)
          have RK : Hid (∀ w, Below w1.heap.size w1 w → w.cell? ⟨w0.heap.size, 0, none⟩ = some (.string s)) := Go.Lib.hid (fun w hB => by
            have hx := (hB.block w0.heap.size (Array.getElem?_eq_some_iff.1 BX.out).1).trans BX.out
            rw [cell_of_row w w0.heap.size 0 _ _ _ hx]
            rfl)
          have y0 := RK.out _ Bp
          have CS := Go.Lib.hid (api.str (s := s) (u := t) pj K9.out Bp.size HLM.out hs htr)
          clear pj
          go_wp2_with fail
          refine (CS.out).mono ?_
          rintro e w10 ⟨Ac, nc, cc, rfl, p10, b10⟩
          rw [S1.out] at p10
          have B10 := below_chain Bp b10
          have CM := Go.Lib.hid (refSame14_any Aa Ac na nc ca cc (strF es s t) w10 (RQ.out _ (below_chain AL.out B10) (pair_first p10)).2.2.1 (pair_ro p10))
          have p10 := pair_first p10
          clear CS b10 Bp y0
          go_wp2_with fail
          refine (CM.out).mono ?_
          rintro e w11 ⟨rfl, b11⟩
          have p11 := p10.below (one.keeps _) K9.out b11
          have B11 := below_chain B10 b11
          obtain ⟨rq, gx, _, _⟩ := RQ.out _ (below_chain AL.out B11) p11
          have CQ := Go.Lib.hid (api.qry (q := q) (u := t) p11 K9.out B11.size HLM.out ⟨A6, n6, c6, rfl, rq⟩ HQF.out htr)
          clear CM p10 B10 b11 rq p11
          go_wp2_with fail
          refine (CQ.out).mono ?_
          rintro e w12 ⟨Ad, nd, cd, rfl, p12, b12⟩
          rw [S2.out] at p12
          have B12 := below_chain B11 b12
          have CM := Go.Lib.hid (refSame14_any Ab Ad nb nd cb cd (qryF es q t) w12 (RQ.out _ (below_chain AL.out B12) (pair_first p12)).2.2.2 (pair_ro p12))
          have p12 := pair_first p12
          clear CQ b12 B11 gx
          go_wp2_with fail
          refine (CM.out).mono ?_
          rintro e w13 ⟨rfl, b13⟩
          have p13 := p12.below (one.keeps _) K9.out b13
          have B13 := below_chain B12 b13
          have bd : Below w13.heap.size w13 w13.drew := ⟨rfl, rfl, rfl, Nat.le_refl _, fun _ _ => rfl⟩
          have pd := p13.below (one.keeps _) K9.out bd
          have Bd := below_chain B13 bd
          have y0 := RK.out _ Bd
          clear CM b13 p12 B12 p13 B13
          go_upto_region 24 with (fail)
          refine wp_region_held_drew (S := (fun w' => w'.cell? ⟨w0.heap.size, 0, none⟩ = some (.string s))) (by kernel_rfl) ?_ (fun hHeld => ?_)
          · exact y0
          refine take_at (i := 0) (d := 107) (v := ?_) rfl rfl (by kernel_rfl) (by kernel_rfl) (by kernel_rfl) (fun _ _ _ h => h) (Or.inl ⟨by rfl, ?hy⟩) (by assumption) ?_
          case hy => (intro wS hSw; (try dsimp only at hSw); first | (go_simp; done) | (go_simp; with_reducible rfl))
          simp only [Act.put, List.setIfInBounds_toArray, List.set_cons_zero, List.set_cons_succ]
          refine take_at (i := 1) (d := 108) (v := ?_) rfl rfl (by kernel_rfl) (by kernel_rfl) (by kernel_rfl) (fun _ _ _ h => h) (Or.inl ⟨by rfl, ?hy⟩) (by assumption) ?_
          case hy => (intro wS hSw; (try dsimp only at hSw); first | (go_simp; done) | (go_simp; with_reducible rfl))
          simp only [Act.put, List.setIfInBounds_toArray, List.set_cons_zero, List.set_cons_succ]
          refine take_at (i := 2) (d := 109) (v := ?_) rfl rfl (by kernel_rfl) (by kernel_rfl) (by kernel_rfl) (fun _ _ _ h => h) (Or.inl ⟨by rfl, ?hy⟩) (by assumption) ?_
          case hy => (intro wS hSw; (try dsimp only at hSw); first | (go_simp; done) | (go_simp; with_reducible rfl))
          simp only [Act.put, List.setIfInBounds_toArray, List.set_cons_zero, List.set_cons_succ]
          refine take_at (i := 3) (d := 110) (v := ?_) rfl rfl (by kernel_rfl) (by kernel_rfl) (by kernel_rfl) (fun _ _ _ h => h) (Or.inl ⟨by rfl, ?hy⟩) (by assumption) ?_
          case hy => (intro wS hSw; (try dsimp only at hSw); first | (go_simp; done) | (go_simp; with_reducible rfl))
          simp only [Act.put, List.setIfInBounds_toArray, List.set_cons_zero, List.set_cons_succ]
          refine wpAnyH_ready (rs := [4]) (by kernel_rfl) (by simp) ?_
          refine AllReadyH.cons rfl (fun K4 hK4 => ?_) AllReadyH.nil
          go_simp
          go_wp2_with (go_at_call 11; refine (api.last pd K9.out HLM.out).mono ?_; rintro e w14 ⟨rfl, p14, b14⟩; have B14 := below_chain Bd b14; have y14 := RK.out _ B14; have CS := Go.Lib.hid (api.str (s := s) (u := (es2.length : Nat)) p14 K9.out B14.size HLM.out hs (by omega)))
          refine hK4.out _ _ ?_ (fun hH4 => ?_)
          · exact y14
          clear hK4 K4 hHeld
          refine wpAnyH_ready (rs := [5]) (by kernel_rfl) (by simp) ?_
          refine AllReadyH.cons rfl (fun K5 hK5 => ?_) AllReadyH.nil
          go_simp
          go_wp2_with (go_at_call 14; refine (CS.out).mono ?_; rintro e w15 ⟨As, ns, cs, rfl, p15, b15⟩; have B15 := below_chain B14 b15; have y15 := RK.out _ B15)
          refine hK5.out _ _ ?_ (fun hH5 => ?_)
          · exact y15
          clear hK5 K5 hH4
          refine take_at (i := 6) (d := 20) (v := ?_) rfl rfl (by kernel_rfl) (by kernel_rfl) (by kernel_rfl) (fun _ _ _ h => h) (Or.inl ⟨by rfl, ?hy⟩) (by assumption) ?_
          case hy => (intro wS hSw; (try dsimp only at hSw); first | (go_simp; done) | (go_simp; with_reducible rfl))
          simp only [Act.put, List.setIfInBounds_toArray, List.set_cons_zero, List.set_cons_succ]
          refine wpAnyH_done (by kernel_rfl) ?_ _
          have SA := Go.Lib.hid (fun (j : Nat) (hj : j < (strF es2 s (es2.length : Nat)).length) => rows_at es2 s (es2.length : Nat) hj)
          have hlS := (pair_ro p15).len
          have HLS := Go.Lib.hid hlS
          clear y0 pd Bd bd p14 b14 B14 y14 CS b15 y15 hlS
          go_wp2_with fail
          go_loopw [21] (fun iv wr => ∃ (j : Nat), iv = .int .i64 (j : Int) ∧ j ≤ ns ∧ Pair w1.heap.size wr (Ix g es2) (With (With (With (With (With NoT (QkT w0 A6 n6 c6 q)) (BxT gq #[.slice A6 n6 c6] 25)) (RoT Aa na ca (strF es s t))) (RoT Ab nb cb (qryF es q t))) (RoT As ns cs (strF es2 s (es2.length : Nat)))) ∧ Below w1.heap.size w1 wr) (fun iv _ => ns - (intOf iv).toNat)
          case atStart => exact ⟨0, rfl, Nat.zero_le _, p15, B15⟩
          case round =>
            obtain ⟨j3, rfl, hj3, pj, Bj⟩ := hrel
            clear p15 B15
            by_cases hlt : j3 < ns
            · have i1 : (j3 : Int) < ns := by omega
              obtain ⟨bs, os, e1, _, ks⟩ := (pair_ro pj).at_ (by omega)
              obtain ⟨_, _, _, _, _, _, _, z1, z2, _⟩ := ks j3 hlt
              obtain ⟨v1, v2⟩ := SA.out j3 (by rw [HLS.out]; exact hlt)
              rw [v1] at z1
              rw [v2] at z2
              subst e1
              have y0 := RK.out _ Bj
              have hw : IntKind.i64.wrap ((j3 : Int) + 1) = (j3 : Int) + 1 := IntWalk.i64_in _ (by have := (HLM.out).1; have := tell_len (fun e => decide (e.s = s)) es2 (es2.length : Nat); have := HLS.out; unfold strF at this; omega)
              have i2 : ((j3 : Int) + 1 != (j3 : Int) + 1) = false := by simp
              have PJ := Go.Lib.hid pj
              have BJ := Go.Lib.hid Bj
              clear pj Bj ks v1 v2
              go_upto_region 28 with (fail)
              go_quiet (fail)
              go_wp2_with fail
              go_roundw
              case rel => exact ⟨j3 + 1, by go_num, by omega, PJ.out.below (one.keeps _) (with_keeps K9.out (roT_keeps _ _ _ _)) ⟨rfl, rfl, rfl, Nat.le_refl _, fun _ _ => rfl⟩, below_chain BJ.out ⟨rfl, rfl, rfl, Nat.le_refl _, fun _ _ => rfl⟩⟩
              case measure => simp [intOf]; omega
            · have i1 : ¬ (j3 : Int) < ns := by omega
              have p16 := pair_first pj
              have bd : Below wr.heap.size wr wr.drew := ⟨rfl, rfl, rfl, Nat.le_refl _, fun _ _ => rfl⟩
              have pd := p16.below (one.keeps _) K9.out bd
              have Bd := below_chain Bj bd
              have gx := (RQ.out _ (below_chain AL.out Bd) pd).2.1
              have htm := (HLM.out).1
              clear pj Bj p16 SA HLS
              go_upto_region 30 with (fail)
              refine wp_region_held_drew (S := (fun w' => w'.cell? ⟨gq, 0, none⟩ = some (.slice A6 n6 c6))) (by kernel_rfl) ?_ (fun hHeld => ?_)
              · exact gx
              refine take_at (i := 0) (d := 138) (v := ?_) rfl rfl (by kernel_rfl) (by kernel_rfl) (by kernel_rfl) (fun _ _ _ h => h) (Or.inl ⟨by rfl, ?hy⟩) (by assumption) ?_
              case hy => (intro wS hSw; (try dsimp only at hSw); first | (go_simp; done) | (go_simp; with_reducible rfl))
              simp only [Act.put, List.setIfInBounds_toArray, List.set_cons_zero, List.set_cons_succ]
              refine take_at (i := 1) (d := 139) (v := ?_) rfl rfl (by kernel_rfl) (by kernel_rfl) (by kernel_rfl) (fun _ _ _ h => h) (Or.inl ⟨by rfl, ?hy⟩) (by assumption) ?_
              case hy => (intro wS hSw; (try dsimp only at hSw); first | (go_simp; done) | (go_simp; with_reducible rfl))
              simp only [Act.put, List.setIfInBounds_toArray, List.set_cons_zero, List.set_cons_succ]
              refine take_at (i := 2) (d := 140) (v := ?_) rfl rfl (by kernel_rfl) (by kernel_rfl) (by kernel_rfl) (fun _ _ _ h => h) (Or.inl ⟨by rfl, ?hy⟩) (by assumption) ?_
              case hy => (intro wS hSw; (try dsimp only at hSw); first | (go_simp; done) | (go_simp; with_reducible rfl))
              simp only [Act.put, List.setIfInBounds_toArray, List.set_cons_zero, List.set_cons_succ]
              refine take_at (i := 6) (d := 144) (v := ?_) rfl rfl (by kernel_rfl) (by kernel_rfl) (by kernel_rfl) (fun _ _ _ h => h) (Or.inl ⟨by rfl, ?hy⟩) (by assumption) ?_
              case hy => (intro wS hSw; (try dsimp only at hSw); first | (go_simp; done) | (go_simp; with_reducible rfl))
              simp only [Act.put, List.setIfInBounds_toArray, List.set_cons_zero, List.set_cons_succ]
              refine take_at (i := 7) (d := 145) (v := ?_) rfl rfl (by kernel_rfl) (by kernel_rfl) (by kernel_rfl) (fun _ _ _ h => h) (Or.inl ⟨by rfl, ?hy⟩) (by assumption) ?_
              case hy => (intro wS hSw; (try dsimp only at hSw); first | (go_simp; done) | (go_simp; with_reducible rfl))
              simp only [Act.put, List.setIfInBounds_toArray, List.set_cons_zero, List.set_cons_succ]
              refine wpAnyH_ready (rs := [3]) (by kernel_rfl) (by simp) ?_
              refine AllReadyH.cons rfl (fun K3 hK3 => ?_) AllReadyH.nil
              go_simp
              go_wp2_with (go_at_call 11; refine (api.last pd K9.out HLM.out).mono ?_; rintro e w16 ⟨rfl, p16, b16⟩; have B16 := below_chain Bd b16; have RR := RQ.out _ (below_chain AL.out B16) p16; have gx16 := RR.2.1; have CQ := Go.Lib.hid (api.qry (q := q) (u := (es2.length : Nat)) p16 K9.out B16.size HLM.out ⟨A6, n6, c6, rfl, RR.1⟩ HQF.out (by omega)))
              refine hK3.out _ _ ?_ (fun hH3 => ?_)
              · exact gx16
              clear hK3 K3 hHeld
              refine wpAnyH_ready (rs := [4]) (by kernel_rfl) (by simp) ?_
              refine AllReadyH.cons rfl (fun K4 hK4 => ?_) AllReadyH.nil
              go_simp
              go_wp2_with (go_at_call 15; refine (CQ.out).mono ?_; rintro e w17 ⟨Ax, nx, cx, rfl, p17, b17⟩; have B17 := below_chain B16 b17; have gx17 := bcell b17 gx16)
              refine hK4.out _ _ ?_ (fun hH4 => ?_)
              · exact gx17
              clear hK4 K4 hH3
              refine take_at (i := 5) (d := 143) (v := ?_) rfl rfl (by kernel_rfl) (by kernel_rfl) (by kernel_rfl) (fun _ _ _ h => h) (Or.inl ⟨by rfl, ?hy⟩) (by assumption) ?_
              case hy => (intro wS hSw; (try dsimp only at hSw); first | (go_simp; done) | (go_simp; with_reducible rfl))
              simp only [Act.put, List.setIfInBounds_toArray, List.set_cons_zero, List.set_cons_succ]
              refine take_at (i := 8) (d := 146) (v := ?_) rfl rfl (by kernel_rfl) (by kernel_rfl) (by kernel_rfl) (fun _ _ _ h => h) (Or.inl ⟨by rfl, ?hy⟩) (by assumption) ?_
              case hy => (intro wS hSw; (try dsimp only at hSw); first | (go_simp; done) | (go_simp; with_reducible rfl))
              simp only [Act.put, List.setIfInBounds_toArray, List.set_cons_zero, List.set_cons_succ]
              refine take_at (i := 9) (d := 22) (v := ?_) rfl rfl (by kernel_rfl) (by kernel_rfl) (by kernel_rfl) (fun _ _ _ h => h) (Or.inl ⟨by rfl, ?hy⟩) (by assumption) ?_
              case hy => (intro wS hSw; (try dsimp only at hSw); first | (go_simp; done) | (go_simp; with_reducible rfl))
              simp only [Act.put, List.setIfInBounds_toArray, List.set_cons_zero, List.set_cons_succ]
              refine wpAnyH_done (by kernel_rfl) ?_ _
              have hnx := (pair_ro p17).len
              have HNX := Go.Lib.hid hnx
              have p18 := pair_first p17
              have bd2 : Below w17.heap.size w17 w17.drew := ⟨rfl, rfl, rfl, Nat.le_refl _, fun _ _ => rfl⟩
              have pd2 := p18.below (one.keeps _) K9.out bd2
              have Bd2 := below_chain B17 bd2
              have gy := (RQ.out _ (below_chain AL.out Bd2) pd2).2.1
              clear gx pd Bd bd p16 b16 B16 RR gx16 CQ p17 b17 B17 gx17 p18 hnx
              go_upto_region 31 with (fail)
              refine wp_region_held_drew (S := (fun w' => w'.cell? ⟨gq, 0, none⟩ = some (.slice A6 n6 c6))) (by kernel_rfl) ?_ (fun hHeld => ?_)
              · exact gy
              refine take_at (i := 0) (d := 147) (v := ?_) rfl rfl (by kernel_rfl) (by kernel_rfl) (by kernel_rfl) (fun _ _ _ h => h) (Or.inl ⟨by rfl, ?hy⟩) (by assumption) ?_
              case hy => (intro wS hSw; (try dsimp only at hSw); first | (go_simp; done) | (go_simp; with_reducible rfl))
              simp only [Act.put, List.setIfInBounds_toArray, List.set_cons_zero, List.set_cons_succ]
              refine take_at (i := 1) (d := 148) (v := ?_) rfl rfl (by kernel_rfl) (by kernel_rfl) (by kernel_rfl) (fun _ _ _ h => h) (Or.inl ⟨by rfl, ?hy⟩) (by assumption) ?_
              case hy => (intro wS hSw; (try dsimp only at hSw); first | (go_simp; done) | (go_simp; with_reducible rfl))
              simp only [Act.put, List.setIfInBounds_toArray, List.set_cons_zero, List.set_cons_succ]
              refine take_at (i := 2) (d := 149) (v := ?_) rfl rfl (by kernel_rfl) (by kernel_rfl) (by kernel_rfl) (fun _ _ _ h => h) (Or.inl ⟨by rfl, ?hy⟩) (by assumption) ?_
              case hy => (intro wS hSw; (try dsimp only at hSw); first | (go_simp; done) | (go_simp; with_reducible rfl))
              simp only [Act.put, List.setIfInBounds_toArray, List.set_cons_zero, List.set_cons_succ]
              refine wpAnyH_ready (rs := [3]) (by kernel_rfl) (by simp) ?_
              refine AllReadyH.cons rfl (fun K3 hK3 => ?_) AllReadyH.nil
              go_simp
              go_wp2_with (go_at_call 11; refine (api.last pd2 K9.out HLM.out).mono ?_; rintro e w18 ⟨rfl, p18, b18⟩; have B18 := below_chain Bd2 b18; have RR := RQ.out _ (below_chain AL.out B18) p18; have gx18 := RR.2.1; have CQ := Go.Lib.hid (api.qry (q := q) (u := (es2.length : Nat)) p18 K9.out B18.size HLM.out ⟨A6, n6, c6, rfl, RR.1⟩ HQF.out (by omega)))
              refine hK3.out _ _ ?_ (fun hH3 => ?_)
              · exact gx18
              clear hK3 K3 hHeld
              refine wpAnyH_ready (rs := [4]) (by kernel_rfl) (by simp) ?_
              refine AllReadyH.cons rfl (fun K4 hK4 => ?_) AllReadyH.nil
              go_simp
              go_wp2_with (go_at_call 15; refine (CQ.out).mono ?_; rintro e w19 ⟨Ap, np, cp, rfl, p19, b19⟩; have B19 := below_chain B18 b19; have gx19 := bcell b19 gx18)
              refine hK4.out _ _ ?_ (fun hH4 => ?_)
              · exact gx19
              clear hK4 K4 hH3
              refine take_at (i := 5) (d := 23) (v := ?_) rfl rfl (by kernel_rfl) (by kernel_rfl) (by kernel_rfl) (fun _ _ _ h => h) (Or.inl ⟨by rfl, ?hy⟩) (by assumption) ?_
              case hy => (intro wS hSw; (try dsimp only at hSw); first | (go_simp; done) | (go_simp; with_reducible rfl))
              simp only [Act.put, List.setIfInBounds_toArray, List.set_cons_zero, List.set_cons_succ]
              refine wpAnyH_done (by kernel_rfl) ?_ _
              have hnp := (pair_ro p19).len
              have HNP := Go.Lib.hid hnp
              clear gy pd2 Bd2 bd2 p18 b18 B18 RR gx18 CQ b19 gx19 hnp
              have hnb := (RQ.out _ (below_chain AL.out B19) (pair_first p19)).2.2.2.len
              have HNB := Go.Lib.hid hnb
              have QA := Go.Lib.hid (fun (j : Nat) (hj : j < (qryF es2 q (es2.length : Nat)).length) => qry_at es2 q (es2.length : Nat) hj)
              have QU := Go.Lib.hid (fun (j : Nat) (hj : j < (qryF es2 q (es2.length : Nat)).length) (h0 : 0 < j) => qry_up es2 q (es2.length : Nat) hj h0)
              have hnp4 : np ≤ 400 := by
                have := tell_len (matchQ q) es2 (es2.length : Nat)
                have h2 := HNP.out
                unfold qryF at h2
                omega
              clear hnb
              go_wp2_with fail
              go_loopw [24, 25] (fun iv _ wr => ∃ (j : Nat), iv = .int .i64 (j : Int) ∧ j ≤ np ∧ Pair w1.heap.size wr (Ix g es2) (With (With (With (With (With NoT (QkT w0 A6 n6 c6 q)) (BxT gq #[.slice A6 n6 c6] 25)) (RoT Aa na ca (strF es s t))) (RoT Ab nb cb (qryF es q t))) (RoT Ap np cp (qryF es2 q (es2.length : Nat)))) ∧ Below w1.heap.size w1 wr) (fun iv _ _ => np - (intOf iv).toNat)
              case atStart => exact ⟨0, rfl, Nat.zero_le _, p19, B19⟩
              case round =>
                obtain ⟨j4, rfl, hj4, pj, Bj⟩ := hrel
                clear p19 B19
                have kq4 := with_keeps K9.out (roT_keeps Ap np cp (qryF es2 q (es2.length : Nat)))
                by_cases hlt : j4 < np
                · have i1 : (j4 : Int) < np := by omega
                  have bd : Below wr.heap.size wr wr.drew := ⟨rfl, rfl, rfl, Nat.le_refl _, fun _ _ => rfl⟩
                  have pd := pj.below (one.keeps _) kq4 bd
                  have Bd := below_chain Bj bd
                  have RR := RQ.out _ (below_chain AL.out Bd) (pair_first pd)
                  have gx := RR.2.1
                  obtain ⟨bp, op, e1, _, ks⟩ := (pair_ro pd).at_ (by omega)
                  have kj := ks j4 hlt
                  have hM := QA.out j4 (by rw [HNP.out]; exact hlt)
                  subst e1
                  have PD := Go.Lib.hid pd
                  have BD := Go.Lib.hid Bd
                  have KS := Go.Lib.hid ks
                  have HUP := Go.Lib.hid (QU.out j4 (by rw [HNP.out]; exact hlt))
                  obtain ⟨X, hX⟩ : ∃ X, (qryF es2 q (es2.length : Nat)).getD j4 noRc = X := ⟨_, rfl⟩
                  rw [hX] at kj hM
                  have HX := Go.Lib.hid hX
                  obtain ⟨xp, xv, ⟨xs, xt, xg, xf⟩⟩ := X
                  obtain ⟨T, nT, cT, F, nF, cF, z0, z1, z2, z3, z4, z5, rT, rF⟩ := kj
                  simp only at z0 z1 z2 z3 z4 z5 rT rF hM
                  have CM := Go.Lib.hid (refMatch_any (.agg #[.slice A6 n6 c6]) (.agg #[.string xs, .string xt, .slice T nT cT, .slice F nF cF]) q ⟨xs, xt, xg, xf⟩ wr.drew ⟨A6, n6, c6, rfl, RR.1⟩ ⟨T, nT, cT, F, nF, cF, rfl, rT, rF⟩)
                  rw [hM] at CM
                  clear pj Bj RR rT rF z1 pd Bd ks hM hX bd kq4
                  go_upto_region 35 with (fail)
                  refine wp_region_held_drew (S := (fun w' => w'.cell? ⟨gq, 0, none⟩ = some (.slice A6 n6 c6) ∧ w'.cell? ⟨bp, op + j4 * 6 + 2, none⟩ = some (.string xs) ∧ w'.cell? ⟨bp, op + j4 * 6 + 3, none⟩ = some (.string xt) ∧ w'.cell? ⟨bp, op + j4 * 6 + 4, none⟩ = some (.slice T nT cT) ∧ w'.cell? ⟨bp, op + j4 * 6 + 5, none⟩ = some (.slice F nF cF))) (by kernel_rfl) ?_ (fun hHeld => ?_)
                  · exact ⟨gx, z2, z3, z4, z5⟩
                  refine take_at (i := 0) (d := 158) (v := ?_) rfl rfl (by kernel_rfl) (by kernel_rfl) (by kernel_rfl) (fun _ _ _ h => h) (Or.inl ⟨by rfl, ?hy⟩) (by assumption) ?_
                  case hy => (intro wS hSw; (try dsimp only at hSw); first | (go_simp; done) | (go_simp; with_reducible rfl))
                  simp only [Act.put, List.setIfInBounds_toArray, List.set_cons_zero, List.set_cons_succ]
                  refine take_at (i := 1) (d := 159) (v := ?_) rfl rfl (by kernel_rfl) (by kernel_rfl) (by kernel_rfl) (fun _ _ _ h => h) (Or.inl ⟨by rfl, ?hy⟩) (by assumption) ?_
                  case hy => (intro wS hSw; (try dsimp only at hSw); first | (go_simp; done) | (go_simp; with_reducible rfl))
                  simp only [Act.put, List.setIfInBounds_toArray, List.set_cons_zero, List.set_cons_succ]
                  refine take_at (i := 2) (d := 160) (v := ?_) rfl rfl (by kernel_rfl) (by kernel_rfl) (by kernel_rfl) (fun _ _ _ h => h) (Or.inl ⟨by rfl, ?hy⟩) (by assumption) ?_
                  case hy => (intro wS hSw; (try dsimp only at hSw); first | (go_simp; done) | (go_simp; with_reducible rfl))
                  simp only [Act.put, List.setIfInBounds_toArray, List.set_cons_zero, List.set_cons_succ]
                  refine take_at (i := 3) (d := 161) (v := ?_) rfl rfl (by kernel_rfl) (by kernel_rfl) (by kernel_rfl) (fun _ _ _ h => h) (Or.inl ⟨by rfl, ?hy⟩) (by assumption) ?_
                  case hy => (intro wS hSw; (try dsimp only at hSw); first | (go_simp; done) | (go_simp; with_reducible rfl))
                  simp only [Act.put, List.setIfInBounds_toArray, List.set_cons_zero, List.set_cons_succ]
                  refine take_at (i := 4) (d := 162) (v := ?_) rfl rfl (by kernel_rfl) (by kernel_rfl) (by kernel_rfl) (fun _ _ _ h => h) (Or.inl ⟨by rfl, ?hy⟩) (by assumption) ?_
                  case hy => (intro wS hSw; (try dsimp only at hSw); first | (go_simp; done) | (go_simp; with_reducible rfl))
                  simp only [Act.put, List.setIfInBounds_toArray, List.set_cons_zero, List.set_cons_succ]
                  refine take_at (i := 5) (d := 163) (v := ?_) rfl rfl (by kernel_rfl) (by kernel_rfl) (by kernel_rfl) (fun _ _ _ h => h) (Or.inl ⟨by rfl, ?hy⟩) (by assumption) ?_
                  case hy => (intro wS hSw; (try dsimp only at hSw); first | (go_simp; done) | (go_simp; with_reducible rfl))
                  simp only [Act.put, List.setIfInBounds_toArray, List.set_cons_zero, List.set_cons_succ]
                  refine wpAnyH_ready (rs := [6]) (by kernel_rfl) (by simp) ?_
                  refine AllReadyH.cons rfl (fun K6 hK6 => ?_) AllReadyH.nil
                  go_simp
                  go_wp2_with (go_at_call 17; refine (CM.out).mono ?_; rintro e w20 ⟨rfl, b20⟩)
                  refine hK6.out _ _ ?_ (fun hH6 => ?_)
                  · exact ⟨bcell b20 gx, bcell b20 z2, bcell b20 z3, bcell b20 z4, bcell b20 z5⟩
                  clear hK6 K6 hHeld
                  refine take_at (i := 7) (d := 25) (v := ?_) rfl rfl (by kernel_rfl) (by kernel_rfl) (by kernel_rfl) (fun _ _ _ h => h) (Or.inl ⟨by rfl, ?hy⟩) (by assumption) ?_
                  case hy => (intro wS hSw; (try dsimp only at hSw); first | (go_simp; done) | (go_simp; with_reducible rfl))
                  simp only [Act.put, List.setIfInBounds_toArray, List.set_cons_zero, List.set_cons_succ]
                  refine wpAnyH_done (by kernel_rfl) ?_ _
                  have u0 := bcell b20 z0
                  have kq4 := with_keeps K9.out (roT_keeps (some ⟨bp, op, none⟩) np cp (qryF es2 q (es2.length : Nat)))
                  have P20 := Go.Lib.hid (PD.out.below (one.keeps _) kq4 b20)
                  have B20 := Go.Lib.hid (below_chain BD.out b20)
                  by_cases h0 : 0 < j4
                  · have i2 : (0 : Int) < j4 := by omega
                    have hw : IntKind.i64.wrap ((j4 : Int) - 1) = ((j4 - 1 : Nat) : Int) := by rw [IntWalk.i64_in _ (by omega)]; omega
                    have j1' : ((j4 - 1 : Nat) : Int) < np := by omega
                    obtain ⟨_, _, _, _, _, _, y0', _⟩ := KS.out (j4 - 1) (by omega)
                    have y0 := bcell b20 y0'
                    have hup := HUP.out h0
                    rw [HX.out] at hup
                    simp only at hup
                    generalize ((qryF es2 q (es2.length : Nat)).getD (j4 - 1) noRc).pos = yp at *
                    generalize j4 - 1 = u4 at *
                    have i3 : ¬ (xp ≤ yp) := by omega
                    have hd1 : decide ((j4 : Int) > 0) = true := decide_eq_true i2
                    have hd2 : decide (0 < j4) = true := decide_eq_true h0
                    clear y0' gx z0 z2 z3 z4 z5 CM PD BD KS HX HUP b20 kq4 h0
                    go_upto_region 36 with (fail)
                    go_quiet (fail)
                    go_wp2_with fail
                    go_roundw
                    case rel => exact ⟨j4 + 1, by go_num, by omega, P20.out.below (one.keeps _) (with_keeps K9.out (roT_keeps _ _ _ _)) ⟨rfl, rfl, rfl, Nat.le_refl _, fun _ _ => rfl⟩, below_chain B20.out ⟨rfl, rfl, rfl, Nat.le_refl _, fun _ _ => rfl⟩⟩
                    case measure => simp [intOf]; omega
                  · have i2 : ¬ (0 : Int) < j4 := by omega
                    have hd1 : decide ((j4 : Int) > 0) = false := decide_eq_false i2
                    have hd2 : decide (0 < j4) = false := decide_eq_false h0
                    clear gx z0 z2 z3 z4 z5 CM PD BD KS HX HUP b20 kq4 h0
                    go_upto_region 36 with (fail)
                    go_quiet (fail)
                    go_wp2_with fail
                    go_roundw
                    case rel => exact ⟨j4 + 1, by go_num, by omega, P20.out.below (one.keeps _) (with_keeps K9.out (roT_keeps _ _ _ _)) ⟨rfl, rfl, rfl, Nat.le_refl _, fun _ _ => rfl⟩, below_chain B20.out ⟨rfl, rfl, rfl, Nat.le_refl _, fun _ _ => rfl⟩⟩
                    case measure => simp [intOf]; omega
                · have i1 : ¬ (j4 : Int) < np := by omega
                  have p20 := pair_first pj
                  have RR := RQ.out _ (below_chain AL.out Bj) p20
                  have gx := RR.2.1
                  have hsm := since_more es2 q (a := t) (v := (es2.length : Nat)) (Int.le_refl _) (by omega)
                  rw [S2.out, HNB.out, HNX.out] at hsm
                  have CE := Go.Lib.hid (api.since (q := q) (a := t) p20 K9.out HLM.out ⟨A6, n6, c6, rfl, RR.1⟩ HQF.out htr)
                  have HSM := Go.Lib.hid hsm
                  have BJ := Go.Lib.hid (below_chain AL.out Bj)
                  clear pj kq4 RR p20 hsm QA QU HNP Bj
                  by_cases ht0 : t < 0
                  · go_wp2_with fail
                    go_ret
                    exact ⟨by simp, BJ.out⟩
                  · go_wp2_with fail
                    refine (CE.out).mono ?_
                    rintro e w21 ⟨rfl, _, b21⟩
                    rw [HSM.out]
                    have B21 := below_chain BJ.out b21
                    go_wp2_with fail
                    go_ret
                    exact ⟨by simp, B21⟩
end

end Go.Proofs.Ytiplfhmimpkplaa.IxWalk

/-
  Layer 14's statements: the streams' names as a thing; the versions' sum.
-/
namespace Go.Proofs.Ytiplfhmimpkplaa.IxWalk
open Go.RowKit Go.WideShapes Go.ChangeShapes Go.Proofs.Ytiplfhmimpkplaa.MemRow Go.Proofs.Ytiplfhmimpkplaa.Ev Go.Proofs.Ytiplfhmimpkplaa.Open Go.Proofs.Ytiplfhmimpkplaa.NameMath Go.Proofs.Ytiplfhmimpkplaa.NameWalk Go.Proofs.Ytiplfhmimpkplaa.EvWalk Go.Proofs.Ytiplfhmimpkplaa.NumMem Go.Proofs.Ytiplfhmimpkplaa.Qu Go.Proofs.Ytiplfhmimpkplaa.QuWalk Go.Proofs.Ytiplfhmimpkplaa.SmWalk Go.Proofs.Ytiplfhmimpkplaa.BtWalk Go.Proofs.Ytiplfhmimpkplaa.DkWalk

theorem rdc_keep {k : Nat} {w w' : World} {A : Option Addr} {n cap : Nat} {cs : List Value} (h : RdC k w A n cap cs) (hk : ∀ a, A = some a → w'.heap[a.block]? = w.heap[a.block]?) : RdC k w' A n cap cs :=
  h.keep fun b o hA i v hc => by
    have e := hk _ hA
    exact (World.cell?_of_block (w := w) (a := ⟨b, o + i, none⟩) e).trans hc
/-- A row of texts. -/
def SsT (A : Option Addr) (n c : Nat) (ss : List ByteArray) : Thing := fun w G => RdS w A n c ss ∧ (∀ a, A = some a → G a.block) ∧ ∀ k, G k → k < w.heap.size
theorem ssT_keeps (A : Option Addr) (n c : Nat) (ss : List ByteArray) : Keeps (SsT A n c ss) :=
  ⟨fun ⟨h, i, hl⟩ hs hk => ⟨rdc_keep h fun a ha => hk _ (i a ha), i, fun k h => Nat.lt_of_lt_of_le (hl k h) hs⟩, fun h => h.2.2⟩
theorem pair_ss {base : Nat} {w : World} {P : Thing} {A : Option Addr} {n c : Nat} {ss : List ByteArray} (h : Pair base w P (SsT A n c ss)) : RdS w A n c ss := by
  obtain ⟨_, _, _, hr, _⟩ := h
  exact hr.1
theorem ss_new {base : Nat} {w : World} {P Q : Thing} (h : Pair base w P Q) (kp : Keeps P) (kq : Keeps Q) (hb : base ≤ w.heap.size) : Pair base (w.alloc (.cells #[] 9)) P (SsT (some ⟨w.heap.size, 0, none⟩) 0 0 []) ∧ Below w.heap.size w (w.alloc (.cells #[] 9)) := by
  have b : Below w.heap.size w (w.alloc (.cells #[] 9)) := (Below.refl _ w).alloc (Nat.le_refl _) _
  refine ⟨pair_second (pair_more (R := SsT (some ⟨w.heap.size, 0, none⟩) 0 0 []) h kp kq hb b ⟨RdC.empty _ _ (Nat.zero_le _), fun a ha => ?_, fun k hk => hk.2⟩), b⟩
  injection ha with ha
  subst ha
  exact ⟨Nat.le_refl _, by simp⟩
theorem ss_put {base : Nat} {w w' : World} {P : Thing} {A A' : Option Addr} {n c n' c' : Nat} {ss : List ByteArray} {s : ByteArray} (h : Pair base w P (SsT A n c ss)) (kp : Keeps P) (hb : base ≤ w.heap.size) (r : RdS w' A' n' c' (putL ss s)) (b : Below w.heap.size w w') (hA : A' = A ∨ ∀ a, A' = some a → w.heap.size ≤ a.block) : Pair base w' P (SsT A' n' c' (putL ss s)) := by
  rcases hA with rfl | hA
  · obtain ⟨F, G, h1, ⟨_, h3, h4⟩, h5, h6, h7⟩ := h.below kp (ssT_keeps _ _ _ _) b
    exact ⟨F, G, h1, ⟨r, h3, h4⟩, h5, h6, h7⟩
  · have hn : 0 < n' := by rw [← r.len]; exact List.length_pos_of_mem ((putL_mem ss s s).2 (.inl rfl))
    refine pair_second (pair_more (R := SsT A' n' c' (putL ss s)) h kp (ssT_keeps _ _ _ _) hb b ⟨r, fun a ha => ⟨hA a ha, ?_⟩, fun k hk => hk.2⟩)
    obtain ⟨bb, oo, e, hlt, _⟩ := RdS.at_ r hn
    rw [ha] at e
    injection e with e
    rw [e]
    exact hlt

/-! ### Names of a log that grows -/
def namesF (es fs : List Ev) (k : Nat) : List ByteArray := normTags (strs es ++ strs (fs.take k))
theorem names_zero (es fs : List Ev) : namesF es fs 0 = normTags (strs es) := by simp [namesF, strs]
theorem names_succ (es : List Ev) {fs : List Ev} {k : Nat} (h : k < fs.length) : putL (namesF es fs k) (fs.getD k noEv).s = namesF es fs (k + 1) := by
  unfold namesF
  rw [evsTake fs k h]
  show _ = normTags (strs es ++ (fs.take k ++ [fs.getD k noEv]).map (·.s))
  rw [List.map_append, ← List.append_assoc]
  exact (normTags_snoc _ _).symm
theorem names_all (es : List Ev) {fs : List Ev} {k : Nat} (h : fs.length ≤ k) : namesF es fs k = normTags (strs (es ++ fs)) := by
  unfold namesF
  rw [List.take_of_length_le h]
  simp [strs]
theorem names_len (es fs : List Ev) (k : Nat) : (namesF es fs k).length ≤ es.length + k := by
  have := normTags_len (strs es ++ strs (fs.take k))
  have h2 : (fs.take k).length ≤ k := by rw [List.length_take]; omega
  simp only [strs, List.length_append, List.length_map] at this
  unfold namesF
  simp only [strs]
  omega
theorem newR_get (es fs : List Ev) {k : Nat} (h : k < fs.length) : ((newR es fs).getD k noRc).e.s = (fs.getD k noEv).s := by
  rw [List.getD_eq_getElem?_getD, newR_at es fs k h]
  rfl

/-! ### The versions' sum -/
def versF (es : List Ev) (ns : List ByteArray) (k : Nat) : Nat := ((ns.take k).map fun n => (strF es n (es.length : Nat)).length).sum
theorem vers_zero (es : List Ev) (ns : List ByteArray) : versF es ns 0 = 0 := rfl
theorem vers_succ (es : List Ev) {ns : List ByteArray} {k : Nat} (h : k < ns.length) : versF es ns (k + 1) = versF es ns k + (strF es (ns.getD k ByteArray.empty) (es.length : Nat)).length := by
  unfold versF
  rw [List.take_add_one, List.getElem?_eq_getElem h, List.map_append, List.sum_append]
  simp [List.getD, List.getElem?_eq_getElem h]
theorem vers_le (es : List Ev) (ns : List ByteArray) (k : Nat) : versF es ns k ≤ versF es ns ns.length := by
  unfold versF
  rw [List.take_of_length_le (Nat.le_refl ns.length)]
  conv => rhs; rw [← List.take_append_drop k ns]
  rw [List.map_append, List.sum_append]
  exact Nat.le_add_right _ _
theorem vers_all (es : List Ev) : versF es (normTags (strs es)) (normTags (strs es)).length = es.length := by
  unfold versF
  rw [List.take_of_length_le (Nat.le_refl _)]
  exact str_sum es (up_nodup (normTags_up _)) (fun x hx => (normTags_mem _ x).2 hx) (Int.le_refl _)
theorem name_size {es : List Ev} (h : LogOk es) (j : Nat) : ((normTags (strs es)).getD j ByteArray.empty).size ≤ maxLen := by
  by_cases hj : j < (normTags (strs es)).length
  · have hm : (normTags (strs es)).getD j ByteArray.empty ∈ normTags (strs es) := by
      rw [List.getD_eq_getElem?_getD, List.getElem?_eq_getElem hj]
      exact List.getElem_mem hj
    rw [normTags_mem] at hm
    obtain ⟨e, he, h1⟩ := List.mem_map.1 hm
    rw [← h1]
    have h2 := ((mayE_zero e).1 (h.2 e he)).1
    unfold nameB may at h2
    rw [Bool.and_eq_true, decide_eq_true_eq] at h2
    have h3 : e.s.size ≤ 24 := h2.1.2
    unfold maxLen
    omega
  · rw [List.getD_eq_getElem?_getD, List.getElem?_eq_none (by omega)]
    exact Nat.zero_le _
/-- A query of one empty clause, as the law makes it. -/
theorem one_clause {w : World} {b : Nat} (h : w.heap[b]? = some (.cells #[.slice none 0 0, .slice none 0 0] 57 (0, 0))) : RdQ w (some ⟨b, 0, none⟩) 1 1 [⟨[], []⟩] := by
  refine ⟨rfl, Nat.le_refl _, by decide, fun _ => ⟨b, 0, rfl, (Array.getElem?_eq_some_iff.1 h).1, fun i hi => ?_⟩⟩
  obtain rfl : i = 0 := by omega
  refine ⟨none, 0, 0, none, 0, 0, ?_, ?_, RdC.nil _, RdC.nil _⟩
  · rw [cell_of_row w b 0 _ _ _ h]; rfl
  · rw [cell_of_row w b 1 _ _ _ h]; rfl
theorem one_few : QFew [⟨[], []⟩] := by
  refine ⟨fun c hc => ?_, by decide, fun c hc => ?_⟩
  · obtain rfl := List.mem_singleton.1 hc
    exact ⟨fun _ h => (by cases h), fun _ h => (by cases h)⟩
  · obtain rfl := List.mem_singleton.1 hc
    exact ⟨by decide, by decide⟩
theorem none_few : QFew [] := ⟨fun _ h => (by cases h), by decide, fun _ h => (by cases h)⟩

end Go.Proofs.Ytiplfhmimpkplaa.IxWalk

