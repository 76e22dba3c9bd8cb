/-
  Contract of the document's answer of layer 6: Norm.
-/
import Derived.Test.YtfbooapgjhhjmaaQuRows
import Derived.Deep.RegionWith
import Derived.Deep.DeepCutAuto
namespace Go.Proofs.Ytfbooapgjhhjmaa.QuWalk
open Go.RowKit Go.Proofs.Ytfbooapgjhhjmaa.MemRow Go.Proofs.Ytfbooapgjhhjmaa.Ev Go.Proofs.Ytfbooapgjhhjmaa.NameMath Go.Proofs.Ytfbooapgjhhjmaa.NameWalk Go.Proofs.Ytfbooapgjhhjmaa.EvWalk Go.Proofs.Ytfbooapgjhhjmaa.Qu

def normC (c : Cl) : Cl := ⟨normTags c.tags, normTags c.types⟩
def normQ (q : List Cl) : List Cl := q.map normC

/-- The cells cs are the clauses q; their own rows lie from 'base' on, and not in block B. -/
def ClsD (w : World) (base : Nat) (B : Option Nat) : List Cl → List Value → Prop
  | [], cs => cs = []
  | c :: q, cs => ∃ T nT cT Y nY cY cs', cs = .slice T nT cT :: .slice Y nY cY :: cs' ∧ RdS w T nT cT c.tags ∧ RdS w Y nY cY c.types ∧ (∀ a, T = some a → base ≤ a.block ∧ a.block < w.heap.size ∧ some a.block ≠ B) ∧ (∀ a, Y = some a → base ≤ a.block ∧ a.block < w.heap.size ∧ some a.block ≠ B) ∧ ClsD w base B q cs'
theorem ClsD.below {w w' : World} {base : Nat} {B : Option Nat} (hb : Below w.heap.size w w') : ∀ (q : List Cl) (cs : List Value), ClsD w base B q cs → ClsD w' base B q cs
  | [], _, h => h
  | _ :: q, _, ⟨T, nT, cT, Y, nY, cY, cs', e, o1, o2, t1, t2, h⟩ => ⟨T, nT, cT, Y, nY, cY, cs', e, RdC.below o1 hb, RdC.below o2 hb, fun a ha => ⟨(t1 a ha).1, Nat.lt_of_lt_of_le (t1 a ha).2.1 hb.size, (t1 a ha).2.2⟩, fun a ha => ⟨(t2 a ha).1, Nat.lt_of_lt_of_le (t2 a ha).2.1 hb.size, (t2 a ha).2.2⟩, ClsD.below hb q cs' h⟩
/-- The row that holds the clauses has grown. -/
theorem ClsD.grow {w w' : World} {base : Nat} {B B' : Option Nat} (hg : w.grownBy w' B) (hB : B' = B ∨ B' = some w.heap.size) : ∀ (q : List Cl) (cs : List Value), ClsD w base B q cs → ClsD w' base B' q cs
  | [], _, h => h
  | _ :: q, _, ⟨T, nT, cT, Y, nY, cY, cs', e, o1, o2, t1, t2, h⟩ =>
    have far : ∀ a : Addr, a.block < w.heap.size → some a.block ≠ B → some a.block ≠ B' := fun a h1 h2 e => by
      rcases hB with h3 | h3
      · exact h2 (e.trans h3)
      · rw [h3] at e
        injection e with e
        omega
    ⟨T, nT, cT, Y, nY, cY, cs', e, RdC.grown o1 hg (fun b o hA => (t1 ⟨b, o, none⟩ hA).2.2), RdC.grown o2 hg (fun b o hA => (t2 ⟨b, o, none⟩ hA).2.2), fun a ha => ⟨(t1 a ha).1, Nat.lt_of_lt_of_le (t1 a ha).2.1 hg.size, far a (t1 a ha).2.1 (t1 a ha).2.2⟩, fun a ha => ⟨(t2 a ha).1, Nat.lt_of_lt_of_le (t2 a ha).2.1 hg.size, far a (t2 a ha).2.1 (t2 a ha).2.2⟩, ClsD.grow hg hB q cs' h⟩
/-- A cell of an older block is written. -/
theorem ClsD.set {w : World} {base : Nat} {B : Option Nat} {g i : Nat} (hg : g < base) (x : Value) : ∀ (q : List Cl) (cs : List Value), ClsD w base B q cs → ClsD (w.setCell ⟨g, i, none⟩ x) base B q cs
  | [], _, h => h
  | _ :: q, _, ⟨T, nT, cT, Y, nY, cY, cs', e, o1, o2, t1, t2, h⟩ =>
    have sz : (w.setCell ⟨g, i, none⟩ x).heap.size = w.heap.size := by simp [World.setCell]
    ⟨T, nT, cT, Y, nY, cY, cs', e, RdC.off o1 (fun a ha => by have := (t1 a ha).1; omega) x, RdC.off o2 (fun a ha => by have := (t2 a ha).1; omega) x, fun a ha => by rw [sz]; exact t1 a ha, fun a ha => by rw [sz]; exact t2 a ha, ClsD.set hg x q cs' h⟩
theorem ClsD.snoc {w : World} {base : Nat} {B : Option Nat} {c : Cl} {T Y : Option Addr} {nT cT nY cY : Nat} (o1 : RdS w T nT cT c.tags) (o2 : RdS w Y nY cY c.types) (t1 : ∀ a, T = some a → base ≤ a.block ∧ a.block < w.heap.size ∧ some a.block ≠ B) (t2 : ∀ a, Y = some a → base ≤ a.block ∧ a.block < w.heap.size ∧ some a.block ≠ B) :
    ∀ (q : List Cl) (cs : List Value), ClsD w base B q cs → ClsD w base B (q ++ [c]) (cs ++ [.slice T nT cT, .slice Y nY cY])
  | [], cs, h => by
    obtain rfl : cs = [] := h
    exact ⟨T, nT, cT, Y, nY, cY, [], rfl, o1, o2, t1, t2, rfl⟩
  | x :: q, cs, ⟨T1, n1, c1, F1, m1, d1, cs', hc, p1, p2, u1, u2, h⟩ => by
    subst hc
    exact ⟨T1, n1, c1, F1, m1, d1, cs' ++ [.slice T nT cT, .slice Y nY cY], rfl, p1, p2, u1, u2, ClsD.snoc o1 o2 t1 t2 q cs' h⟩
theorem ClsD.plain {w : World} {base : Nat} {B : Option Nat} : ∀ (q : List Cl) (cs : List Value), ClsD w base B q cs → ClsR w q cs
  | [], _, h => h
  | _ :: q, _, ⟨T, nT, cT, Y, nY, cY, cs', e, o1, o2, _, _, h⟩ => ⟨T, nT, cT, Y, nY, cY, cs', e, o1, o2, ClsD.plain q cs' h⟩

/-- What stands while a query is brought in order. -/
structure NqAt (wr w : World) (vq : Value) (A : Option Addr) (n cap : Nat) (q : List Cl) : Prop where
  eq : QAt wr w.heap.size vq
  res : QAt wr (w.heap.size + 1) (.slice none 0 0)
  out : QAt wr (w.heap.size + 1 + 1) (.slice A n cap)
  own : ∃ cs, OwnC 2 wr (w.heap.size + 1 + 1 + 1) 36 A n cap cs ∧ q.length = n ∧ ClsD wr (w.heap.size + 1 + 1 + 1) (A.map (·.block)) q cs
  bel : Below w.heap.size w wr
section
variable {wr w w' : World} {vq : Value} {A : Option Addr} {n cap : Nat} {q : List Cl}
theorem NqAt.below (h : NqAt wr w vq A n cap q) (hb : Below wr.heap.size wr w') : NqAt w' w vq A n cap q := by
  obtain ⟨cs, o, hl, hc⟩ := h.own
  exact ⟨h.eq.below hb, h.res.below hb, h.out.below hb, ⟨cs, OwnC.below o hb, hl, ClsD.below hb q cs hc⟩, below_chain h.bel hb⟩
theorem NqAt.new (w : World) (vq : Value) : NqAt (((w.alloc (.cells #[vq] 24)).alloc (.cells #[.slice none 0 0] 24)).alloc (.cells #[.slice none 0 0] 24)) w vq none 0 0 [] := by
  have h := MkAt.new w w vq
  exact ⟨h.eq, h.res, h.out, ⟨[], OwnC.nil _ _, rfl, rfl⟩, h.bel⟩
/-- A clause is appended, and the query's cell is written. -/
theorem NqAt.more {cs : List Value} {c : Cl} {T Y : Option Addr} {nT cT nY cY : Nat} {A' : Option Addr} {cap' : Nat} {w8 : World} (h : NqAt wr w vq A n cap q) (ho : OwnC 2 wr (w.heap.size + 1 + 1 + 1) 36 A n cap cs) (hl : q.length = n) (hc : ClsD wr (w.heap.size + 1 + 1 + 1) (A.map (·.block)) q cs) (o1 : RdS wr T nT cT c.tags) (o2 : RdS wr Y nY cY c.types)
    (t1 : ∀ a, T = some a → w.heap.size + 1 + 1 + 1 ≤ a.block ∧ a.block < wr.heap.size ∧ some a.block ≠ A.map (·.block)) (t2 : ∀ a, Y = some a → w.heap.size + 1 + 1 + 1 ≤ a.block ∧ a.block < wr.heap.size ∧ some a.block ≠ A.map (·.block))
    (ho8 : OwnC 2 w8 (w.heap.size + 1 + 1 + 1) 36 A' (n + 1) cap' (cs ++ [.slice T nT cT, .slice Y nY cY])) (hg : wr.grownBy w8 (A.map (·.block))) (hB : A'.map (·.block) = A.map (·.block) ∨ A'.map (·.block) = some wr.heap.size) :
    w8.frozen? ⟨w.heap.size + 1 + 1, 0, none⟩ = false ∧ w8.cell? ⟨w.heap.size + 1 + 1, 0, none⟩ = some (.slice A n cap) ∧ NqAt (w8.setCell ⟨w.heap.size + 1 + 1, 0, none⟩ (.slice A' (n + 1) cap')) w vq A' (n + 1) cap' (q ++ [c]) := by
  have low : ∀ r, A.map (·.block) = some r → w.heap.size + 1 + 1 + 1 ≤ r := fun r e => by
    cases A with
    | none => cases e
    | some a =>
      simp only [Option.map_some, Option.some.injEq] at e
      have := (OwnC.lt ho a rfl).1
      omega
  have hF : ∀ k, k < w.heap.size + 1 + 1 + 1 → some k ≠ A.map (·.block) := fun k hk e => by have := low k e.symm; omega
  have e8 := h.out.grown hg (hF _ (by omega))
  have hs := grownSet w8 (w.heap.size + 1 + 1) 0 (.slice A' (n + 1) cap')
  have b8 := h.bel.grown hg h.bel.size (fun r e => by have := low r e; omega)
  refine ⟨e8.frozen 0, e8.c0, (h.eq.grown hg (hF _ (by omega))).far (by omega) _, (h.res.grown hg (hF _ (by omega))).far (by omega) _, e8.set _, ⟨_, OwnC.grown ho8 hs (fun a hA e => by have := (OwnC.lt ho8 a hA).1; injection e with e; omega), by rw [List.length_append, hl]; rfl, ?_⟩, b8.setCell (by show w.heap.size ≤ w.heap.size + 1 + 1; omega) _⟩
  exact ClsD.set (by omega) _ _ _ (ClsD.grow hg hB _ _ (ClsD.snoc o1 o2 t1 t2 q cs hc))
end
theorem putL_pos (ss : List ByteArray) (s : ByteArray) : 0 < (putL ss s).length := by
  cases ss with
  | nil => simp [putL]
  | cons a l =>
    unfold putL
    repeat' split
    all_goals simp

/-- What stands while a clause is brought in order: all that stood at the round's start, the clause's cell, its two rows. -/
structure NcAt (wq wr : World) (T : Option Addr) (nT cT : Nat) (ts : List ByteArray) (Y : Option Addr) (nY cY : Nat) (ys : List ByteArray) : Prop where
  ec : ClAt wq wr.heap.size (.slice T nT cT) (.slice Y nY cY)
  rT : RdS wq T nT cT ts
  rY : RdS wq Y nY cY ys
  tT : ∀ a, T = some a → wr.heap.size + 1 ≤ a.block ∧ a.block < wq.heap.size
  tY : ∀ a, Y = some a → wr.heap.size + 1 ≤ a.block ∧ a.block < wq.heap.size
  bel : Below wr.heap.size wr wq
section
variable {wq wr w' : World} {T Y : Option Addr} {nT cT nY cY : Nat} {ts ys : List ByteArray}
theorem NcAt.drew (h : NcAt wq wr T nT cT ts Y nY cY ys) : NcAt wq.drew wr T nT cT ts Y nY cY ys := ⟨h.ec, h.rT, h.rY, h.tT, h.tY, bel_drew h.bel⟩
theorem NcAt.below (h : NcAt wq wr T nT cT ts Y nY cY ys) (hb : Below wq.heap.size wq w') : NcAt w' wr T nT cT ts Y nY cY ys :=
  ⟨h.ec.below hb, RdC.below h.rT hb, RdC.below h.rY hb, fun a ha => ⟨(h.tT a ha).1, Nat.lt_of_lt_of_le (h.tT a ha).2 hb.size⟩, fun a ha => ⟨(h.tY a ha).1, Nat.lt_of_lt_of_le (h.tY a ha).2 hb.size⟩, below_chain h.bel hb⟩
theorem NcAt.setT (h : NcAt wq wr T nT cT ts Y nY cY ys) {T5 : Option Addr} {n5 c5 : Nat} {us : List ByteArray} (r : RdS wq T5 n5 c5 us) (t : ∀ a, T5 = some a → wr.heap.size + 1 ≤ a.block ∧ a.block < wq.heap.size) : NcAt (wq.setCell ⟨wr.heap.size, 0, none⟩ (.slice T5 n5 c5)) wr T5 n5 c5 us Y nY cY ys := by
  have sz : (wq.setCell ⟨wr.heap.size, 0, none⟩ (.slice T5 n5 c5)).heap.size = wq.heap.size := by simp [World.setCell]
  exact ⟨h.ec.set0 _, RdC.off r (fun a ha => by have := (t a ha).1; omega) _, RdC.off h.rY (fun a ha => by have := (h.tY a ha).1; omega) _, fun a ha => by rw [sz]; exact t a ha, fun a ha => by rw [sz]; exact h.tY a ha, h.bel.setCell (Nat.le_refl _) _⟩
theorem NcAt.setY (h : NcAt wq wr T nT cT ts Y nY cY ys) {Y5 : Option Addr} {n5 c5 : Nat} {us : List ByteArray} (r : RdS wq Y5 n5 c5 us) (t : ∀ a, Y5 = some a → wr.heap.size + 1 ≤ a.block ∧ a.block < wq.heap.size) : NcAt (wq.setCell ⟨wr.heap.size, 1, none⟩ (.slice Y5 n5 c5)) wr T nT cT ts Y5 n5 c5 us := by
  have sz : (wq.setCell ⟨wr.heap.size, 1, none⟩ (.slice Y5 n5 c5)).heap.size = wq.heap.size := by simp [World.setCell]
  exact ⟨h.ec.set1 _, RdC.off h.rT (fun a ha => by have := (h.tT a ha).1; omega) _, RdC.off r (fun a ha => by have := (t a ha).1; omega) _, fun a ha => by rw [sz]; exact h.tT a ha, fun a ha => by rw [sz]; exact t a ha, h.bel.setCell (Nat.le_refl _) _⟩
/-- What Put hands back. -/
theorem put_new {w5 : World} {T0 T5 : Option Addr} {n5 c5 B : Nat} {ss : List ByteArray} {s : ByteArray} (t : ∀ a, T0 = some a → B + 1 ≤ a.block) (hw : B + 1 ≤ wq.heap.size) (r : RdS w5 T5 n5 c5 (putL ss s)) (hf : T5 = T0 ∨ ∀ a, T5 = some a → wq.heap.size ≤ a.block) : ∀ a, T5 = some a → B + 1 ≤ a.block ∧ a.block < w5.heap.size := by
  intro a ha
  have hp := putL_pos ss s
  have hl := r.len
  obtain ⟨b, o, hA, hlt, _⟩ := RdS.at_ r (by omega)
  rw [hA] at ha
  injection ha with ha
  subst ha
  refine ⟨?_, hlt⟩
  rcases hf with h | h
  · exact t _ (by rw [← h, hA])
  · have := h _ hA
    omega
end

set_option maxHeartbeats 8000000 in
set_option maxRecDepth 100000 in
theorem refNormQ_any (v : Value) (q : List Cl) (w : World) (hv : IsQ w v q) (hq : q.length ≤ 1000) (hc : ∀ c ∈ q, c.tags.length ≤ 1000 ∧ c.types.length ≤ 1000) :
    Calls Try.prog 14 #[v] w fun e w' => ∃ u, e = .returned u ∧ IsQ w' u (normQ q) ∧ Below w.heap.size w w' := by
  obtain ⟨C, n, cap, rfl, rC⟩ := hv
  have LC := Go.Lib.hid rC.len
  have hn : n ≤ 1000 := by rw [← LC.out]; exact hq
  have HC := Go.Lib.hid hc
  clear hc hq
  have s1 := NqAt.new w (.slice C n cap)
  go_enter Try.func14, Try.ntmps14
  go_upto_region 2 with (fail)
  generalize ((w.alloc (.cells #[.slice C n cap] 24)).alloc (.cells #[.slice none 0 0] 24)).alloc (.cells #[.slice none 0 0] 24) = w1 at *
  go_wp2_with fail
  go_loopw [4, 5, 6, 7] (fun i _ _ _ wr => ∃ (j : Nat) (A : Option Addr) (ca : Nat), j ≤ n ∧ i = .int .i64 j ∧ NqAt wr w (.slice C n cap) A j ca (normQ (q.take j))) (fun i _ _ _ _ => n - (intOf i).toNat)
  case atStart => exact ⟨0, none, 0, Nat.zero_le _, rfl, s1⟩
  case round =>
    obtain ⟨wo, rfl⟩ : ∃ wo, wo = wr := ⟨_, rfl⟩
    obtain ⟨j, A, ca, hjn, rfl, sr⟩ := hrel
    clear s1
    have k0 := sr.eq.c0
    have HA : Hid (∀ a, A = some a → a.block < wo.heap.size) := Go.Lib.hid fun a ha => by
      obtain ⟨cs, oc, _, _⟩ := sr.own
      exact (OwnC.lt oc a ha).2
    by_cases hlt : j < n
    · obtain ⟨bt, ot, rfl, _, kt⟩ := rC.at_ (by omega)
      obtain ⟨T, nT, cT, Y, nY, cY, x0, x1, rT, rY⟩ := kt j hlt
      have i1 : (j : Int) < n := by omega
      have hjl : j < q.length := by rw [LC.out]; exact hlt
      have HS : Hid (normQ (q.take (j + 1)) = normQ (q.take j) ++ [normC (q.getD j noCl)]) := Go.Lib.hid (by rw [cl_take q j hjl, normQ, List.map_append]; rfl)
      have hcj := HC.out _ (cl_get hjl)
      clear kt hjl
      generalize q.getD j noCl = c at *
      have LT := Go.Lib.hid rT.len
      have LY := Go.Lib.hid rY.len
      have hnT : nT ≤ 1000 := by rw [← LT.out]; exact hcj.1
      have hnY : nY ≤ 1000 := by rw [← LY.out]; exact hcj.2
      clear hcj
      have hg3 : w.heap.size + 1 + 1 + 1 ≤ wo.heap.size := sr.out.lt
      go_upto_region 6 with (fail)
      have n6 : NcAt (wo.alloc (.cells #[.slice none 0 0, .slice none 0 0] 36)) wo none 0 0 (normTags (c.tags.take 0)) none 0 0 [] :=
        ⟨ClAt.new wo _ _, RdC.nil _, RdC.nil _, (fun a h => by cases h), (fun a h => by cases h), (Below.refl _ _).alloc (Nat.le_refl _) _⟩
      generalize wo.alloc (.cells #[.slice none 0 0, .slice none 0 0] 36) = w6 at *
      go_wp2_with fail
      go_loopw [6] (fun i wq => ∃ (k : Nat) (U : Option Addr) (nU cU : Nat), k ≤ nT ∧ i = .int .i64 k ∧ NcAt wq wo U nU cU (normTags (c.tags.take k)) none 0 0 []) (fun i _ => nT - (intOf i).toNat)
      case atStart => exact ⟨0, none, 0, 0, Nat.zero_le _, rfl, n6⟩
      case round =>
        obtain ⟨wq, rfl⟩ : ∃ wq, wq = wr := ⟨_, rfl⟩
        obtain ⟨k, U, nU, cU, hk, rfl, nq⟩ := hrel
        clear n6 k0
        have sq := sr.below nq.bel
        have k0 := sq.eq.c0
        have y0 := bcell sq.bel x0
        have m0 := nq.ec.c0
        by_cases hlt2 : k < nT
        · obtain ⟨bu, ou, rfl, _, ku⟩ := RdS.at_ (RdC.below rT sq.bel) (by omega)
          have z0 := ku k hlt2
          have i2 : (k : Int) < nT := by omega
          have HT := Go.Lib.hid (take_get c.tags k (by rw [LT.out]; exact hlt2))
          clear ku
          generalize c.tags.getD k ByteArray.empty = x at *
          have hl6 : nU ≤ 1000000 := by
            have h3 := nq.rT.len
            have h4 := normTags_len (c.tags.take k)
            rw [List.length_take] at h4
            omega
          have hwq : wo.heap.size + 1 ≤ wo.heap.size + 1 := Nat.le_refl _
          have hw1 : wo.heap.size + 1 ≤ wq.heap.size := nq.ec.lt
          go_wp2_with fail
          go_region_with (first | (go_at_call 22; refine (refPut_any U nU cU (normTags (c.tags.take k)) x _ ?_ hl6).mono ?_; exact RdC.drew nq.rT; rintro e w5 ⟨T5, n5, c5, rfl, hT5, b5, hf5⟩; have nq5 := nq.drew.below b5; have fz := nq5.ec.frozen 0; have kk := nq5.ec.c0; have nq6 := nq5.setT hT5 (put_new (fun a ha => (nq.tT a ha).1) hw1 hT5 hf5)))
          all_goals
            have e1 : normTags (c.tags.take (k + 1)) = putL (normTags (c.tags.take k)) x := by rw [HT.out, normTags_snoc]
            rw [← e1] at nq6
            clear hT5 nq5 b5 fz kk m0 y0 z0 k0 sq
            go_wp2_with fail
            go_roundw
            case rel => exact ⟨k + 1, T5, n5, c5, by omega, by go_num, nq6⟩
            case measure => simp [intOf]; omega
        · obtain rfl : nT = k := by omega
          have hTe : normTags (c.tags.take nT) = normTags c.tags := by rw [List.take_of_length_le (by rw [LT.out]; exact Nat.le_refl _)]
          rw [hTe] at nq
          have nq' : NcAt wq wo U nU cU (normTags c.tags) none 0 0 (normTags (c.types.take 0)) := nq
          clear hTe
          go_wp2_with fail
          go_loopw [7] (fun i wp => ∃ (k : Nat) (V : Option Addr) (nV cV : Nat), k ≤ nY ∧ i = .int .i64 k ∧ NcAt wp wo U nU cU (normTags c.tags) V nV cV (normTags (c.types.take k))) (fun i _ => nY - (intOf i).toNat)
          case atStart => exact ⟨0, none, 0, 0, Nat.zero_le _, rfl, nq'⟩
          case round =>
            obtain ⟨wp, rfl⟩ : ∃ wp, wp = wr := ⟨_, rfl⟩
            obtain ⟨k, V, nV, cV, hk, rfl, np⟩ := hrel
            clear nq nq' k0 y0 m0 sq
            have sp := sr.below np.bel
            have k0 := sp.eq.c0
            have y1 := bcell sp.bel x1
            have m1 := np.ec.c1
            by_cases hlt3 : k < nY
            · obtain ⟨bu, ou, rfl, _, ku⟩ := RdS.at_ (RdC.below rY sp.bel) (by omega)
              have z0 := ku k hlt3
              have i2 : (k : Int) < nY := by omega
              have HT := Go.Lib.hid (take_get c.types k (by rw [LY.out]; exact hlt3))
              clear ku
              generalize c.types.getD k ByteArray.empty = x at *
              have hl6 : nV ≤ 1000000 := by
                have h3 := np.rY.len
                have h4 := normTags_len (c.types.take k)
                rw [List.length_take] at h4
                omega
              have hw1 : wo.heap.size + 1 ≤ _ := np.ec.lt
              go_wp2_with fail
              go_region_with (first | (go_at_call 22; refine (refPut_any V nV cV (normTags (c.types.take k)) x _ ?_ hl6).mono ?_; exact RdC.drew np.rY; rintro e w5 ⟨T5, n5, c5, rfl, hT5, b5, hf5⟩; have np5 := np.drew.below b5; have fz := np5.ec.frozen 1; have kk := np5.ec.c1; have np6 := np5.setY hT5 (put_new (fun a ha => (np.tY a ha).1) hw1 hT5 hf5)))
              all_goals
                have e1 : normTags (c.types.take (k + 1)) = putL (normTags (c.types.take k)) x := by rw [HT.out, normTags_snoc]
                rw [← e1] at np6
                clear hT5 np5 b5 fz kk m1 y1 z0 k0 sp
                go_wp2_with fail
                go_roundw
                case rel => exact ⟨k + 1, T5, n5, c5, by omega, by go_num, np6⟩
                case measure => simp [intOf]; omega
            · obtain rfl : nY = k := by omega
              have hYe : normTags (c.types.take nY) = normTags c.types := by rw [List.take_of_length_le (by rw [LY.out]; exact Nat.le_refl _)]
              rw [hYe] at np
              clear hYe
              have m0 := np.ec.c0
              have o0 := sp.out.c0
              have al : Below wp.heap.size wp (wp.alloc (.cells #[.slice U nU cU, .slice V nV cV] 36)) := (Below.refl _ _).alloc (Nat.le_refl _) _
              have s8 := sp.below al
              have n8 := np.below al
              have d8 : RdC 2 (wp.alloc (.cells #[.slice U nU cU, .slice V nV cV] 36)) (some ⟨wp.heap.size, 0, none⟩) 1 1 [.slice U nU cU, .slice V nV cV] := RdC.new wp 36 [.slice U nU cU, .slice V nV cV] rfl (by decide)
              have big : w.heap.size + 1 + 1 + 1 ≤ (wp.alloc (.cells #[.slice U nU cU, .slice V nV cV] 36)).heap.size := s8.out.lt
              have h63 : j + 1 ≤ maxLen := by unfold maxLen; omega
              have hsz : (j + 1) * 48 ≤ 140737488355328 := by omega
              obtain ⟨cs, oc, hcl, hcs⟩ := s8.own
              have far : ∀ a : Addr, wo.heap.size + 1 ≤ a.block → some a.block ≠ A.map (·.block) := fun a ha e => by
                cases A with
                | none => cases e
                | some b =>
                  simp only [Option.map_some, Option.some.injEq] at e
                  have := HA.out b rfl
                  omega
              have t1 : ∀ a, U = some a → w.heap.size + 1 + 1 + 1 ≤ a.block ∧ a.block < (wp.alloc (.cells #[.slice U nU cU, .slice V nV cV] 36)).heap.size ∧ some a.block ≠ A.map (·.block) := fun a ha => ⟨by have := (n8.tT a ha).1; omega, (n8.tT a ha).2, far a (n8.tT a ha).1⟩
              have t2 : ∀ a, V = some a → w.heap.size + 1 + 1 + 1 ≤ a.block ∧ a.block < (wp.alloc (.cells #[.slice U nU cU, .slice V nV cV] 36)).heap.size ∧ some a.block ≠ A.map (·.block) := fun a ha => ⟨by have := (n8.tY a ha).1; omega, (n8.tY a ha).2, far a (n8.tY a ha).1⟩
              have T1 := Go.Lib.hid t1
              have T2 := Go.Lib.hid t2
              clear sp np al far t1 t2
              go_wp2_with (at_builtin; refine wpList_append_cells rfl (.tmp 66) (.tmp 68) 22 rfl 36 (.agg #[.slice none 0 0, .slice none 0 0]) 48 Try.underlying22 clause_info rfl (by decide) rfl rfl oc d8 (cl_one _ _ _ _ _ _) h63 hsz big ?_; intro A9 c9 w9 o9 g9 hB9; obtain ⟨z9, k9, n9⟩ := s8.more (c := normC c) oc hcl hcs n8.rT n8.rY T1.out T2.out o9 g9 hB9)
              go_roundw
              case rel => exact ⟨j + 1, A9, c9, by omega, by go_num, by rw [HS.out]; exact n9⟩
              case measure => simp [intOf]; omega
    · obtain rfl : n = j := by omega
      have hqe : normQ (q.take n) = normQ q := by rw [List.take_of_length_le (by rw [LC.out]; exact Nat.le_refl _)]
      rw [hqe] at sr
      have o0 := sr.out.c0
      have r0 := sr.res.c0
      have z0 := sr.res.frozen 0
      have e9 := sr.res.set (.slice A n ca)
      have rq9 : RdQ (wo.setCell ⟨w.heap.size + 1, 0, none⟩ (.slice A n ca)) A n ca (normQ q) := by
        obtain ⟨cs, oc, hcl, hcs⟩ := sr.own
        have hs := grownSet wo (w.heap.size + 1) 0 (.slice A n ca)
        exact OwnQ.rd (w0 := wo.setCell ⟨w.heap.size + 1, 0, none⟩ (.slice A n ca)) ⟨cs, OwnC.grown oc hs (fun a hA e => by have := (OwnC.lt oc a hA).1; injection e with e; omega), hcl, ClsD.plain _ _ (ClsD.set (by omega) _ _ _ hcs)⟩ (Below.refl _ _)
      have b9 : Below w.heap.size w (wo.setCell ⟨w.heap.size + 1, 0, none⟩ (.slice A n ca)) := sr.bel.setCell (by show w.heap.size ≤ w.heap.size + 1; omega) _
      have E9 := Go.Lib.hid e9
      have RQ := Go.Lib.hid rq9
      have BQ := Go.Lib.hid b9
      clear hqe e9 rq9 b9 sr
      go_wp2_with fail
      have e9 := E9.out
      have rq9 := RQ.out
      have b9 := BQ.out
      generalize wo.setCell ⟨w.heap.size + 1, 0, none⟩ (.slice A n ca) = w9 at *
      have q0 := e9.c0
      exact bodyPost_ret (v := .agg #[.slice A n ca]) (by simp [results, Try.results14, go_sem, q0]) rfl ⟨_, rfl, ⟨_, _, _, rfl, rq9⟩, b9⟩

end Go.Proofs.Ytfbooapgjhhjmaa.QuWalk
