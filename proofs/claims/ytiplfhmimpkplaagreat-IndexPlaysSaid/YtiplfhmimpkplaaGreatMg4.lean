/-
  Layer 14's statements: the streams' names as a thing; the versions' sum.
-/
import Derived.Deep.RegionHeldLaw
import Derived.ArgAppend
import Derived.Maps.OwnSet
import Derived.Maps.Ext
import Derived.Maps.RangeWalk
import Derived.Sort.KeysCollected
import Derived.WalkSpells
import Derived.Deep.DeepCutAuto
import Derived.Deep.CutBlock
import Derived.Deep.QuietTactic
import Derived.BigQuiet
import Derived.Test.YtiplfhmimpkplaaGreatMg3
namespace Go.Proofs.YtiplfhmimpkplaaGreat.IxWalk
open Go.RowKit Go.WideShapes Go.ChangeShapes Go.Proofs.YtiplfhmimpkplaaGreat.MemRow Go.Proofs.YtiplfhmimpkplaaGreat.Ev Go.Proofs.YtiplfhmimpkplaaGreat.Open Go.Proofs.YtiplfhmimpkplaaGreat.NameMath Go.Proofs.YtiplfhmimpkplaaGreat.NameWalk Go.Proofs.YtiplfhmimpkplaaGreat.EvWalk Go.Proofs.YtiplfhmimpkplaaGreat.NumMem Go.Proofs.YtiplfhmimpkplaaGreat.Qu Go.Proofs.YtiplfhmimpkplaaGreat.QuWalk Go.Proofs.YtiplfhmimpkplaaGreat.SmWalk Go.Proofs.YtiplfhmimpkplaaGreat.BtWalk Go.Proofs.YtiplfhmimpkplaaGreat.DkWalk

theorem rdc_keep {k : Nat} {w w' : World} {A : Option Addr} {n cap : Nat} {cs : List Value} (h : RdC k w A n cap cs) (hk : ∀ a, A = some a → w'.heap[a.block]? = w.heap[a.block]?) : RdC k w' A n cap cs :=
  h.keep fun b o hA i v hc => by
    have e := hk _ hA
    exact (World.cell?_of_block (w := w) (a := ⟨b, o + i, none⟩) e).trans hc
/-- A row of texts. -/
def SsT (A : Option Addr) (n c : Nat) (ss : List ByteArray) : Thing := fun w G => RdS w A n c ss ∧ (∀ a, A = some a → G a.block) ∧ ∀ k, G k → k < w.heap.size
theorem ssT_keeps (A : Option Addr) (n c : Nat) (ss : List ByteArray) : Keeps (SsT A n c ss) :=
  ⟨fun ⟨h, i, hl⟩ hs hk => ⟨rdc_keep h fun a ha => hk _ (i a ha), i, fun k h => Nat.lt_of_lt_of_le (hl k h) hs⟩, fun h => h.2.2⟩
theorem pair_ss {base : Nat} {w : World} {P : Thing} {A : Option Addr} {n c : Nat} {ss : List ByteArray} (h : Pair base w P (SsT A n c ss)) : RdS w A n c ss := by
  obtain ⟨_, _, _, hr, _⟩ := h
  exact hr.1
theorem ss_new {base : Nat} {w : World} {P Q : Thing} (h : Pair base w P Q) (kp : Keeps P) (kq : Keeps Q) (hb : base ≤ w.heap.size) : Pair base (w.alloc (.cells #[] 9)) P (SsT (some ⟨w.heap.size, 0, none⟩) 0 0 []) ∧ Below w.heap.size w (w.alloc (.cells #[] 9)) := by
  have b : Below w.heap.size w (w.alloc (.cells #[] 9)) := (Below.refl _ w).alloc (Nat.le_refl _) _
  refine ⟨pair_second (pair_more (R := SsT (some ⟨w.heap.size, 0, none⟩) 0 0 []) h kp kq hb b ⟨RdC.empty _ _ (Nat.zero_le _), fun a ha => ?_, fun k hk => hk.2⟩), b⟩
  injection ha with ha
  subst ha
  exact ⟨Nat.le_refl _, by simp⟩
theorem ss_put {base : Nat} {w w' : World} {P : Thing} {A A' : Option Addr} {n c n' c' : Nat} {ss : List ByteArray} {s : ByteArray} (h : Pair base w P (SsT A n c ss)) (kp : Keeps P) (hb : base ≤ w.heap.size) (r : RdS w' A' n' c' (putL ss s)) (b : Below w.heap.size w w') (hA : A' = A ∨ ∀ a, A' = some a → w.heap.size ≤ a.block) : Pair base w' P (SsT A' n' c' (putL ss s)) := by
  rcases hA with rfl | hA
  · obtain ⟨F, G, h1, ⟨_, h3, h4⟩, h5, h6, h7⟩ := h.below kp (ssT_keeps _ _ _ _) b
    exact ⟨F, G, h1, ⟨r, h3, h4⟩, h5, h6, h7⟩
  · have hn : 0 < n' := by rw [← r.len]; exact List.length_pos_of_mem ((putL_mem ss s s).2 (.inl rfl))
    refine pair_second (pair_more (R := SsT A' n' c' (putL ss s)) h kp (ssT_keeps _ _ _ _) hb b ⟨r, fun a ha => ⟨hA a ha, ?_⟩, fun k hk => hk.2⟩)
    obtain ⟨bb, oo, e, hlt, _⟩ := RdS.at_ r hn
    rw [ha] at e
    injection e with e
    rw [e]
    exact hlt

/-! ### Names of a log that grows -/
def namesF (es fs : List Ev) (k : Nat) : List ByteArray := normTags (strs es ++ strs (fs.take k))
theorem names_zero (es fs : List Ev) : namesF es fs 0 = normTags (strs es) := by simp [namesF, strs]
theorem names_succ (es : List Ev) {fs : List Ev} {k : Nat} (h : k < fs.length) : putL (namesF es fs k) (fs.getD k noEv).s = namesF es fs (k + 1) := by
  unfold namesF
  rw [evsTake fs k h]
  show _ = normTags (strs es ++ (fs.take k ++ [fs.getD k noEv]).map (·.s))
  rw [List.map_append, ← List.append_assoc]
  exact (normTags_snoc _ _).symm
theorem names_all (es : List Ev) {fs : List Ev} {k : Nat} (h : fs.length ≤ k) : namesF es fs k = normTags (strs (es ++ fs)) := by
  unfold namesF
  rw [List.take_of_length_le h]
  simp [strs]
theorem names_len (es fs : List Ev) (k : Nat) : (namesF es fs k).length ≤ es.length + k := by
  have := normTags_len (strs es ++ strs (fs.take k))
  have h2 : (fs.take k).length ≤ k := by rw [List.length_take]; omega
  simp only [strs, List.length_append, List.length_map] at this
  unfold namesF
  simp only [strs]
  omega
theorem newR_get (es fs : List Ev) {k : Nat} (h : k < fs.length) : ((newR es fs).getD k noRc).e.s = (fs.getD k noEv).s := by
  rw [List.getD_eq_getElem?_getD, newR_at es fs k h]
  rfl

/-! ### The versions' sum -/
def versF (es : List Ev) (ns : List ByteArray) (k : Nat) : Nat := ((ns.take k).map fun n => (strF es n (es.length : Nat)).length).sum
theorem vers_zero (es : List Ev) (ns : List ByteArray) : versF es ns 0 = 0 := rfl
theorem vers_succ (es : List Ev) {ns : List ByteArray} {k : Nat} (h : k < ns.length) : versF es ns (k + 1) = versF es ns k + (strF es (ns.getD k ByteArray.empty) (es.length : Nat)).length := by
  unfold versF
  rw [List.take_add_one, List.getElem?_eq_getElem h, List.map_append, List.sum_append]
  simp [List.getD, List.getElem?_eq_getElem h]
theorem vers_le (es : List Ev) (ns : List ByteArray) (k : Nat) : versF es ns k ≤ versF es ns ns.length := by
  unfold versF
  rw [List.take_of_length_le (Nat.le_refl ns.length)]
  conv => rhs; rw [← List.take_append_drop k ns]
  rw [List.map_append, List.sum_append]
  exact Nat.le_add_right _ _
theorem vers_all (es : List Ev) : versF es (normTags (strs es)) (normTags (strs es)).length = es.length := by
  unfold versF
  rw [List.take_of_length_le (Nat.le_refl _)]
  exact str_sum es (up_nodup (normTags_up _)) (fun x hx => (normTags_mem _ x).2 hx) (Int.le_refl _)
theorem name_size {es : List Ev} (h : LogOk es) (j : Nat) : ((normTags (strs es)).getD j ByteArray.empty).size ≤ maxLen := by
  by_cases hj : j < (normTags (strs es)).length
  · have hm : (normTags (strs es)).getD j ByteArray.empty ∈ normTags (strs es) := by
      rw [List.getD_eq_getElem?_getD, List.getElem?_eq_getElem hj]
      exact List.getElem_mem hj
    rw [normTags_mem] at hm
    obtain ⟨e, he, h1⟩ := List.mem_map.1 hm
    rw [← h1]
    have h2 := ((mayE_zero e).1 (h.2 e he)).1
    unfold nameB may at h2
    rw [Bool.and_eq_true, decide_eq_true_eq] at h2
    have h3 : e.s.size ≤ 24 := h2.1.2
    unfold maxLen
    omega
  · rw [List.getD_eq_getElem?_getD, List.getElem?_eq_none (by omega)]
    exact Nat.zero_le _
/-- A query of one empty clause, as the law makes it. -/
theorem one_clause {w : World} {b : Nat} (h : w.heap[b]? = some (.cells #[.slice none 0 0, .slice none 0 0] 87 (0, 0))) : RdQ w (some ⟨b, 0, none⟩) 1 1 [⟨[], []⟩] := by
  refine ⟨rfl, Nat.le_refl _, by decide, fun _ => ⟨b, 0, rfl, (Array.getElem?_eq_some_iff.1 h).1, fun i hi => ?_⟩⟩
  obtain rfl : i = 0 := by omega
  refine ⟨none, 0, 0, none, 0, 0, ?_, ?_, RdC.nil _, RdC.nil _⟩
  · rw [cell_of_row w b 0 _ _ _ h]; rfl
  · rw [cell_of_row w b 1 _ _ _ h]; rfl
theorem one_few : QFew [⟨[], []⟩] := by
  refine ⟨fun c hc => ?_, by decide, fun c hc => ?_⟩
  · obtain rfl := List.mem_singleton.1 hc
    exact ⟨fun _ h => (by cases h), fun _ h => (by cases h)⟩
  · obtain rfl := List.mem_singleton.1 hc
    exact ⟨by decide, by decide⟩
theorem none_few : QFew [] := ⟨fun _ h => (by cases h), by decide, fun _ h => (by cases h)⟩

end Go.Proofs.YtiplfhmimpkplaaGreat.IxWalk

/-
  Walk of a statement of layer 14: IndexWhole. (Written by genwhole.py.)
-/
namespace Go.Proofs.YtiplfhmimpkplaaGreat.IxWalk
open Go.Proofs.YtiplfhmimpkplaaGreat.HeldAt Go.RowKit Go.WideShapes Go.ChangeShapes Go.Proofs.YtiplfhmimpkplaaGreat.MemRow Go.Proofs.YtiplfhmimpkplaaGreat.Ev Go.Proofs.YtiplfhmimpkplaaGreat.Open Go.Proofs.YtiplfhmimpkplaaGreat.NameMath Go.Proofs.YtiplfhmimpkplaaGreat.NameWalk Go.Proofs.YtiplfhmimpkplaaGreat.EvWalk Go.Proofs.YtiplfhmimpkplaaGreat.NumMem Go.Proofs.YtiplfhmimpkplaaGreat.Qu Go.Proofs.YtiplfhmimpkplaaGreat.QuWalk Go.Proofs.YtiplfhmimpkplaaGreat.SmWalk Go.Proofs.YtiplfhmimpkplaaGreat.BtWalk Go.Proofs.YtiplfhmimpkplaaGreat.DkWalk

section
variable {Ix : Nat → List Ev → Thing}
end

end Go.Proofs.YtiplfhmimpkplaaGreat.IxWalk

/-
  The laws' word of layer 14: alike.
-/
namespace Go.Proofs.YtiplfhmimpkplaaGreat.IxWalk
open Go.RowKit Go.WideShapes Go.ChangeShapes Go.Proofs.YtiplfhmimpkplaaGreat.MemRow Go.Proofs.YtiplfhmimpkplaaGreat.Ev Go.Proofs.YtiplfhmimpkplaaGreat.Open Go.Proofs.YtiplfhmimpkplaaGreat.NameMath Go.Proofs.YtiplfhmimpkplaaGreat.NameWalk Go.Proofs.YtiplfhmimpkplaaGreat.EvWalk Go.Proofs.YtiplfhmimpkplaaGreat.NumMem Go.Proofs.YtiplfhmimpkplaaGreat.Qu Go.Proofs.YtiplfhmimpkplaaGreat.QuWalk Go.Proofs.YtiplfhmimpkplaaGreat.SmWalk Go.Proofs.YtiplfhmimpkplaaGreat.BtWalk Go.Proofs.YtiplfhmimpkplaaGreat.DkWalk

theorem pair_ry {base : Nat} {W0 w : World} {P R : Thing} {gy : Nat} {es : List Ev} (h : Pair base w P (With (RyT W0 gy es) R)) : ∃ G, RyT W0 gy es w G := by
  obtain ⟨_, _, _, ⟨G1, _, h1, _⟩, _⟩ := h
  exact ⟨G1, h1⟩
theorem pair_ry1 {base : Nat} {W0 w : World} {P : Thing} {gy : Nat} {es : List Ev} (h : Pair base w P (RyT W0 gy es)) : ∃ G, RyT W0 gy es w G := by
  obtain ⟨_, G, _, h1, _⟩ := h
  exact ⟨G, h1⟩
section
variable {Ix : Nat → List Ev → Thing}
set_option maxHeartbeats 16000000 in
set_option maxRecDepth 100000 in
theorem alike_any (api : IApi Ix) {base : Nat} {W0 w : World} {g gy : Nat} {es : List Ev} (hp : Pair base w (Ix g es) (RyT W0 gy es)) (hb : base ≤ w.heap.size) (lo : LogOk es) (hW : Below W0.heap.size W0 w) {s : ByteArray} (hs : s.size ≤ maxLen) {Cq : Option Addr} {nq cq : Nat} {q0 : List Cl} (hq : RdQ W0 Cq nq cq q0) (hqo : QOk q0) {z : Int} (hz : -9223372036854775808 ≤ z ∧ z ≤ 9223372036854775807) :
    Calls Tryz.prog 12 #[.pointer (some ⟨g, 0, none⟩), .pointer (some ⟨gy, 0, none⟩), .agg #[.string s, .slice Cq nq cq, .int .i64 z]] w fun e w' => e = .returned (.bool true) ∧ Below w.heap.size w w' := by
  have b1 := (Below.refl w.heap.size w).alloc (Nat.le_refl _) (.cells #[.string s, .slice Cq nq cq, .int .i64 z] 27)
  have bx := heap_alloc_new w (.cells #[.string s, .slice Cq nq cq, .int .i64 z] 27)
  have kP := api.keeps
  have kR := ryT_keeps W0 gy es
  have p1 := hp.below (kP _ _) kR b1
  have HQF := Go.Lib.hid (qfew_of hqo)
  have LO := Go.Lib.hid lo
  have BW := Go.Lib.hid hW
  have HQ := Go.Lib.hid hq
  have h400 : es.length ≤ 400 := lo.1
  clear hp lo hq hqo
  go_enter Tryz.func12, Tryz.ntmps12
  go_upto_region 1 with (fail)
  generalize w.alloc (.cells #[.string s, .slice Cq nq cq, .int .i64 z] 27) = w1 at *
  have e0 : w1.cell? ⟨w.heap.size, 0, none⟩ = some (.string s) := by rw [cell_of_row w1 _ 0 _ _ _ bx]; rfl
  have e1 : w1.cell? ⟨w.heap.size, 1, none⟩ = some (.slice Cq nq cq) := by rw [cell_of_row w1 _ 1 _ _ _ bx]; rfl
  have e2 : w1.cell? ⟨w.heap.size, 2, none⟩ = some (.int .i64 z) := by rw [cell_of_row w1 _ 2 _ _ _ bx]; rfl
  have CF := Go.Lib.hid (less14_any (.agg #[.slice Cq nq cq]) q0 W0 w1 ⟨Cq, nq, cq, rfl, HQ.out⟩ (below_chain BW.out b1))
  clear bx
  go_wp2_with fail
  refine (CF.out).mono ?_
  rintro e w6 ⟨A6, n6, c6, rfl, o6, b6⟩
  have b7 := (Below.refl w6.heap.size w6).alloc (Nat.le_refl _) (.cells #[.slice A6 n6 c6] 25)
  have gx : (w6.alloc (.cells #[.slice A6 n6 c6] 25)).cell? ⟨w6.heap.size, 0, none⟩ = some (.slice A6 n6 c6) := by rw [cell_of_row _ w6.heap.size 0 _ _ _ (heap_alloc_new w6 _)]; rfl
  have rq : RdQ (w6.alloc (.cells #[.slice A6 n6 c6] 25)) A6 n6 c6 (fewQ q0) := RdQ.below (OwnQ.rd o6 (below_chain (below_chain BW.out b1) b6)) b7
  have p7 := (p1.below (kP _ _) kR b6).below (kP _ _) kR b7
  have e0 := bcell b7 (bcell b6 e0)
  have e2 := bcell b7 (bcell b6 e2)
  have B7 := below_chain (below_chain b1 b6) b7
  have hb7 := Nat.le_trans hb B7.size
  clear CF b1 b6 b7 o6 p1 e1
  go_upto_region 2 with (fail)
  generalize w6.alloc (.cells #[.slice A6 n6 c6] 25) = w7 at *
  generalize w6.heap.size = gq at *
  have BW7 := Go.Lib.hid (below_chain BW.out B7)
  generalize w.heap.size = gk at e0 e2 ⊢
  have bd : ∀ W : World, Below W.heap.size W W.drew := fun W => ⟨rfl, rfl, rfl, Nat.le_refl _, fun _ _ => rfl⟩
  have BD := Go.Lib.hid bd
  have FA := Go.Lib.hid (fun (wx : World) (b : Below w7.heap.size w7 wx) => (⟨bcell b e0, bcell b e2, bcell b gx, RdQ.below rq b⟩ : wx.cell? ⟨gk, 0, none⟩ = some (.string s) ∧ wx.cell? ⟨gk, 2, none⟩ = some (.int .i64 z) ∧ wx.cell? ⟨gq, 0, none⟩ = some (.slice A6 n6 c6) ∧ RdQ wx A6 n6 c6 (fewQ q0)))
  generalize fewQ q0 = q at *
  have HB := Go.Lib.hid (fun (wx : World) (b : Below w7.heap.size w7 wx) => Nat.le_trans hb7 b.size)
  clear rq e0 e2 gx bd
  have b2a := BD.out w7
  have p2a := p7.below (kP _ _) kR b2a
  have HB2a := Go.Lib.hid (b2a)
  have h2a := HB.out _ HB2a.out
  have C2a := Go.Lib.hid (api.all (u := z) p2a kR h2a LO.out hz)
  have k2a := (FA.out _ HB2a.out).2.1
  clear b2a p2a p7 h2a
  go_region_held (fun w' => w'.cell? ⟨gk, 2, none⟩ = some (.int .i64 z)) (first | exact k2a | exact y2b | exact y2c | exact y2d)
    (first
      | (go_at_call 23; refine (C2a.out).mono ?_; rintro e w2b ⟨A2b, n2b, c2b, rfl, p2b, b2b⟩; have B2b := below_chain HB2a.out b2b; have y2b := (FA.out _ B2b).2.1; obtain ⟨G2b, g2b⟩ := pair_ry p2b; have C2b := Go.Lib.hid (refAll14_any W0 gy es G2b z w2b g2b h400); clear g2b)
      | (go_at_call 24; refine (C2b.out).mono ?_; rintro e w2c ⟨A2c, n2c, c2c, rfl, o2c, b2c⟩; have B2c := below_chain B2b b2c; have y2c := (FA.out _ B2c).2.1; have C2c := Go.Lib.hid (refSame14_any A2b A2c n2b n2c c2b c2c (allF es z) w2c (RdRc.below (pair_ro p2b) b2c) (OwnR.rd o2c (below_chain BW7.out B2c))); clear o2c)
      | (go_at_call 11; refine (C2c.out).mono ?_; rintro e w2d ⟨rfl, b2d⟩; have B2d := below_chain B2c b2d; have y2d := (FA.out _ B2d).2.1))
  have p2d := ((pair_first p2b).below (kP _ _) kR b2c).below (kP _ _) kR b2d
  clear HB2a C2a k2a p2b b2b B2b y2b C2b b2c B2c y2c C2c b2d y2d
  go_upto_region 3 with (fail)
  have b3a := BD.out w2d
  have p3a := p2d.below (kP _ _) kR b3a
  have HB3a := Go.Lib.hid (below_chain B2d b3a)
  have h3a := HB.out _ HB3a.out
  have C3a := Go.Lib.hid (api.str (s := s) (u := z) p3a kR h3a LO.out hs hz)
  have k3a := (⟨(FA.out _ HB3a.out).1, (FA.out _ HB3a.out).2.1⟩ : _ ∧ _)
  clear b3a p3a p2d h3a
  go_region_held (fun w' => w'.cell? ⟨gk, 0, none⟩ = some (.string s) ∧ w'.cell? ⟨gk, 2, none⟩ = some (.int .i64 z)) (first | exact k3a | exact y3b | exact y3c | exact y3d)
    (first
      | (go_at_call 25; refine (C3a.out).mono ?_; rintro e w3b ⟨A3b, n3b, c3b, rfl, p3b, b3b⟩; have B3b := below_chain HB3a.out b3b; have y3b := (⟨(FA.out _ B3b).1, (FA.out _ B3b).2.1⟩ : _ ∧ _); obtain ⟨G3b, g3b⟩ := pair_ry p3b; have C3b := Go.Lib.hid (refStr_any W0 gy es G3b s z w3b g3b h400); clear g3b)
      | (go_at_call 20; refine (C3b.out).mono ?_; rintro e w3c ⟨A3c, n3c, c3c, rfl, o3c, b3c⟩; have B3c := below_chain B3b b3c; have y3c := (⟨(FA.out _ B3c).1, (FA.out _ B3c).2.1⟩ : _ ∧ _); have C3c := Go.Lib.hid (refSame14_any A3b A3c n3b n3c c3b c3c (strF es s z) w3c (RdRc.below (pair_ro p3b) b3c) (OwnR.rd o3c (below_chain BW7.out B3c))); clear o3c)
      | (go_at_call 11; refine (C3c.out).mono ?_; rintro e w3d ⟨rfl, b3d⟩; have B3d := below_chain B3c b3d; have y3d := (⟨(FA.out _ B3d).1, (FA.out _ B3d).2.1⟩ : _ ∧ _)))
  have p3d := ((pair_first p3b).below (kP _ _) kR b3c).below (kP _ _) kR b3d
  clear HB3a C3a k3a p3b b3b B3b y3b C3b b3c B3c y3c C3c b3d y3d
  go_upto_region 4 with (fail)
  have b4a := BD.out w3d
  have p4a := p3d.below (kP _ _) kR b4a
  have HB4a := Go.Lib.hid (below_chain B3d b4a)
  have h4a := HB.out _ HB4a.out
  have C4a := Go.Lib.hid (api.qry (q := q) (u := z) p4a kR h4a LO.out ⟨A6, n6, c6, rfl, (FA.out _ HB4a.out).2.2.2⟩ HQF.out hz)
  have k4a := (⟨(FA.out _ HB4a.out).2.2.1, (FA.out _ HB4a.out).2.1⟩ : _ ∧ _)
  clear b4a p4a p3d h4a
  go_region_held (fun w' => w'.cell? ⟨gq, 0, none⟩ = some (.slice A6 n6 c6) ∧ w'.cell? ⟨gk, 2, none⟩ = some (.int .i64 z)) (first | exact k4a | exact y4b | exact y4c | exact y4d)
    (first
      | (go_at_call 26; refine (C4a.out).mono ?_; rintro e w4b ⟨A4b, n4b, c4b, rfl, p4b, b4b⟩; have B4b := below_chain HB4a.out b4b; have y4b := (⟨(FA.out _ B4b).2.2.1, (FA.out _ B4b).2.1⟩ : _ ∧ _); obtain ⟨G4b, g4b⟩ := pair_ry p4b; have C4b := Go.Lib.hid (refQry_any W0 gy es G4b (.agg #[.slice A6 n6 c6]) q z w4b g4b (below_chain BW7.out B4b) h400 ⟨A6, n6, c6, rfl, (FA.out _ B4b).2.2.2⟩); clear g4b)
      | (go_at_call 27; refine (C4b.out).mono ?_; rintro e w4c ⟨A4c, n4c, c4c, rfl, o4c, b4c⟩; have B4c := below_chain B4b b4c; have y4c := (⟨(FA.out _ B4c).2.2.1, (FA.out _ B4c).2.1⟩ : _ ∧ _); have C4c := Go.Lib.hid (refSame14_any A4b A4c n4b n4c c4b c4c (qryF es q z) w4c (RdRc.below (pair_ro p4b) b4c) (OwnR.rd o4c (below_chain BW7.out B4c))); clear o4c)
      | (go_at_call 11; refine (C4c.out).mono ?_; rintro e w4d ⟨rfl, b4d⟩; have B4d := below_chain B4c b4d; have y4d := (⟨(FA.out _ B4d).2.2.1, (FA.out _ B4d).2.1⟩ : _ ∧ _)))
  have p4d := ((pair_first p4b).below (kP _ _) kR b4c).below (kP _ _) kR b4d
  clear HB4a C4a k4a p4b b4b B4b y4b C4b b4c B4c y4c C4c b4d y4d
  go_upto_region 5 with (fail)
  obtain ⟨Ay, cy, ky⟩ : ∃ Ay cy, w4d.cell? ⟨gy, 0, none⟩ = some (.slice Ay es.length cy) := by
    obtain ⟨G, A, n, c, hh, hr, _⟩ := pair_ry1 p4d
    have hn : es.length = n := by have := hr.len; rw [rec_len] at this; exact this
    subst hn
    exact ⟨A, c, by rw [cell_of_row _ gy 0 _ _ _ hh]; rfl⟩
  have FB := Go.Lib.hid (fun (wx : World) (b : Below w4d.heap.size w4d wx) => (⟨bcell b ky, (FA.out _ (below_chain B4d b)).1, (FA.out _ (below_chain B4d b)).2.1, (FA.out _ (below_chain B4d b)).2.2.1⟩ : wx.cell? ⟨gy, 0, none⟩ = some (.slice Ay es.length cy) ∧ wx.cell? ⟨gk, 0, none⟩ = some (.string s) ∧ wx.cell? ⟨gk, 2, none⟩ = some (.int .i64 z) ∧ wx.cell? ⟨gq, 0, none⟩ = some (.slice A6 n6 c6)))
  have FQ := Go.Lib.hid (fun (wx : World) (b : Below w4d.heap.size w4d wx) => (FA.out _ (below_chain B4d b)).2.2.2)
  have FW := Go.Lib.hid (fun (wx : World) (b : Below w4d.heap.size w4d wx) => below_chain BW7.out (below_chain B4d b))
  have FZ := Go.Lib.hid (below_chain B7 B4d)
  have b5a := BD.out w4d
  have p5a := p4d.below (kP _ _) kR b5a
  have k5a := FB.out _ b5a
  have C5a := Go.Lib.hid (api.last p5a kR LO.out)
  have HB5a := Go.Lib.hid b5a
  clear ky p4d b5a p5a B4d FA B7
  go_region_held (fun w' => w'.cell? ⟨gy, 0, none⟩ = some (.slice Ay es.length cy) ∧ w'.cell? ⟨gk, 0, none⟩ = some (.string s) ∧ w'.cell? ⟨gk, 2, none⟩ = some (.int .i64 z) ∧ w'.cell? ⟨gq, 0, none⟩ = some (.slice A6 n6 c6)) (first | exact k5a | exact y5b | exact y5c | exact y5d | exact y5e | exact y5f)
    (first
      | (go_at_call 8; refine (C5a.out).mono ?_; rintro e w5b ⟨rfl, p5b, b5b⟩; have B5b := below_chain HB5a.out b5b; have y5b := FB.out _ B5b; have C5b := Go.Lib.hid (api.ver (s := s) (u := z) p5b kR LO.out hs hz); clear p5b)
      | (go_at_call 13; refine (C5b.out).mono ?_; rintro e w5c ⟨rfl, p5c, b5c⟩; have B5c := below_chain B5b b5c; have y5c := FB.out _ B5c; obtain ⟨G5c, g5c⟩ := pair_ry1 p5c; have C5c := Go.Lib.hid (refStr_any W0 gy es G5c s z w5c g5c h400); clear g5c)
      | (go_at_call 20; refine (C5c.out).mono ?_; rintro e w5d ⟨A5d, n5d, c5d, rfl, o5d, b5d⟩; obtain rfl := (OwnR.len o5d : (strF es s z).length = n5d); have B5d := below_chain B5c b5d; have y5d := FB.out _ B5d; have C5d := Go.Lib.hid (api.since (q := q) (a := z) (p5c.below (kP _ _) kR b5d) kR LO.out ⟨A6, n6, c6, rfl, FQ.out _ B5d⟩ HQF.out hz); clear o5d p5c)
      | (go_at_call 28; refine (C5d.out).mono ?_; rintro e w5e ⟨rfl, p5e, b5e⟩; have B5e := below_chain B5d b5e; have y5e := FB.out _ B5e; obtain ⟨G5e, g5e⟩ := pair_ry1 p5e; have C5e := Go.Lib.hid (refSince14_any W0 gy es G5e (.agg #[.slice A6 n6 c6]) q z w5e g5e (FW.out _ B5e) h400 ⟨A6, n6, c6, rfl, FQ.out _ B5e⟩); clear g5e p5e)
      | (go_at_call 29; refine (C5e.out).mono ?_; rintro e w5f ⟨rfl, b5f⟩; have B5f := below_chain B5e b5f; have y5f := FB.out _ B5f))
  go_wp2_with fail
  go_ret
  exact ⟨by simp, below_chain FZ.out B5f⟩
end

end Go.Proofs.YtiplfhmimpkplaaGreat.IxWalk

/-
  Walk of a statement of layer 14: IndexPlays.
-/
namespace Go.Proofs.YtiplfhmimpkplaaGreat.IxWalk
open Go.RowKit Go.WideShapes Go.ChangeShapes Go.Proofs.YtiplfhmimpkplaaGreat.MemRow Go.Proofs.YtiplfhmimpkplaaGreat.Ev Go.Proofs.YtiplfhmimpkplaaGreat.Open Go.Proofs.YtiplfhmimpkplaaGreat.NameMath Go.Proofs.YtiplfhmimpkplaaGreat.NameWalk Go.Proofs.YtiplfhmimpkplaaGreat.EvWalk Go.Proofs.YtiplfhmimpkplaaGreat.NumMem Go.Proofs.YtiplfhmimpkplaaGreat.Qu Go.Proofs.YtiplfhmimpkplaaGreat.QuWalk Go.Proofs.YtiplfhmimpkplaaGreat.SmWalk Go.Proofs.YtiplfhmimpkplaaGreat.BtWalk Go.Proofs.YtiplfhmimpkplaaGreat.DkWalk

/-- Events in a row of the law's own, their rows older than W0. -/
def OoT (W0 : World) (lo : Nat) (E : Option Addr) (i d : Nat) (es : List Ev) : Thing := fun w G => OwnO W0 w lo E i d es ∧ (∀ a, E = some a → G a.block) ∧ ∀ k, G k → k < w.heap.size
theorem ooT_keeps (W0 : World) (lo : Nat) (E : Option Addr) (i d : Nat) (es : List Ev) : Keeps (OoT W0 lo E i d es) :=
  ⟨fun ⟨⟨cs, o, hl, hc⟩, hi, h⟩ hs hk => ⟨⟨cs, own_keep o fun a ha => hk _ (hi a ha), hl, hc⟩, hi, fun k hg => Nat.lt_of_lt_of_le (h k hg) hs⟩, fun h => h.2.2⟩
theorem ooT_of {W0 w w' : World} {lo : Nat} {E : Option Addr} {i d : Nat} {es : List Ev} (h : OwnO W0 w' lo E i d es) (hlo : w.heap.size ≤ lo) : OoT W0 lo E i d es w' (fun k => w.heap.size ≤ k ∧ k < w'.heap.size) :=
  ⟨h, fun a ha => ⟨Nat.le_trans hlo (ownO_lt h a ha).1, (ownO_lt h a ha).2⟩, fun _ hk => hk.2⟩
theorem oo_isb {W0 w : World} {G : Nat → Prop} {Q R : Thing} {lo : Nat} {E : Option Addr} {i d : Nat} {es : List Ev} {a : Int} (h : With (With Q (OoT W0 lo E i d es)) R w G) (hB : Below W0.heap.size W0 w) : IsB w (.agg #[.int .i64 a, .slice E i d]) ⟨a, es⟩ := by
  obtain ⟨_, _, ⟨_, _, _, h, _⟩, _⟩ := h
  exact h.1.isb hB
theorem pair_oo {base : Nat} {W0 w : World} {P Q R : Thing} {lo : Nat} {E : Option Addr} {i d : Nat} {es : List Ev} (h : Pair base w P (With (With Q (OoT W0 lo E i d es)) R)) : OwnO W0 w lo E i d es := by
  obtain ⟨_, _, _, ⟨_, _, ⟨_, _, _, h, _⟩, _⟩, _⟩ := h
  exact h.1
theorem ry_new {base : Nat} {W0 w : World} {P : Thing} (h : Pair base w P NoT) (kp : Keeps P) (hb : base ≤ w.heap.size) : Pair base (w.alloc (.cells #[.slice none 0 0] 34)) P (RyT W0 w.heap.size []) ∧ Below w.heap.size w (w.alloc (.cells #[.slice none 0 0] 34)) := by
  have b := (Below.refl w.heap.size w).alloc (Nat.le_refl _) (.cells #[.slice none 0 0] 34)
  exact ⟨pair_second (pair_more h kp noT_keeps hb b ⟨none, 0, 0, heap_alloc_new w _, (OwnR.nil W0 _ 0).rdo, ⟨Nat.le_refl _, by simp⟩, fun a e => (by cases e), fun _ hk => hk.2⟩), b⟩
theorem ry_add {base : Nat} {W0 w : World} {P : Thing} {gy : Nat} {es : List Ev} {x : Bat} {C : Option Addr} {nC cC lo : Nat} (hp : Pair base w P (RyT W0 gy es)) (kp : Keeps P) (hb : base ≤ w.heap.size) (hW : Below W0.heap.size W0 w) (hv : OwnO W0 w lo C nC cC x.es) (hok : BOk x) (hl : es.length + x.es.length ≤ 400) :
    Calls Tryz.prog 10 #[.pointer (some ⟨gy, 0, none⟩), .agg #[.int .i64 x.a, .slice C nC cC]] w fun e w' => ∃ B m cb, e = .returned (.tuple #[.slice B m cb, .int .i64 (addB es x).1]) ∧ OwnR W0 w' w.heap.size B m cb (addB es x).2.1 ∧ Pair base w' P (RyT W0 gy (addB es x).2.2) ∧ Below base w w' := by
  obtain ⟨F, G, h1, hy, hF, hG, hx⟩ := hp
  have hg : G gy := by
    obtain ⟨_, _, _, _, _, hg, _⟩ := hy
    exact hg
  refine (refAdd14_any W0 gy es G x C nC cC lo w hy hW hv hok hl).mono ?_
  rintro e w' ⟨B, m, cb, rfl, o, hy', ch⟩
  have hc : Ch G w w' := ch.wide fun k e => by rw [e]; exact hg
  exact ⟨B, m, cb, rfl, o, (Pair.left h1 kp hG hF (fun k hk hk2 => hx k hk2 hk) hb hy' hc).swap, ch_below (Below.refl _ _) hc hG hb⟩
def evZ14 : Ev := ⟨⟨#[122]⟩, ⟨#[122]⟩, [], []⟩
theorem z_ok (a : Int) (ha : -9223372036854775808 ≤ a ∧ a ≤ 9223372036854775807) : BOk ⟨a, [evZ14]⟩ :=
  ⟨by intro e he; simp only [List.mem_cons, List.not_mem_nil, or_false] at he; subst he; exact ⟨by decide, by decide, (fun _ h => by cases h), (fun _ h => by cases h), (fun _ h => by cases h)⟩, ha.1, ha.2⟩
theorem z_isb (w : World) (g : Nat) (a : Int) (hg : w.heap[g]? = some (.cells #[.string ⟨#[122]⟩, .string ⟨#[122]⟩, .slice none 0 0, .slice none 0 0] 42 (0, 0))) : IsB w (.agg #[.int .i64 a, .slice (some ⟨g, 0, none⟩) 1 1]) ⟨a, [evZ14]⟩ := by
  refine ⟨_, _, _, rfl, rfl, Nat.le_refl _, by decide, fun _ => ⟨g, 0, rfl, (Array.getElem?_eq_some_iff.1 hg).1, fun i hi => ?_⟩⟩
  have h : ∀ k, w.cell? ⟨g, k, none⟩ = (#[.string ⟨#[122]⟩, .string ⟨#[122]⟩, .slice none 0 0, .slice none 0 0] : Array Value)[k]? := fun k => cell_of_row w g k _ _ _ hg
  obtain rfl : i = 0 := by omega
  exact ⟨none, 0, 0, none, 0, 0, h 0, h 1, h 2, h 3, RdC.nil _, RdC.nil _⟩

section
variable {Ix : Nat → List Ev → Thing} {It : Nat → List Ev → Nat → List Ev → Thing}
set_option maxHeartbeats 16000000 in
set_option maxRecDepth 100000 in
theorem plays_walk (two : ITwo Ix It) (A1 : Option Addr) (n1 c1 : Nat) (l : List Bat) (s : ByteArray) (Cq : Option Addr) (nq cq : Nat) (q0 : List Cl) (z : Int) (w0 : World) (r1 : RdBs w0 A1 n1 c1 l) (o1 : ∀ x ∈ l, BOk x) (hs : s.size ≤ maxLen) (hq : RdQ w0 Cq nq cq q0) (hqo : QOk q0) (hz : -9223372036854775808 ≤ z ∧ z ≤ 9223372036854775807) :
    Calls Tryz.prog 3 #[.slice A1 n1 c1, .agg #[.string s, .slice Cq nq cq, .int .i64 z]] w0 fun e w' => e = .returned (.bool true) ∧ Below w0.heap.size w0 w' := by
  have hn1 := r1.le
  unfold maxLen at hn1
  have api := two.toIApi
  have kP := two.keeps
  have HN1 := Go.Lib.hid r1.len
  have HOK1 := Go.Lib.hid (bats_ok o1)
  have R1 := Go.Lib.hid r1
  have HQ : Hid (RdQ w0 Cq nq cq q0) := Go.Lib.hid hq
  have HQO := Go.Lib.hid hqo
  have al := (Below.refl w0.heap.size w0).alloc (Nat.le_refl _) (.cells #[.string s, .slice Cq nq cq, .int .i64 z] 27)
  have bx := heap_alloc_new w0 (.cells #[.string s, .slice Cq nq cq, .int .i64 z] 27)
  clear o1 hq hqo r1
  go_enter Tryz.func3, Tryz.ntmps3
  go_upto_region 1 with (fail)
  have hlt1 : w0.heap.size < (w0.alloc (.cells #[.string s, .slice Cq nq cq, .int .i64 z] 27)).heap.size := by simp
  generalize w0.alloc (.cells #[.string s, .slice Cq nq cq, .int .i64 z] 27) = w1 at *
  have HA := Go.Lib.hid (fun (wx : World) (b : Below w1.heap.size w1 wx) => (b.block _ hlt1).trans bx)
  have AL := Go.Lib.hid (fun (wx : World) (b : Below w1.heap.size w1 wx) => al.trans (b.mono al.size))
  clear bx
  go_wp2_with fail
  refine (shown14_any api w1).mono ?_
  rintro e w2 ⟨rfl, B2⟩
  go_wp2_with fail
  refine (api.new (base := w1.heap.size) (Q := NoT) (G := fun _ => False) (fun k h => h) noT_keeps (fun k h => h.elim) B2.size).mono ?_
  rintro e w3 ⟨g, rfl, p3, b3⟩
  have B3 := below_chain B2 b3
  obtain ⟨p4, b4⟩ := ry_new (W0 := w0) p3 (kP _ _) B3.size
  have B4 := below_chain B3 b4
  clear B2 p3 b3 B3 b4
  go_upto_region 4 with (fail)
  generalize w3.alloc (.cells #[.slice none 0 0] 34) = w4 at *
  generalize w3.heap.size = gy at *
  go_wp2_with fail
  go_loopw [6, 8, 9, 10, 11, 12, 13, 14, 15] (fun pv iv _ _ _ _ _ _ _ wr => ∃ (g j : Nat) (es : List Ev), pv = .pointer (some ⟨g, 0, none⟩) ∧ iv = .int .i64 (j : Int) ∧ j ≤ n1 ∧ j ≤ 25 ∧ Hid (es.length ≤ 8 * j) ∧ Hid (LogOk es) ∧ Pair w1.heap.size wr (Ix g es) (RyT w0 gy es) ∧ Below w1.heap.size w1 wr) (fun _ iv _ _ _ _ _ _ _ _ => n1 - (intOf iv).toNat)
  case atStart => exact ⟨g, 0, [], rfl, rfl, Nat.zero_le _, by omega, Go.Lib.hid (Nat.le_refl _), Go.Lib.hid logOk_nil, p4, B4⟩
  case round =>
    obtain ⟨g, j, es, rfl, rfl, hjn, hjK, HL, LO, pj, Bj⟩ := hrel
    clear p4 B4
    have kR := fun es => ryT_keeps w0 gy es
    go_upto_region 7 with (fail)
    go_cut [33] (fun v wx => v = .bool (decide (j < n1 ∧ j < 25)) ∧ wr = wx)
    case first =>
      by_cases h1 : j < n1
      · have i1 : (j : Int) < n1 := by omega
        by_cases h2 : j < 25
        · have i2 : (j : Int) < 25 := by omega
          go_wp2_with fail
          go_meet
          exact ⟨by simp [h1, h2], rfl⟩
        · have i2 : ¬ (j : Int) < 25 := by omega
          go_wp2_with fail
          go_meet
          exact ⟨by simp [h1, h2], rfl⟩
      · have i1 : ¬ (j : Int) < n1 := by omega
        go_wp2_with fail
        go_meet
        exact ⟨by simp [h1], rfl⟩
    obtain ⟨rfl, rfl⟩ := hcut
    by_cases hc : j < n1 ∧ j < 25
    · rw [show decide (j < n1 ∧ j < 25) = true by simpa using hc]
      obtain ⟨hj1, hj2⟩ := hc
      have i1 : (j : Int) < n1 := by omega
      have ht : Int.tmod (j : Int) 5 = ((j % 5 : Nat) : Int) := by
        rw [Int.tmod_eq_emod_of_nonneg (by omega)]
        rfl
      have hl2 : es.length ≤ 200 := by have := HL.out; omega
      go_upto_if 38 with (fail)
      go_cut [6, 9] (fun v _ wx => ∃ ge : Nat, v = .pointer (some ⟨ge, 0, none⟩) ∧ Pair w1.heap.size wx (Ix ge es) (RyT w0 gy es) ∧ Below w1.heap.size w1 wx)
      case first =>
        by_cases h8 : j % 5 = 4
        · rw [h8] at ht
          have ht : Int.tmod (j : Int) 5 = 4 := ht
          go_wp2_with fail
          refine (two.clone pj (kR _) Bj.size LO.out).mono ?_
          rintro e w5 ⟨gn, rfl, p5, b5⟩
          have B5 := below_chain Bj b5
          clear pj Bj b5
          go_wp2_with fail
          refine (two.tlast p5 (kR _) LO.out).mono ?_
          rintro e w6 ⟨rfl, p6, b6⟩
          have B6 := below_chain B5 b6
          obtain ⟨p7, b7⟩ := bx_new (two.tkeeps _ _ _ _) (kR _) B6.size p6 #[.string ⟨#[122]⟩, .string ⟨#[122]⟩, .slice none 0 0, .slice none 0 0] 42
          have B7 := below_chain B6 b7
          have CA := Go.Lib.hid (two.tadd (x := ⟨(es.length : Nat), [evZ14]⟩) p7 (with_keeps (kR _) (bxT_keeps _ _ _)) B7.size LO.out (by simp only [List.length_cons, List.length_nil]; omega) (fun w' G hq _ => by obtain ⟨_, _, _, hbx, _⟩ := hq; exact z_isb w' _ _ hbx.1) (z_ok _ (by omega)))
          clear p5 B5 p6 b6 B6 p7 b7
          go_wp2_with fail
          refine (CA.out).mono ?_
          rintro e w8 ⟨A8, n8, c8, rfl, p8, b8⟩
          have B8 := B7.trans b8
          have p9 := pairImpL (two.fst _ _ _ _) (pairImpL (two.swap _ _ _ _) (pair_first (pair_first p8)))
          clear p8 B7 b8 CA
          go_wp2_with fail
          go_meet
          exact ⟨gn, rfl, p9, B8⟩
        · have ht : ¬ Int.tmod (j : Int) 5 = 4 := by
            rw [ht]
            omega
          go_wp2_with fail
          go_meet
          exact ⟨g, rfl, pj, Bj⟩
      case rest =>
        obtain ⟨ge, rfl, p1, B1⟩ := hcut
        clear pj Bj ht
        obtain ⟨bi, oi, rfl, _, kk⟩ := RdBs.at_ R1.out (by omega)
        obtain ⟨E, nE, cE, y0', y1', rE⟩ := kk j hj1
        have BB := AL.out _ B1
        have y0 := bcell BB y0'
        have y1 := bcell BB y1'
        have hxo := HOK1.out j
        generalize l.getD j noBat = x at *
        have CF := Go.Lib.hid (few14_any (.agg #[.int .i64 x.a, .slice E nE cE]) x w0 wc ⟨E, nE, cE, rfl, rE⟩ BB)
        have HXO := Go.Lib.hid hxo
        have Y0 := Go.Lib.hid y0'
        clear kk y0' y1' rE hxo BB
        go_wp2_with fail
        refine (CF.out).mono ?_
        rintro e w4 ⟨A4, n4, c4, rfl, o4, b4⟩
        have p4 := pair_more p1 (kP _ _) (kR _) B1.size b4 (ooT_of o4 (by omega))
        have k4 := with_keeps (kR es) (ooT_keeps w0 (wc.heap.size + 1 + 1 + 1) A4 n4 c4 (few8 x.es))
        have B4 := below_chain B1 b4
        obtain ⟨p5, b5⟩ := bx_new (kP _ _) k4 B4.size p4 #[.int .i64 x.a, .slice A4 n4 c4] 45
        have B5 := below_chain B4 b5
        have hlen8 := few8_len x.es
        have XK := Go.Lib.hid (fewD_all HXO.out)
        have hxa := HXO.out.a
        have x5 := BxAt.new w4 (.int .i64 x.a) (.slice A4 n4 c4)
        have ya := bcell (AL.out _ B5) Y0.out
        generalize few8 x.es = xe at *
        generalize wc.heap.size + 1 + 1 + 1 = lo at *
        clear p1 B1 CF o4 b4 p4 B4 b5 y0 y1 HXO
        go_upto_region 16 with (fail)
        generalize w4.alloc (.cells #[.int .i64 x.a, .slice A4 n4 c4] 45) = w5 at *
        generalize w4.heap.size = gc at *
        go_upto_if 61 with (fail)
        have hls := AL.out
        go_cut [10] (fun v wx => v = .pointer (some ⟨gc, 0, none⟩) ∧ ∃ a : Int, (-9223372036854775808 ≤ a ∧ a ≤ 9223372036854775807) ∧ Pair w1.heap.size wx (Ix ge es) (With (With (RyT w0 gy es) (OoT w0 lo A4 n4 c4 xe)) (BxT gc #[.int .i64 a, .slice A4 n4 c4] 45)) ∧ Below w1.heap.size w1 wx)
        case first =>
          by_cases hz0 : 0 ≤ x.a
          · obtain ⟨Ay, cy, ky⟩ : ∃ Ay cy, w5.cell? ⟨gy, 0, none⟩ = some (.slice Ay es.length cy) := by
              obtain ⟨G, A, n, c, hh, hr, _⟩ := pair_ry (pair_first p5)
              have hn : es.length = n := by have := hr.len; rw [rec_len] at this; exact this
              subst hn
              exact ⟨A, c, by rw [cell_of_row _ gy 0 _ _ _ hh]; rfl⟩
            have z0 := x5.frozen 0
            have k0 := x5.c0
            obtain ⟨p7, b7⟩ := lg_put (v := .int .i64 (es.length : Nat)) (i := 0) (kP _ _) k4 p5 (x5.set0 (.int .i64 (es.length : Nat)))
            have P7 := Go.Lib.hid p7
            have B7 := B5.trans b7
            clear p5 B5 x5 p7 b7 hls
            go_wp2_with fail
            go_meet
            exact ⟨rfl, _, by omega, P7.out, B7⟩
          · clear hls
            go_wp2_with fail
            go_meet
            exact ⟨rfl, x.a, hxa, p5, B5⟩
        case rest =>
          obtain ⟨rfl, a, ha, p6, B6⟩ := hcut
          clear p5 B5 x5 ya hls
          have x6 : BxAt wc gc (.int .i64 a) (.slice A4 n4 c4) := pair_bx p6
          have k0 := x6.c0
          have k1 := x6.c1
          have hlj := HL.out
          have BK : Hid (BOk ⟨a, xe⟩) := Go.Lib.hid ⟨XK.out, ha.1, ha.2⟩
          have CA := Go.Lib.hid (api.add (x := ⟨a, xe⟩) p6 (with_keeps k4 (bxT_keeps _ _ _)) B6.size LO.out (by simp only; omega) (fun _ _ hq hb' => oo_isb hq (AL.out _ (B6.trans hb'))) BK.out)
          have HM := Go.Lib.hid (logOk_more (x := ⟨a, xe⟩) (N := 8 * j) LO.out hlj hlen8 (by omega))
          clear p6 x6 XK hlj
          go_wp2_with fail
          refine (CA.out).mono ?_
          rintro e w8 ⟨A8, n8, c8, rfl, p8, b8⟩
          have B8 := B6.trans b8
          have x8 : BxAt w8 gc (.int .i64 a) (.slice A4 n4 c4) := pair_bx (pair_first p8)
          have o8 := pair_oo (pair_first p8)
          have pC := (pair_rot (kP _ _) (pair_imp th_drop (pair_imp th_drop p8))).swap
          have CY := Go.Lib.hid (ry_add (x := ⟨a, xe⟩) pC (with_keeps (kP _ _) (roT_keeps _ _ _ _)) B8.size (AL.out _ B8) o8 BK.out (by simp only; omega))
          have k0 := x8.c0
          have k1 := x8.c1
          clear CA B6 p8 b8 x8 o8 pC BK
          go_wp2_with fail
          refine (CY.out).mono ?_
          rintro e w9 ⟨A9, n9, c9, rfl, o9, p9, b9⟩
          have B9 := B8.trans b9
          have r8 : RdRc w9 A8 n8 c8 (addB es ⟨a, xe⟩).2.1 := by
            obtain ⟨_, _, ⟨_, _, _, ⟨_, _, hr, _⟩, _⟩, _⟩ := p9
            exact hr.rd
          have r9 := OwnR.rd o9 (AL.out _ B9)
          have p10 := (pair_first p9.swap).swap
          have P10 := Go.Lib.hid p10
          have CS := Go.Lib.hid (refSame14_any A8 A9 n8 n9 c8 c9 (addB es ⟨a, xe⟩).2.1 w9 r8 r9)
          clear CY B8 o9 p9 b9 r8 r9 p10 k0 k1
          generalize addB es ⟨a, xe⟩ = R at *
          obtain ⟨co, rs, es2⟩ := R
          simp only at P10 HM CS
          have hco : (co != co) = false := by simp
          go_wp2_with fail
          refine (CS.out).mono ?_
          rintro e w10 ⟨rfl, b10⟩
          have B10 := below_chain B9 b10
          have P11 := Go.Lib.hid (P10.out.below (kP _ _) (kR _) b10)
          clear CS B9 b10 P10
          go_wp2_with fail
          go_roundw
          case rel => exact ⟨ge, j + 1, es2, rfl, by go_num, by omega, by omega, Go.Lib.hid (by have := HM.out.2; omega), Go.Lib.hid HM.out.1, P11.out, B10⟩
          case measure => simp [intOf]; omega
    · rw [show decide (j < n1 ∧ j < 25) = false by simpa using hc]
      have hb := HA.out _ Bj
      have e0 : wr.cell? ⟨w0.heap.size, 0, none⟩ = some (.string s) := by rw [cell_of_row wr _ 0 _ _ _ hb]; rfl
      have e1 : wr.cell? ⟨w0.heap.size, 1, none⟩ = some (.slice Cq nq cq) := by rw [cell_of_row wr _ 1 _ _ _ hb]; rfl
      have e2 : wr.cell? ⟨w0.heap.size, 2, none⟩ = some (.int .i64 z) := by rw [cell_of_row wr _ 2 _ _ _ hb]; rfl
      have CZ := Go.Lib.hid (alike_any api pj Bj.size LO.out (AL.out _ Bj) hs HQ.out HQO.out hz)
      have BZ := Go.Lib.hid (AL.out _ Bj)
      clear hc hb pj
      go_wp2_with fail
      refine (CZ.out).mono ?_
      rintro e w5 ⟨rfl, b5⟩
      go_wp2_with fail
      go_ret
      exact ⟨rfl, below_chain BZ.out b5⟩
end

end Go.Proofs.YtiplfhmimpkplaaGreat.IxWalk

/-
  The laws' word of layer 14: spoil; rows of events whose own rows may be changed.
-/
namespace Go.Proofs.YtiplfhmimpkplaaGreat.IxWalk
open Go.RowKit Go.WideShapes Go.ChangeShapes Go.Proofs.YtiplfhmimpkplaaGreat.MemRow Go.Proofs.YtiplfhmimpkplaaGreat.Ev Go.Proofs.YtiplfhmimpkplaaGreat.Open Go.Proofs.YtiplfhmimpkplaaGreat.NameMath Go.Proofs.YtiplfhmimpkplaaGreat.NameWalk Go.Proofs.YtiplfhmimpkplaaGreat.EvWalk Go.Proofs.YtiplfhmimpkplaaGreat.NumMem Go.Proofs.YtiplfhmimpkplaaGreat.Qu Go.Proofs.YtiplfhmimpkplaaGreat.QuWalk Go.Proofs.YtiplfhmimpkplaaGreat.SmWalk Go.Proofs.YtiplfhmimpkplaaGreat.BtWalk Go.Proofs.YtiplfhmimpkplaaGreat.DkWalk

/-- The blocks G hold as many cells of their kind as they did. -/
def Sh (G : Nat → Prop) (w w' : World) : Prop := ∀ b, G b → ∀ cur t, w.heap[b]? = some (.cells cur t (0, 0)) → ∃ cur', w'.heap[b]? = some (.cells cur' t (0, 0)) ∧ cur'.size = cur.size
theorem Sh.refl (G : Nat → Prop) (w : World) : Sh G w w := fun _ _ cur _ h => ⟨cur, h, rfl⟩
theorem Sh.trans {G : Nat → Prop} {w w1 w2 : World} (h1 : Sh G w w1) (h2 : Sh G w1 w2) : Sh G w w2 := fun b hb cur t h => by
  obtain ⟨c1, e1, s1⟩ := h1 b hb cur t h
  obtain ⟨c2, e2, s2⟩ := h2 b hb c1 t e1
  exact ⟨c2, e2, s2.trans s1⟩
theorem Sh.set (G : Nat → Prop) (w : World) (g i : Nat) (v : Value) : Sh G w (w.setCell ⟨g, i, none⟩ v) := fun b _ cur t h => by
  by_cases e : g = b
  · subst e
    exact ⟨cur.setIfInBounds i v, by simp only [World.setCell, Array.getElem?_modify, h]; rfl, by simp⟩
  · exact ⟨cur, by simp only [World.setCell, Array.getElem?_modify, if_neg e]; exact h, rfl⟩
theorem Sh.same {G : Nat → Prop} {w w' : World} (h : ∀ k, G k → w'.heap[k]? = w.heap[k]?) : Sh G w w' := fun b hb cur _ hc => ⟨cur, (h b hb).trans hc, rfl⟩
theorem Wr.sh {w w' : World} {G : Nat → Prop} {A : Option Addr} {n k : Nat} {t : TypeId} (h : Wr w G A n k t) (hs : Sh G w w') : Wr w' G A n k t := fun hn => by
  obtain ⟨b, o, cur, e, hg, hb, hz⟩ := h hn
  obtain ⟨cur', e', s'⟩ := hs b hg cur t hb
  exact ⟨b, o, cur', e, hg, e', by rw [s']; exact hz⟩
theorem Wr.wide {w : World} {G G' : Nat → Prop} {A : Option Addr} {n k : Nat} {t : TypeId} (h : Wr w G A n k t) (hs : ∀ k, G k → G' k) : Wr w G' A n k t := fun hn => by
  obtain ⟨b, o, cur, e, hg, hb, hz⟩ := h hn
  exact ⟨b, o, cur, e, hs b hg, hb, hz⟩
theorem ch_set {F : Nat → Prop} {w w1 : World} (h : Ch F w w1) {g : Nat} (hg : F g) (i : Nat) (v : Value) : Ch F w (w1.setCell ⟨g, i, none⟩ v) :=
  h.then_grown (boxGrown w1 g i v) fun r e => by injection e with e; subst e; exact .inl (.inl hg)
end Go.Proofs.YtiplfhmimpkplaaGreat.IxWalk

/-
  Layer 14, IndexOwn: rows of events (or of records) whose own rows may be changed; copies of events; what is wanted; as things.
-/
namespace Go.Proofs.YtiplfhmimpkplaaGreat.IxWalk
open Go.RowKit Go.WideShapes Go.ChangeShapes Go.Proofs.YtiplfhmimpkplaaGreat.MemRow Go.Proofs.YtiplfhmimpkplaaGreat.Ev Go.Proofs.YtiplfhmimpkplaaGreat.Open Go.Proofs.YtiplfhmimpkplaaGreat.NameMath Go.Proofs.YtiplfhmimpkplaaGreat.NameWalk Go.Proofs.YtiplfhmimpkplaaGreat.EvWalk Go.Proofs.YtiplfhmimpkplaaGreat.NumMem Go.Proofs.YtiplfhmimpkplaaGreat.Qu Go.Proofs.YtiplfhmimpkplaaGreat.QuWalk Go.Proofs.YtiplfhmimpkplaaGreat.SmWalk Go.Proofs.YtiplfhmimpkplaaGreat.BtWalk Go.Proofs.YtiplfhmimpkplaaGreat.DkWalk

/-! ### Rows whose events' rows may be changed -/
def SpC (w : World) (G2 : Nat → Prop) (b o : Nat) : Prop := ∃ s t T nT cT F nF cF, w.cell? ⟨b, o, none⟩ = some (.string s) ∧ w.cell? ⟨b, o + 1, none⟩ = some (.string t) ∧ w.cell? ⟨b, o + 2, none⟩ = some (.slice T nT cT) ∧ w.cell? ⟨b, o + 3, none⟩ = some (.slice F nF cF) ∧ Wr w G2 T nT 1 9 ∧ Wr w G2 F nF 2 85 ∧ nT ≤ maxLen ∧ nF ≤ maxLen
def SpR (w : World) (G1 G2 : Nat → Prop) (A : Option Addr) (n c st off : Nat) (hd : Nat → List Value) : Prop :=
  n ≤ c ∧ c ≤ maxLen ∧ (0 < n → ∃ b o, A = some ⟨b, o, none⟩ ∧ b < w.heap.size ∧ G1 b ∧ ∀ i, i < n → (∀ (j : Nat) (v : Value), (hd i)[j]? = some v → w.cell? ⟨b, o + i * st + j, none⟩ = some v) ∧ SpC w G2 b (o + i * st + off))
theorem SpR.sh {w w' : World} {G1 G2 : Nat → Prop} {A : Option Addr} {n c st off : Nat} {hd : Nat → List Value} (h : SpR w G1 G2 A n c st off hd) (hs : w.heap.size ≤ w'.heap.size) (h1 : ∀ k, G1 k → w'.heap[k]? = w.heap[k]?) (h2 : Sh G2 w w') : SpR w' G1 G2 A n c st off hd :=
  ⟨h.1, h.2.1, fun hn => by
    obtain ⟨b, o, hA, hlt, hg, hc⟩ := h.2.2 hn
    have kk : ∀ (j : Nat) (v : Value), w.cell? ⟨b, j, none⟩ = some v → w'.cell? ⟨b, j, none⟩ = some v := fun j v hv => by
      have e := h1 b hg
      exact (World.cell?_of_block (w := w) (a := ⟨b, j, none⟩) e).trans hv
    refine ⟨b, o, hA, Nat.lt_of_lt_of_le hlt hs, hg, fun i hi => ?_⟩
    obtain ⟨k0, s, t, T, nT, cT, F, nF, cF, k1, k2, k3, k4, k5, k6, k7, k8⟩ := hc i hi
    exact ⟨fun j v hv => kk _ _ (k0 j v hv), s, t, T, nT, cT, F, nF, cF, kk _ _ k1, kk _ _ k2, kk _ _ k3, kk _ _ k4, k5.sh h2, k6.sh h2, k7, k8⟩⟩
def SpT (A : Option Addr) (n c st off : Nat) (hd : Nat → List Value) : Thing := fun w G => ∃ G1 G2 : Nat → Prop, SpR w G1 G2 A n c st off hd ∧ (∀ k, G1 k → G k) ∧ (∀ k, G2 k → G k) ∧ (∀ k, G1 k → ¬ G2 k) ∧ ∀ k, G k → k < w.heap.size
theorem spT_keeps (A : Option Addr) (n c st off : Nat) (hd : Nat → List Value) : Keeps (SpT A n c st off hd) :=
  ⟨fun ⟨G1, G2, h, i1, i2, i3, i4⟩ hs hk => ⟨G1, G2, h.sh hs (fun k hk1 => hk k (i1 k hk1)) (Sh.same fun k hk2 => hk k (i2 k hk2)), i1, i2, i3, fun k hg => Nat.lt_of_lt_of_le (i4 k hg) hs⟩, fun ⟨_, _, _, _, _, _, h⟩ => h⟩
/-- Records that a call gave may be changed. -/
theorem sp_ro (A : Option Addr) (n c : Nat) (rs : List Rc) : Imp (RoT A n c rs) (SpT A n c 6 2 (fun i => [.int .i64 (rs.getD i noRc).pos, .int .i64 (rs.getD i noRc).ver])) := fun w G ⟨G1, G2, h, i1, i2, i3, i4⟩ =>
  ⟨G1, G2, ⟨h.2.1, h.2.2.1, fun hn => by
    obtain ⟨b, o, hA, hlt, hg, hc⟩ := h.2.2.2 hn
    refine ⟨b, o, hA, hlt, hg, fun i hi => ?_⟩
    obtain ⟨T, nT, cT, F, nF, cF, k0, k1, k2, k3, k4, k5, k6, k7, k8, k9⟩ := hc i hi
    refine ⟨fun j v hv => ?_, _, _, T, nT, cT, F, nF, cF, k2, k3, k4, k5, k8, k9, RdC.le k6, RdC.le k7⟩
    match j with
    | 0 => injection hv with hv; rw [← hv]; exact k0
    | 1 => injection hv with hv; rw [← hv]; exact k1
    | j + 2 => cases hv⟩, i1, i2, i3, i4⟩

/-! ### Copies of events -/
/-- Cells of events whose rows are the law's own, in the blocks G2. -/
def EwR (w : World) (G2 : Nat → Prop) : List Ev → List Value → Prop
  | [], cs => cs = []
  | e :: es, cs => ∃ T nT cT F nF cF cs', cs = .string e.s :: .string e.t :: .slice T nT cT :: .slice F nF cF :: cs' ∧ RdS w T nT cT e.tags ∧ RdF w F nF cF e.fs ∧ Wr w G2 T nT 1 9 ∧ Wr w G2 F nF 2 85 ∧ EwR w G2 es cs'
theorem EwR.keep {w w' : World} {G2 G3 : Nat → Prop} (hk : ∀ k, G2 k → w'.heap[k]? = w.heap[k]?) (hw : ∀ k, G2 k → G3 k) : ∀ (es : List Ev) (cs : List Value), EwR w G2 es cs → EwR w' G3 es cs
  | [], _, h => h
  | _ :: es, _, ⟨T, nT, cT, F, nF, cF, cs', e, h1, h2, h3, h4, h⟩ => ⟨T, nT, cT, F, nF, cF, cs', e, h3.rd h1 hk, h4.rd h2 hk, (h3.keep hk).wide hw, (h4.keep hk).wide hw, EwR.keep hk hw es cs' h⟩
theorem EwR.snoc {w : World} {G2 : Nat → Prop} {e : Ev} {T F : Option Addr} {nT cT nF cF : Nat} (h1 : RdS w T nT cT e.tags) (h2 : RdF w F nF cF e.fs) (h3 : Wr w G2 T nT 1 9) (h4 : Wr w G2 F nF 2 85) :
    ∀ (es : List Ev) (cs : List Value), EwR w G2 es cs → EwR w G2 (es ++ [e]) (cs ++ [.string e.s, .string e.t, .slice T nT cT, .slice F nF cF])
  | [], cs, h => by
    obtain rfl : cs = [] := h
    exact ⟨T, nT, cT, F, nF, cF, [], rfl, h1, h2, h3, h4, rfl⟩
  | x :: es, cs, ⟨T1, n1, c1, F1, m1, d1, cs', hc, p1, p2, p3, p4, h⟩ => by
    subst hc
    exact ⟨T1, n1, c1, F1, m1, d1, cs' ++ [.string e.s, .string e.t, .slice T nT cT, .slice F nF cF], rfl, p1, p2, p3, p4, EwR.snoc h1 h2 h3 h4 es cs' h⟩
theorem EwR.at_ {w : World} {G2 : Nat → Prop} : ∀ (es : List Ev) (cs : List Value), EwR w G2 es cs → ∀ i, i < es.length →
    ∃ T nT cT F nF cF, cs[i * 4]? = some (.string (es.getD i noEv).s) ∧ cs[i * 4 + 1]? = some (.string (es.getD i noEv).t) ∧ cs[i * 4 + 2]? = some (.slice T nT cT) ∧ cs[i * 4 + 3]? = some (.slice F nF cF) ∧ RdS w T nT cT (es.getD i noEv).tags ∧ RdF w F nF cF (es.getD i noEv).fs ∧ Wr w G2 T nT 1 9 ∧ Wr w G2 F nF 2 85
  | [], _, _, i, hi => by simp at hi
  | e :: es, cs, ⟨T, nT, cT, F, nF, cF, cs', hc, o1, o2, o3, o4, h⟩, i, hi => by
    subst hc
    cases i with
    | zero => exact ⟨T, nT, cT, F, nF, cF, rfl, rfl, rfl, rfl, o1, o2, o3, o4⟩
    | succ i =>
      obtain ⟨T1, n1, c1, F1, m1, d1, q0, q1, q2, q3, p1, p2, p3, p4⟩ := EwR.at_ es cs' h i (by simpa using hi)
      have e4 : (i + 1) * 4 = i * 4 + 4 := by omega
      rw [e4]
      exact ⟨T1, n1, c1, F1, m1, d1, by simpa using q0, by simpa using q1, by simpa using q2, by simpa using q3, by simpa using p1, by simpa using p2, p3, p4⟩
def EwT (lo : Nat) (E : Option Addr) (n c : Nat) (es : List Ev) : Thing := fun w G => ∃ (G2 : Nat → Prop) (cs : List Value), OwnC 4 w lo 42 E n c cs ∧ es.length = n ∧ EwR w G2 es cs ∧ (∀ a, E = some a → G a.block ∧ ¬ G2 a.block) ∧ (∀ k, G2 k → G k) ∧ ∀ k, G k → k < w.heap.size
theorem ewT_keeps (lo : Nat) (E : Option Addr) (n c : Nat) (es : List Ev) : Keeps (EwT lo E n c es) :=
  ⟨fun ⟨G2, cs, o, hl, hr, h1, h2, h3⟩ hs hk => ⟨G2, cs, own_keep o fun a ha => hk _ (h1 a ha).1, hl, EwR.keep (fun k hg => hk k (h2 k hg)) (fun _ h => h) es cs hr, h1, h2, fun k hg => Nat.lt_of_lt_of_le (h3 k hg) hs⟩, fun ⟨_, _, _, _, _, _, _, h⟩ => h⟩
theorem ew_rd {w : World} {G : Nat → Prop} {lo : Nat} {E : Option Addr} {n c : Nat} {es : List Ev} (h : EwT lo E n c es w G) : RdE w E n c es := by
  obtain ⟨G2, cs, o, hl, hr, _⟩ := h
  have r := OwnC.rd o
  refine ⟨hl, r.2.1, r.2.2.1, fun hn => ?_⟩
  obtain ⟨b, a, hA, hlt, hcell⟩ := RdC.at_ r (by omega) hn
  refine ⟨b, a, hA, hlt, fun i hi => ?_⟩
  obtain ⟨T, nT, cT, F, nF, cF, q0, q1, q2, q3, p1, p2, _⟩ := EwR.at_ es cs hr i (by omega)
  exact ⟨T, nT, cT, F, nF, cF, hcell _ _ q0, hcell _ _ q1, hcell _ _ q2, hcell _ _ q3, p1, p2⟩
theorem sp_ew (lo : Nat) (E : Option Addr) (n c : Nat) (es : List Ev) : Imp (EwT lo E n c es) (SpT E n c 4 0 (fun _ => [])) := fun w G ⟨G2, cs, o, hl, hr, h1, h2, h3⟩ => by
  have r := OwnC.rd o
  refine ⟨fun k => ∃ a, E = some a ∧ a.block = k, G2, ⟨r.2.1, r.2.2.1, fun hn => ?_⟩, fun k ⟨a, e, hk⟩ => by rw [← hk]; exact (h1 a e).1, h2, fun k ⟨a, e, hk⟩ => by rw [← hk]; exact (h1 a e).2, h3⟩
  obtain ⟨b, a, hA, hlt, hcell⟩ := RdC.at_ r (by omega) hn
  refine ⟨b, a, hA, hlt, ⟨_, hA, rfl⟩, fun i hi => ?_⟩
  obtain ⟨T, nT, cT, F, nF, cF, q0, q1, q2, q3, p1, p2, p3, p4⟩ := EwR.at_ es cs hr i (by omega)
  exact ⟨fun j v hv => (by cases hv), _, _, T, nT, cT, F, nF, cF, hcell _ _ q0, hcell _ _ q1, hcell _ _ q2, hcell _ _ q3, p3, p4, RdC.le p1, RdC.le p2⟩

/-! ### What is wanted -/
/-- Records in a row of the law's own, their rows older than W0. -/
def WnT (W0 : World) (lo : Nat) (A : Option Addr) (n c : Nat) (rs : List Rc) : Thing := fun w G => OwnR W0 w lo A n c rs ∧ (∀ a, A = some a → G a.block) ∧ ∀ k, G k → k < w.heap.size
theorem wnT_keeps (W0 : World) (lo : Nat) (A : Option Addr) (n c : Nat) (rs : List Rc) : Keeps (WnT W0 lo A n c rs) :=
  ⟨fun ⟨⟨cs, o, hl, hc⟩, hi, h⟩ hs hk => ⟨⟨cs, own_keep o fun a ha => hk _ (hi a ha), hl, hc⟩, hi, fun k hg => Nat.lt_of_lt_of_le (h k hg) hs⟩, fun h => h.2.2⟩
theorem pair_wn {base : Nat} {W0 w : World} {P Q : Thing} {lo : Nat} {A : Option Addr} {n c : Nat} {rs : List Rc} (h : Pair base w P (With Q (WnT W0 lo A n c rs))) : OwnR W0 w lo A n c rs := by
  obtain ⟨_, _, _, ⟨_, _, _, hr, _⟩, _⟩ := h
  exact hr.1

end Go.Proofs.YtiplfhmimpkplaaGreat.IxWalk

/-
  Layer 14, IndexOwn: events that are being copied; what is wanted grows.
-/
namespace Go.Proofs.YtiplfhmimpkplaaGreat.IxWalk
open Go.RowKit Go.WideShapes Go.ChangeShapes Go.Proofs.YtiplfhmimpkplaaGreat.MemRow Go.Proofs.YtiplfhmimpkplaaGreat.Ev Go.Proofs.YtiplfhmimpkplaaGreat.Open Go.Proofs.YtiplfhmimpkplaaGreat.NameMath Go.Proofs.YtiplfhmimpkplaaGreat.NameWalk Go.Proofs.YtiplfhmimpkplaaGreat.EvWalk Go.Proofs.YtiplfhmimpkplaaGreat.NumMem Go.Proofs.YtiplfhmimpkplaaGreat.Qu Go.Proofs.YtiplfhmimpkplaaGreat.QuWalk Go.Proofs.YtiplfhmimpkplaaGreat.SmWalk Go.Proofs.YtiplfhmimpkplaaGreat.BtWalk Go.Proofs.YtiplfhmimpkplaaGreat.DkWalk

theorem few8_ten {es : List Ev} {e : Ev} (h : e ∈ few8 es) : e.tags.length ≤ 10 ∧ e.fs.length ≤ 10 := by
  obtain ⟨d, _, rfl⟩ := List.mem_map.1 h
  simp only [fewD, List.length_take]
  omega
/-- Copies of the first events, in the batch whose box is g8; what was there at w8 stands, but for that box. hi: all of it is older. -/
structure EwI (w8 wr : World) (hi g8 : Nat) (a : Int) (es : List Ev) (E : Option Addr) (n c : Nat) : Prop where
  ch : Ch (fun k => k = g8) w8 wr
  bx : BxAt wr g8 (.int .i64 a) (.slice E n c)
  lo : g8 < w8.heap.size
  hi8 : w8.heap.size ≤ hi
  hir : hi ≤ wr.heap.size
  ew : ∃ (G2 : Nat → Prop) (cs : List Value), OwnC 4 wr w8.heap.size 42 E n c cs ∧ es.length = n ∧ EwR wr G2 es cs ∧ (∀ k, G2 k → w8.heap.size ≤ k ∧ k < hi) ∧ ∀ b, E = some b → b.block < hi ∧ ¬ G2 b.block
section
variable {w8 wr w' w1 : World} {hi g8 : Nat} {a : Int} {es : List Ev} {E : Option Addr} {n c : Nat}
theorem EwI.start (h : BxAt w8 g8 (.int .i64 a) (.slice none 0 0)) : EwI w8 w8 w8.heap.size g8 a [] none 0 0 :=
  ⟨Ch.refl _ _, h, h.lt, Nat.le_refl _, Nat.le_refl _, fun _ => False, [], OwnC.nil _ _, rfl, rfl, fun _ h => h.elim, fun _ h => by cases h⟩
theorem EwI.below (h : EwI w8 wr hi g8 a es E n c) (b : Below wr.heap.size wr w') : EwI w8 w' hi g8 a es E n c := by
  obtain ⟨G2, cs, o, hl, hr, hG, hE⟩ := h.ew
  have := h.hir
  exact ⟨h.ch.then_below b, h.bx.below b, h.lo, h.hi8, Nat.le_trans h.hir b.size, G2, cs, OwnC.below o b, hl, EwR.keep (fun k hk => b.block k (by have := (hG k hk).2; omega)) (fun _ h => h) es cs hr, hG, hE⟩
theorem EwI.raise (h : EwI w8 wr hi g8 a es E n c) : EwI w8 wr wr.heap.size g8 a es E n c := by
  obtain ⟨G2, cs, o, hl, hr, hG, hE⟩ := h.ew
  have := h.hir
  exact ⟨h.ch, h.bx, h.lo, Nat.le_trans h.hi8 h.hir, Nat.le_refl _, G2, cs, o, hl, hr, fun k hk => ⟨(hG k hk).1, by have := (hG k hk).2; omega⟩, fun b hb => ⟨by have := (hE b hb).1; omega, (hE b hb).2⟩⟩
/-- A store into a newer box. -/
theorem EwI.other (h : EwI w8 wr hi g8 a es E n c) {g : Nat} (h1 : hi ≤ g) (h2 : g < wr.heap.size) (i : Nat) (v : Value) : EwI w8 (wr.setCell ⟨g, i, none⟩ v) hi g8 a es E n c := by
  obtain ⟨G2, cs, o, hl, hr, hG, hE⟩ := h.ew
  have hg := boxGrown wr g i v
  have := h.lo
  have := h.hi8
  refine ⟨h.ch.then_grown hg fun r e => ?_, h.bx.grown hg (fun e => by injection e with e; omega), h.lo, h.hi8, Nat.le_trans h.hir hg.size, G2, cs, OwnC.grown o hg (fun b hb e => ?_), hl, EwR.keep (fun k hk => hg.block k ?_ ?_) (fun _ h => h) es cs hr, hG, hE⟩
  · injection e with e
    subst e
    exact .inl (.inr ⟨by omega, h2⟩)
  · injection e with e
    have := (hE b hb).1
    omega
  · have := (hG k hk).2
    have := h.hir
    omega
  · intro e
    injection e with e
    have := (hG k hk).2
    omega
theorem EwI.box {w : World} (h : EwI w8 w hi g8 a es E n c) {cs : List Value} (oc : OwnC 4 w w8.heap.size 42 E n c cs) (hg : w.grownBy w1 (E.map (·.block))) : BxAt w1 g8 (.int .i64 a) (.slice E n c) :=
  h.bx.grown hg fun er => by
    have := h.lo
    cases E with
    | none => cases er
    | some b =>
      injection er with er
      have er : g8 = b.block := er
      have := (OwnC.lt oc b rfl).1
      omega
/-- One more copy. -/
theorem EwI.push {w : World} (h : EwI w8 w hi g8 a es E n c) {G2 : Nat → Prop} {cs : List Value} (hl : es.length = n) (hr : EwR w G2 es cs) (hG : ∀ k, G2 k → w8.heap.size ≤ k ∧ k < hi) (hE : ∀ b, E = some b → b.block < hi ∧ ¬ G2 b.block) (oc : OwnC 4 w w8.heap.size 42 E n c cs)
    {e : Ev} {T F : Option Addr} {nT cT nF cF : Nat} {G3 : Nat → Prop} (h1 : RdS w T nT cT e.tags) (h2 : RdF w F nF cF e.fs) (h3 : Wr w G3 T nT 1 9) (h4 : Wr w G3 F nF 2 85) (hG3 : ∀ k, G3 k → hi ≤ k ∧ k < w.heap.size)
    {A8 : Option Addr} {c8 : Nat} (o : OwnC 4 w1 w8.heap.size 42 A8 (n + 1) c8 (cs ++ [.string e.s, .string e.t, .slice T nT cT, .slice F nF cF])) (hg : w.grownBy w1 (E.map (·.block))) (hbl : A8.map (·.block) = E.map (·.block) ∨ A8.map (·.block) = some w.heap.size) :
    EwI w8 (w1.setCell ⟨g8, 1, none⟩ (.slice A8 (n + 1) c8)) (w1.setCell ⟨g8, 1, none⟩ (.slice A8 (n + 1) c8)).heap.size g8 a (es ++ [e]) A8 (n + 1) c8 := by
  have hb := boxGrown w1 g8 1 (.slice A8 (n + 1) c8)
  have l0 := h.lo
  have l1 := h.hi8
  have l2 := h.hir
  have s1 := hg.size
  have s2 := hb.size
  have hEb : ∀ r, E.map (·.block) = some r → w8.heap.size ≤ r ∧ r < hi ∧ ¬ G2 r := fun r er => by
    cases E with
    | none => cases er
    | some b =>
      injection er with er
      subst er
      exact ⟨(OwnC.lt oc b rfl).1, hE b rfl⟩
  have ch1 : Ch (fun k => k = g8) w8 w1 := h.ch.then_grown hg fun r er => by
    have := hEb r er
    exact .inl (.inr ⟨this.1, by omega⟩)
  have bx1 : BxAt w1 g8 (.int .i64 a) (.slice E n c) := h.bx.grown hg fun er => by
    have := hEb g8 er.symm
    omega
  have hA8 : ∀ b, A8 = some b → w8.heap.size ≤ b.block ∧ b.block < w1.heap.size := fun b e => OwnC.lt o b e
  have kp : ∀ k, (G2 k ∨ G3 k) → (w1.setCell ⟨g8, 1, none⟩ (.slice A8 (n + 1) c8)).heap[k]? = w.heap[k]? := fun k hk => by
    have hk2 : w8.heap.size ≤ k ∧ k < w.heap.size ∧ some k ≠ E.map (·.block) := by
      rcases hk with hk | hk
      · have := hG k hk
        exact ⟨this.1, by omega, fun er => (hEb k er.symm).2.2 hk⟩
      · have := hG3 k hk
        exact ⟨by omega, this.2, fun er => by have := (hEb k er.symm).2.1; omega⟩
    exact (hb.block k (by omega) (fun er => by injection er with er; omega)).trans (hg.block k hk2.2.1 hk2.2.2)
  refine ⟨ch1.then_grown hb fun r er => by injection er with er; subst er; exact .inl (.inl rfl), bx1.set1 _, l0, by omega, Nat.le_refl _, fun k => G2 k ∨ G3 k, _, OwnC.grown o hb (fun b e er => ?_), by rw [List.length_append, hl]; rfl, EwR.keep kp (fun _ h => h) _ _ (EwR.snoc h1 h2 (h3.wide fun _ h => .inr h) (h4.wide fun _ h => .inr h) es cs (EwR.keep (fun _ _ => rfl) (fun _ h => .inl h) es cs hr)), fun k hk => ?_, fun b e => ⟨by have := (hA8 b e).2; omega, fun hk => ?_⟩⟩
  · injection er with er
    have := (hA8 b e).1
    omega
  · rcases hk with hk | hk
    · have := hG k hk
      omega
    · have := hG3 k hk
      omega
  · rw [e] at hbl
    rcases hbl with q | q
    · have := hEb b.block q.symm
      rcases hk with hk | hk
      · exact this.2.2 hk
      · have := hG3 _ hk
        omega
    · injection q with q
      have q : b.block = w.heap.size := q
      rcases hk with hk | hk
      · have := hG _ hk
        omega
      · have := hG3 _ hk
        omega
end
theorem wn_push {base lo : Nat} {W0 w : World} {P Z : Thing} {A : Option Addr} {n c : Nat} {rs : List Rc} (hp : Pair base w P (With Z (WnT W0 lo A n c rs))) (kp : Keeps P) (kz : Keeps Z) (hb : base ≤ w.heap.size) {A' : Option Addr} {n' c' : Nat} {rs' : List Rc} {w' : World}
    (oo : OwnR W0 w' lo A' n' c' rs') (hg : w.grownBy w' (A.map (·.block))) (hbl : A'.map (·.block) = A.map (·.block) ∨ A'.map (·.block) = some w.heap.size) :
    Pair base w' P (With Z (WnT W0 lo A' n' c' rs')) ∧ Below base w w' := by
  obtain ⟨F, G, hpF, ⟨G1, G2, hz, ⟨o, ha, hlt2⟩, i1, i2, hlt, hx⟩, hF, hG, hd⟩ := hp
  have na : ∀ k, (∀ a, A = some a → a.block ≠ k) → some k ≠ A.map (·.block) := fun k hk e => by
    cases A with
    | none => cases e
    | some a => injection e with e; exact hk a rfl e.symm
  obtain ⟨g1, g2, g3, gs, gb⟩ := hg
  have same : ∀ k, k < w.heap.size → (∀ a, A = some a → a.block ≠ k) → w'.heap[k]? = w.heap[k]? := fun k hk hn => gb k hk (na k hn)
  have hA' : ∀ a, A' = some a → (∃ b, A = some b ∧ b.block = a.block) ∨ a.block = w.heap.size := fun a e => by
    rw [e] at hbl
    rcases hbl with q | q
    · cases A with
      | none => cases q
      | some b => injection q with q; exact .inl ⟨b, rfl, q.symm⟩
    · injection q with q; exact .inr q
  have hA2 : ∀ a, A' = some a → a.block < w'.heap.size := fun a e => by
    obtain ⟨cs, o, _⟩ := oo
    exact (OwnC.lt o a e).2
  refine ⟨⟨F, fun k => G k ∨ k = w.heap.size ∧ k < w'.heap.size, kp.keep hpF gs fun k hf => same k (kp.lt hpF k hf) (fun a e e2 => hd k hf (i2 k (by rw [← e2]; exact ha a e))),
    ⟨G1, fun k => G2 k ∨ ∃ a, A' = some a ∧ a.block = k, kz.keep hz gs fun k hf => same k (kz.lt hz k hf) (fun a e e2 => hx k hf (by rw [← e2]; exact ha a e)), ⟨oo, fun a e => .inr ⟨a, e, rfl⟩, fun k hk => ?_⟩, fun k hk => .inl (i1 k hk), fun k hk => ?_, fun k hk => ?_, fun k h1 h2 => ?_⟩, hF, fun k hk => ?_, fun k hf hk => ?_⟩, ?_⟩
  · rcases hk with hk | ⟨a, e, rfl⟩
    · exact Nat.lt_of_lt_of_le (hlt2 k hk) gs
    · exact hA2 a e
  · rcases hk with hk | ⟨a, e, rfl⟩
    · exact .inl (i2 k hk)
    · rcases hA' a e with ⟨b, hb1, hb2⟩ | q
      · rw [← hb2]; exact .inl (i2 _ (ha b hb1))
      · exact .inr ⟨q, hA2 a e⟩
  · rcases hk with h | ⟨_, h⟩
    · exact Nat.lt_of_lt_of_le (hlt k h) gs
    · exact h
  · rcases h2 with h2 | ⟨a, e, rfl⟩
    · exact hx k h1 h2
    · rcases hA' a e with ⟨b, hb1, hb2⟩ | q
      · exact hx _ h1 (by rw [← hb2]; exact ha b hb1)
      · have := kz.lt hz _ h1; omega
  · rcases hk with hk | ⟨hk, _⟩
    · exact hG k hk
    · omega
  · rcases hk with hk | ⟨hk, _⟩
    · exact hd k hf hk
    · have := kp.lt hpF k hf; omega
  · exact (Below.refl base w).grown ⟨g1, g2, g3, gs, gb⟩ hb fun k e => by
      cases A with
      | none => cases e
      | some a =>
        injection e with e
        rw [← e]
        exact hG _ (i2 _ (ha a rfl))

/-- A row of a call's own may be written. -/
theorem wr_own {w : World} {k base : Nat} {t : TypeId} {A : Option Addr} {n c : Nat} {cs : List Value} {G : Nat → Prop} (h : OwnC k w base t A n c cs) (hG : ∀ a, A = some a → G a.block) : Wr w G A n k t := fun hn => by
  rcases h.2 with ⟨hv, h0⟩ | ⟨g, c', cur, hv, _, hg, hnc, _, hcs, _⟩
  · omega
  · injection hv with e1 _ e3
    subst e1
    refine ⟨g, 0, cur, rfl, hG _ rfl, hg, ?_⟩
    have := Nat.mul_le_mul_right k hnc
    omega

theorem th_comm {A B : Thing} : Imp (With A B) (With B A) := fun _ _ ⟨G1, G2, h1, h2, i1, i2, hl, hx⟩ => ⟨G2, G1, h2, h1, i2, i1, hl, fun k a b => hx k b a⟩
theorem th_assoc {X A B : Thing} : Imp (With X (With A B)) (With (With X A) B) := fun w G ⟨G1, G2, hX, ⟨Ga, Gb, hA, hB, a1, a2, _, a4⟩, i1, i2, hl, hx⟩ =>
  ⟨fun k => G1 k ∨ Ga k, Gb, ⟨G1, Ga, hX, hA, fun _ h => .inl h, fun _ h => .inr h, fun k hk => by rcases hk with hk | hk; exact hl k (i1 k hk); exact hl k (i2 k (a1 k hk)), fun k h1 h2 => hx k h1 (a1 k h2)⟩, hB, fun k hk => by rcases hk with hk | hk; exact i1 k hk; exact i2 k (a1 k hk), fun k hk => i2 k (a2 k hk), hl, fun k hk h2 => by rcases hk with hk | hk; exact hx k hk (a2 k h2); exact a4 k hk h2⟩
theorem th_rght {Q R R' : Thing} (i : Imp R R') : Imp (With Q R) (With Q R') := fun w _ ⟨G1, G2, h1, h2, i1, i2, hl, hx⟩ => ⟨G1, G2, h1, i w G2 h2, i1, i2, hl, hx⟩
/-- The copies and their batch's box, as things. -/
theorem ew_pair {base : Nat} {w8 wr : World} {P Q : Thing} {hi g8 : Nat} {a : Int} {es : List Ev} {E : Option Addr} {n c : Nat} (hp : Pair base w8 P (With Q (BxT g8 #[.int .i64 a, .slice none 0 0] 45))) (kp : Keeps P) (kq : Keeps Q) (hb : base ≤ w8.heap.size) (h : EwI w8 wr hi g8 a es E n c) :
    Pair base wr P (With Q (With (BxT g8 #[.int .i64 a, .slice E n c] 45) (EwT w8.heap.size E n c es))) ∧ Below base w8 wr := by
  obtain ⟨F, G, hbx, hpq, hF, hG, hx⟩ := pair_last kp hp
  have hg : F g8 := hbx.2.1
  have hc : Ch F w8 wr := h.ch.wide fun k e => by rw [e]; exact hg
  obtain ⟨G2, cs, o, hl, hr, hG2, hE⟩ := h.ew
  have l0 := h.lo
  have l2 := h.hir
  have s := h.ch.size
  have hn : With (BxT g8 #[.int .i64 a, .slice E n c] 45) (EwT w8.heap.size E n c es) wr (up F w8 wr) := by
    refine ⟨fun k => k = g8, fun k => w8.heap.size ≤ k ∧ k < wr.heap.size, ⟨h.bx, rfl, fun k e => by rw [e]; omega⟩, ⟨G2, cs, o, hl, hr, fun b e => ⟨OwnC.lt o b e, (hE b e).2⟩, fun k hk => ⟨(hG2 k hk).1, by have := (hG2 k hk).2; omega⟩, fun k hk => hk.2⟩, fun k e => by rw [e]; exact .inl hg, fun k hk => .inr hk, fun k hk => up_lt hbx.2.2 s hk, fun k e hk => by have := hk.1; omega⟩
  exact ⟨pair_imp th_comm (pair_rot (with_keeps (bxT_keeps _ _ _) (ewT_keeps _ _ _ _ _)) (Pair.left hpq (with_keeps kp kq) hF hG hx hb hn hc)), ch_below (Below.refl _ _) hc hF hb⟩

/-- What lies where while the records are taken over. -/
theorem z_facts {base : Nat} {W0 w : World} {P SpO : Thing} {lo lo2 : Nat} {A4 Aw A10 : Option Addr} {n4 c4 nw cw n10 c10 st off g7 g8 : Nat} {xe : List Ev} {rs : List Rc} {cs7 cs8 : Array Value} {t7 t8 : TypeId} {hd : Nat → List Value}
    (h : Pair base w P (With (With (With (With (With (With NoT (OoT W0 lo A4 n4 c4 xe)) (BxT g7 cs7 t7)) (BxT g8 cs8 t8)) (WnT W0 lo2 Aw nw cw rs)) SpO) (SpT A10 n10 c10 st off hd))) :
    OwnO W0 w lo A4 n4 c4 xe ∧ w.heap[g7]? = some (.cells cs7 t7 (0, 0)) ∧ w.heap[g8]? = some (.cells cs8 t8 (0, 0)) ∧ OwnR W0 w lo2 Aw nw cw rs ∧ ∀ a, Aw = some a → a.block ≠ g7 ∧ (∀ b, A4 = some b → b.block ≠ a.block) ∧ (∀ b, A10 = some b → 0 < n10 → b.block ≠ a.block) := by
  obtain ⟨_, _, _, ⟨GA, GR, ⟨GB, GS, ⟨GC, GW, ⟨GD, G8, ⟨GE, G7, ⟨GN, GO, _, hO, _, jO, _, _⟩, h7, jE, j7, _, _⟩, h8, jD, j8, _, _⟩, hW, jC, jW, _, xC⟩, hS, jB, jS, _, _⟩, hR, jA, jR, _, xA⟩, _⟩ := h
  refine ⟨hO.1, h7.1, h8.1, hW.1, fun a ha => ⟨fun e => ?_, fun b hb e => ?_, fun b hb hn e => ?_⟩⟩
  · exact xC g7 (jD _ (j7 _ h7.2.1)) (by rw [← e]; exact hW.2.1 a ha)
  · exact xC b.block (jD _ (jE _ (jO _ (hO.2.1 b hb)))) (by rw [e]; exact hW.2.1 a ha)
  · obtain ⟨G1, G2, hr, i1, _⟩ := hR
    obtain ⟨b', o', e2, _, hg, _⟩ := hr.2.2 hn
    rw [hb] at e2
    injection e2 with e2
    have hg' : G1 b.block := by rw [e2]; exact hg
    exact xA b.block (by rw [e]; exact jB _ (jW _ (hW.2.1 a ha))) (i1 _ hg')

end Go.Proofs.YtiplfhmimpkplaaGreat.IxWalk

/-
  Walk of a statement of layer 14: IndexOwn.
-/
namespace Go.Proofs.YtiplfhmimpkplaaGreat.IxWalk
open Go.Proofs.YtiplfhmimpkplaaGreat.HeldAt Go.RowKit Go.WideShapes Go.ChangeShapes Go.Proofs.YtiplfhmimpkplaaGreat.MemRow Go.Proofs.YtiplfhmimpkplaaGreat.Ev Go.Proofs.YtiplfhmimpkplaaGreat.Open Go.Proofs.YtiplfhmimpkplaaGreat.NameMath Go.Proofs.YtiplfhmimpkplaaGreat.NameWalk Go.Proofs.YtiplfhmimpkplaaGreat.EvWalk Go.Proofs.YtiplfhmimpkplaaGreat.NumMem Go.Proofs.YtiplfhmimpkplaaGreat.Qu Go.Proofs.YtiplfhmimpkplaaGreat.QuWalk Go.Proofs.YtiplfhmimpkplaaGreat.SmWalk Go.Proofs.YtiplfhmimpkplaaGreat.BtWalk Go.Proofs.YtiplfhmimpkplaaGreat.DkWalk

section
variable {Ix : Nat → List Ev → Thing}
end

end Go.Proofs.YtiplfhmimpkplaaGreat.IxWalk

/-
  Layer 14's statements over the values that come in, given what is asked of the landed index.
-/
namespace Go.Proofs.YtiplfhmimpkplaaGreat.IxWalk
open Go.RowKit Go.WideShapes Go.ChangeShapes Go.Joins Go.Deep Go.Proofs.YtiplfhmimpkplaaGreat.MemRow Go.Proofs.YtiplfhmimpkplaaGreat.Ev Go.Proofs.YtiplfhmimpkplaaGreat.NumMem Go.Proofs.YtiplfhmimpkplaaGreat.Open Go.Proofs.YtiplfhmimpkplaaGreat.Qu Go.Proofs.YtiplfhmimpkplaaGreat.BtWalk

theorem trodOne {H : Type} {enc : TypeId × Value → H} {P : Program} {W : World} {base : Nat} {t : TypeId} {spare : Nat → Bool} {held : Bool} {f0 : Field} {fuel : Nat} {cs : List Value} {x : DataW H × List MemPlace} (ht : P.underlying t = some (.struct #[f0])) (h : DataW.trod enc P W base spare held fuel t cs = some x) :
    ∃ y0 n, DataW.trod enc P W base spare held n f0.type ((cs.drop f0.offset).take (P.cellsOf f0.type)) = some y0 := by
  obtain ⟨xs, n, _, rfl, hl, hlen, hf⟩ := DataW.trod_struct ht h
  match xs, hlen with
  | [y0], _ => exact ⟨y0, n, by simpa using hf 0 f0 rfl⟩
section
variable {H : Type} {enc : TypeId × Value → H}
set_option maxRecDepth 100000 in
/-- An ask that came in. -/
theorem op_ask {W : World} {base : Nat} {v : Value} {d : DataW H} {p : List MemPlace} (ho : Value.okWide Tryz.prog W .any base 27 v) (h : DataW.Trod enc Tryz.prog W 0 (fun _ => true) true 27 v d p) :
    ∃ s A n ca q z, v = .agg #[.string s, .slice A n ca, .int .i64 z] ∧ s.size ≤ maxLen ∧ RdQ W A n ca q ∧ QOk q ∧ -9223372036854775808 ≤ z ∧ z ≤ 9223372036854775807 := by
  obtain ⟨v0, v1, v2, y0, y1, y2, n, rfl, _, _, h0, h1, h2⟩ := open_agg3 Tryz.underlying27 (by kernel_rfl) (by kernel_rfl) ho h
  obtain ⟨s, e0, _, ws⟩ := DataW.trod_string Tryz.underlying9 h0
  injection e0 with e0
  obtain ⟨z, e2, _, wz⟩ := DataW.trod_int Tryz.underlying3 h2
  injection e2 with e2
  have b := bounds_i64 wz
  have cc : Tryz.prog.cellsOf 23 = 1 := by kernel_rfl
  obtain ⟨u, k, hu⟩ := trodOne Tryz.underlying25 h1
  have hu' : DataW.trod enc Tryz.prog W 0 (fun _ => true) true k 23 [v1] = some u := by simpa [cc] using hu
  obtain ⟨A, m, ca, q, rfl, hq, hok⟩ := tr_clauses Tryz.underlying23 Tryz.underlying87 (by kernel_rfl) rfl rfl (by kernel_rfl) (by kernel_rfl) Tryz.underlying39 Tryz.underlying39 Tryz.underlying9 (by kernel_rfl) Tryz.underlying9 (by kernel_rfl) hu'
  subst e0 e2
  exact ⟨s, A, m, ca, q, z, rfl, ws, hq, hok, b.1, b.2⟩
set_option maxRecDepth 100000 in
theorem iplays_main' {Ix : Nat → List Ev → DkWalk.Thing} {It : Nat → List Ev → Nat → List Ev → DkWalk.Thing} (api : ITwo Ix It) (W : World) (base : Nat) (v0 v1 : Value) {d0 d1 : DataW H} {p0 p1 : List MemPlace} (o0 : Value.okWide Tryz.prog W .any base 22 v0) (o1 : Value.okWide Tryz.prog W .any base 27 v1)
    (h0 : DataW.Trod enc Tryz.prog W 0 (fun _ => true) true 22 v0 d0 p0) (h1 : DataW.Trod enc Tryz.prog W 0 (fun _ => true) true 27 v1 d1 p1) :
    Calls Tryz.prog 3 #[v0, v1] W fun e W' => e = .returned (.bool true) ∧ Below W.heap.size W W' := by
  obtain ⟨A1, n1, c1, l, rfl, r1, k1⟩ := op_batches o0 h0
  obtain ⟨s, Cq, nq, cq, q, z, rfl, ws, hq, hqo, hz⟩ := op_ask o1 h1
  exact plays_walk api A1 n1 c1 l s Cq nq cq q z W r1 k1 ws hq hqo hz
end

end Go.Proofs.YtiplfhmimpkplaaGreat.IxWalk

/-
  Mathematics of layer 13: rising rows of numbers as sets. No walk here.
-/
namespace Go.Proofs.YtiplfhmimpkplaaGreat.PoWalk
open Go.RowKit

def Inc (l : List Int) : Prop := l.Pairwise (· < ·)
theorem Inc.nil : Inc [] := List.Pairwise.nil
theorem Inc.nodup {l : List Int} (h : Inc l) : l.Nodup := h.imp (fun h => by omega)
theorem Inc.sub {l m : List Int} (h : Inc m) (hs : l.Sublist m) : Inc l := h.sublist hs
/-- Rising rows with the same numbers are the same. -/
theorem inc_ext : ∀ {l m : List Int}, Inc l → Inc m → (∀ x, x ∈ l ↔ x ∈ m) → l = m
  | [], [], _, _, _ => rfl
  | [], y :: m, _, _, h => by have := (h y).2 (by simp); cases this
  | x :: l, [], _, _, h => by have := (h x).1 (by simp); cases this
  | x :: l, y :: m, hl, hm, h => by
    obtain ⟨hx, hl'⟩ := List.pairwise_cons.1 hl
    obtain ⟨hy, hm'⟩ := List.pairwise_cons.1 hm
    have e : x = y := by
      rcases List.mem_cons.1 ((h x).1 (by simp)) with e | e
      · exact e
      · rcases List.mem_cons.1 ((h y).2 (by simp)) with e2 | e2
        · exact e2.symm
        · have := hx y e2
          have := hy x e
          omega
    subst e
    congr 1
    refine inc_ext hl' hm' fun z => ?_
    constructor
    · intro hz
      rcases List.mem_cons.1 ((h z).1 (List.mem_cons_of_mem _ hz)) with e | e
      · have := hx z hz; omega
      · exact e
    · intro hz
      rcases List.mem_cons.1 ((h z).2 (List.mem_cons_of_mem _ hz)) with e | e
      · have := hy z hz; omega
      · exact e
def bothF (a b : List Int) : List Int := a.filter fun x => decide (x ∈ b)
theorem both_mem {a b : List Int} {x : Int} : x ∈ bothF a b ↔ x ∈ a ∧ x ∈ b := by unfold bothF; rw [List.mem_filter]; simp
theorem both_inc {a : List Int} (h : Inc a) (b : List Int) : Inc (bothF a b) := h.sub List.filter_sublist
theorem both_len (a b : List Int) : (bothF a b).length ≤ a.length := List.length_filter_le _ _
/-- A number is laid into a rising row. -/
def insI (x : Int) : List Int → List Int
  | [] => [x]
  | y :: l => if x < y then x :: y :: l else if x = y then y :: l else y :: insI x l
theorem ins_mem (x : Int) : ∀ (l : List Int) (z : Int), z ∈ insI x l ↔ z = x ∨ z ∈ l
  | [], z => by simp [insI]
  | y :: l, z => by
    unfold insI
    by_cases h1 : x < y
    · rw [if_pos h1]; simp
    · rw [if_neg h1]
      by_cases h2 : x = y
      · rw [if_pos h2]
        subst h2
        simp
      · rw [if_neg h2, List.mem_cons, ins_mem x l z, List.mem_cons]
        constructor
        · rintro (h | h | h)
          · exact .inr (.inl h)
          · exact .inl h
          · exact .inr (.inr h)
        · rintro (h | h | h)
          · exact .inr (.inl h)
          · exact .inl h
          · exact .inr (.inr h)
theorem ins_inc (x : Int) : ∀ {l : List Int}, Inc l → Inc (insI x l)
  | [], _ => by simp [insI, Inc]
  | y :: l, h => by
    obtain ⟨hy, hl⟩ := List.pairwise_cons.1 h
    unfold insI
    by_cases h1 : x < y
    · rw [if_pos h1]
      refine List.pairwise_cons.2 ⟨fun z hz => ?_, h⟩
      rcases List.mem_cons.1 hz with rfl | hz
      · exact h1
      · have := hy z hz; omega
    · rw [if_neg h1]
      by_cases h2 : x = y
      · rw [if_pos h2]; exact h
      · rw [if_neg h2]
        refine List.pairwise_cons.2 ⟨fun z hz => ?_, ins_inc x hl⟩
        rcases (ins_mem x l z).1 hz with rfl | hz
        · omega
        · exact hy z hz
def eitherF (a b : List Int) : List Int := a.foldr insI b
theorem either_mem {a b : List Int} {x : Int} : x ∈ eitherF a b ↔ x ∈ a ∨ x ∈ b := by
  induction a with
  | nil => simp [eitherF]
  | cons y a ih =>
    show x ∈ insI y (eitherF a b) ↔ _
    rw [ins_mem, ih, List.mem_cons, or_assoc]
theorem either_inc (a : List Int) {b : List Int} (h : Inc b) : Inc (eitherF a b) := by
  induction a with
  | nil => exact h
  | cons y a ih => exact ins_inc y ih
theorem ins_has {x : Int} {l : List Int} (h : Inc l) (hx : x ∈ l) : insI x l = l := inc_ext (ins_inc x h) h fun z => by
  rw [ins_mem]
  constructor
  · rintro (rfl | h)
    · exact hx
    · exact h
  · exact .inr
theorem ins_len (x : Int) : ∀ (l : List Int), x ∉ l → (insI x l).length = l.length + 1
  | [], _ => rfl
  | y :: l, h => by
    unfold insI
    by_cases h1 : x < y
    · rw [if_pos h1]; rfl
    · rw [if_neg h1, if_neg (fun e => h (by rw [e]; simp)), List.length_cons, ins_len x l (fun e => h (List.mem_cons_of_mem _ e)), List.length_cons]
theorem both_either {a b : List Int} (ha : Inc a) (hb : Inc b) : (bothF a b).length + (eitherF a b).length = a.length + b.length := by
  induction a with
  | nil => simp [bothF, eitherF]
  | cons x a ih =>
    obtain ⟨hx, ha'⟩ := List.pairwise_cons.1 ha
    have h1 := ih ha'
    have hn : x ∉ a := fun h => by have := hx x h; omega
    have e2 : eitherF (x :: a) b = insI x (eitherF a b) := rfl
    by_cases hxb : x ∈ b
    · have e1 : bothF (x :: a) b = x :: bothF a b := by unfold bothF; rw [List.filter_cons_of_pos (by simpa using hxb)]
      rw [e1, e2, ins_has (either_inc a hb) (either_mem.2 (.inr hxb)), List.length_cons, List.length_cons]
      omega
    · have e1 : bothF (x :: a) b = bothF a b := by unfold bothF; rw [List.filter_cons_of_neg (by simpa using hxb)]
      rw [e1, e2, ins_len x _ (fun h => (either_mem.1 h).elim hn hxb), List.length_cons]
      omega
theorem either_len {a b : List Int} (ha : Inc a) (hb : Inc b) : (eitherF a b).length ≤ a.length + b.length := by have := both_either ha hb; omega
theorem both_comm {a b : List Int} (ha : Inc a) (hb : Inc b) : bothF b a = bothF a b := inc_ext (both_inc hb a) (both_inc ha b) fun x => by rw [both_mem, both_mem]; exact And.comm
theorem either_comm {a b : List Int} (ha : Inc a) (hb : Inc b) : eitherF b a = eitherF a b := inc_ext (either_inc b ha) (either_inc a hb) fun x => by rw [either_mem, either_mem]; exact Or.comm
theorem both_self {a : List Int} (ha : Inc a) : bothF a a = a := inc_ext (both_inc ha a) ha fun x => by rw [both_mem]; simp
theorem both_assoc {a b c : List Int} (ha : Inc a) : bothF (bothF a b) c = bothF a (bothF b c) := inc_ext (both_inc (both_inc ha b) c) (both_inc ha _) fun x => by rw [both_mem, both_mem, both_mem, both_mem, and_assoc]
theorem either_assoc {a b c : List Int} (hc : Inc c) : eitherF (eitherF a b) c = eitherF a (eitherF b c) := inc_ext (either_inc _ hc) (either_inc a (either_inc b hc)) fun x => by rw [either_mem, either_mem, either_mem, either_mem, or_assoc]
theorem both_dist {a b c : List Int} (ha : Inc a) : bothF a (eitherF b c) = eitherF (bothF a b) (bothF a c) := inc_ext (both_inc ha _) (either_inc _ (both_inc ha c)) fun x => by rw [both_mem, either_mem, either_mem, both_mem, both_mem, and_or_left]
theorem either_abs {a b : List Int} (ha : Inc a) : eitherF a (bothF a b) = a := inc_ext (either_inc a (both_inc ha b)) ha fun x => by
  rw [either_mem, both_mem]
  constructor
  · rintro (h | h)
    · exact h
    · exact h.1
  · exact .inl

/-! ### The document's Either, as it reckons -/
def lowF (b : List Int) (i : Nat) (x : Int) : Bool := decide (i = 0 ∨ b.getD (i - 1) 0 < x)
def stepF (a b : List Int) (i : Nat) : List Int := (a.filter fun x => decide (x < b.getD i 0) && lowF b i x) ++ [b.getD i 0]
def outF (a b : List Int) : Nat → List Int
  | 0 => []
  | i + 1 => outF a b i ++ stepF a b i
def refE (a b : List Int) : List Int := outF a b b.length ++ a.filter fun x => decide (b.length = 0 ∨ b.getD (b.length - 1) 0 < x)
theorem getI_mem {b : List Int} {i : Nat} (h : i < b.length) : b.getD i 0 ∈ b := by
  simp only [List.getD, List.getElem?_eq_getElem h, Option.getD_some]
  exact List.getElem_mem h
theorem inc_lt {b : List Int} (h : Inc b) {i j : Nat} (hij : i < j) (hj : j < b.length) : b.getD i 0 < b.getD j 0 := by
  have h1 := List.pairwise_iff_getElem.1 h i j (by omega) hj hij
  simpa [List.getD, List.getElem?_eq_getElem hj, List.getElem?_eq_getElem (show i < b.length by omega)] using h1
theorem out_all {a b : List Int} (ha : Inc a) (hb : Inc b) : ∀ i, i ≤ b.length → Inc (outF a b i) ∧ (∀ x ∈ outF a b i, 0 < i ∧ x ≤ b.getD (i - 1) 0) ∧ ∀ x, x ∈ outF a b i ↔ (0 < i ∧ x ∈ a ∧ x ≤ b.getD (i - 1) 0) ∨ x ∈ b.take i
  | 0, _ => ⟨Inc.nil, fun x h => (by cases h), fun x => by simp [outF]⟩
  | i + 1, hi => by
    obtain ⟨h1, h2, h3⟩ := out_all ha hb i (by omega)
    have hst : ∀ x, x ∈ stepF a b i ↔ (x ∈ a ∧ x < b.getD i 0 ∧ (i = 0 ∨ b.getD (i - 1) 0 < x)) ∨ x = b.getD i 0 := fun x => by
      unfold stepF lowF
      rw [List.mem_append, List.mem_filter, List.mem_singleton, Bool.and_eq_true, decide_eq_true_eq, decide_eq_true_eq]
    have hle : ∀ x ∈ stepF a b i, x ≤ b.getD i 0 := fun x hx => by
      rcases (hst x).1 hx with ⟨_, h, _⟩ | h <;> omega
    have hgt : ∀ x ∈ stepF a b i, i = 0 ∨ b.getD (i - 1) 0 < x := fun x hx => by
      rcases (hst x).1 hx with ⟨_, _, h⟩ | h
      · exact h
      · by_cases h0 : i = 0
        · exact .inl h0
        · exact .inr (by rw [h]; exact inc_lt hb (by omega) (by omega))
    refine ⟨List.pairwise_append.2 ⟨h1, ?_, fun x hx y hy => ?_⟩, fun x hx => ⟨by omega, ?_⟩, fun x => ?_⟩
    · refine List.pairwise_append.2 ⟨ha.sub List.filter_sublist, by simp, fun x hx y hy => ?_⟩
      rw [List.mem_singleton] at hy
      rw [List.mem_filter, Bool.and_eq_true, decide_eq_true_eq] at hx
      rw [hy]
      exact hx.2.1
    · have a1 := h2 x hx
      rcases hgt y hy with h | h <;> omega
    · show x ≤ b.getD i 0
      rcases List.mem_append.1 hx with hx | hx
      · have a1 := h2 x hx
        have a2 := inc_lt hb (show i - 1 < i by omega) (show i < b.length by omega)
        omega
      · exact hle x hx
    · show x ∈ outF a b i ++ stepF a b i ↔ _
      have et : b.take (i + 1) = b.take i ++ [b.getD i 0] := by
        rw [List.take_add_one]
        simp [List.getD, List.getElem?_eq_getElem (show i < b.length by omega)]
      rw [List.mem_append, h3, hst, et, List.mem_append, List.mem_singleton, show i + 1 - 1 = i by omega]
      have hlt : 0 < i → b.getD (i - 1) 0 < b.getD i 0 := fun h => inc_lt hb (by omega) (by omega)
      constructor
      · rintro ((⟨p1, p2, p3⟩ | p) | (⟨p1, p2, p3⟩ | p))
        · exact .inl ⟨by omega, p2, by have := hlt p1; omega⟩
        · exact .inr (.inl p)
        · exact .inl ⟨by omega, p1, by omega⟩
        · exact .inr (.inr p)
      · rintro (⟨_, p2, p3⟩ | p | p)
        · by_cases e : x = b.getD i 0
          · exact .inr (.inr e)
          · by_cases h0 : i = 0
            · exact .inr (.inl ⟨p2, by omega, .inl h0⟩)
            · by_cases hx : b.getD (i - 1) 0 < x
              · exact .inr (.inl ⟨p2, by omega, .inr hx⟩)
              · exact .inl (.inl ⟨by omega, p2, by omega⟩)
        · exact .inl (.inr p)
        · exact .inr (.inr p)
theorem refE_eq {a b : List Int} (ha : Inc a) (hb : Inc b) : refE a b = eitherF a b := by
  obtain ⟨h1, h2, h3⟩ := out_all ha hb b.length (Nat.le_refl _)
  refine inc_ext (List.pairwise_append.2 ⟨h1, ha.sub List.filter_sublist, fun x hx y hy => ?_⟩) (either_inc a hb) fun x => ?_
  · have a1 := h2 x hx
    rw [List.mem_filter, decide_eq_true_eq] at hy
    rcases hy.2 with h | h <;> omega
  · unfold refE
    rw [List.mem_append, h3, List.mem_filter, decide_eq_true_eq, List.take_length, either_mem]
    constructor
    · rintro ((⟨_, p, _⟩ | p) | ⟨p, _⟩)
      · exact .inl p
      · exact .inr p
      · exact .inl p
    · rintro (p | p)
      · by_cases h0 : b.length = 0
        · exact .inr ⟨p, .inl h0⟩
        · by_cases hx : b.getD (b.length - 1) 0 < x
          · exact .inr ⟨p, .inr hx⟩
          · exact .inl (.inl ⟨by omega, p, by omega⟩)
      · exact .inl (.inr p)

end Go.Proofs.YtiplfhmimpkplaaGreat.PoWalk

/-
  Layer 13: rows of events whose own rows are older; events at positions, as data.
-/
namespace Go.Proofs.YtiplfhmimpkplaaGreat.PoWalk
open Go.RowKit Go.Proofs.YtiplfhmimpkplaaGreat.MemRow Go.Proofs.YtiplfhmimpkplaaGreat.Ev Go.Proofs.YtiplfhmimpkplaaGreat.NameMath Go.Proofs.YtiplfhmimpkplaaGreat.NameWalk Go.Proofs.YtiplfhmimpkplaaGreat.EvWalk Go.Proofs.YtiplfhmimpkplaaGreat.NumMem Go.Proofs.YtiplfhmimpkplaaGreat.Qu Go.Proofs.YtiplfhmimpkplaaGreat.QuWalk

/-- A row that holds events whose own rows are as world w0 has them. -/
def EvsR (w0 : World) : List Ev → List Value → Prop
  | [], cs => cs = []
  | e :: es, cs => ∃ T nT cT F nF cF cs', cs = .string e.s :: .string e.t :: .slice T nT cT :: .slice F nF cF :: cs' ∧ RdS w0 T nT cT e.tags ∧ RdF w0 F nF cF e.fs ∧ EvsR w0 es cs'
theorem EvsR.snoc {w : World} {e : Ev} {T F : Option Addr} {nT cT nF cF : Nat} (o1 : RdS w T nT cT e.tags) (o2 : RdF w F nF cF e.fs) :
    ∀ (es : List Ev) (cs : List Value), EvsR w es cs → EvsR w (es ++ [e]) (cs ++ [.string e.s, .string e.t, .slice T nT cT, .slice F nF cF])
  | [], cs, h => by
    obtain rfl : cs = [] := h
    exact ⟨T, nT, cT, F, nF, cF, [], rfl, o1, o2, rfl⟩
  | x :: es, cs, ⟨T1, n1, c1, F1, m1, d1, cs', hc, p1, p2, h⟩ => by
    subst hc
    exact ⟨T1, n1, c1, F1, m1, d1, cs' ++ [.string e.s, .string e.t, .slice T nT cT, .slice F nF cF], rfl, p1, p2, EvsR.snoc o1 o2 es cs' h⟩
theorem EvsR.at_ {w : World} : ∀ (es : List Ev) (cs : List Value), EvsR w es cs → ∀ i, i < es.length →
    ∃ T nT cT F nF cF, cs[i * 4]? = some (.string (es.getD i noEv).s) ∧ cs[i * 4 + 1]? = some (.string (es.getD i noEv).t) ∧ cs[i * 4 + 2]? = some (.slice T nT cT) ∧ cs[i * 4 + 3]? = some (.slice F nF cF) ∧ RdS w T nT cT (es.getD i noEv).tags ∧ RdF w F nF cF (es.getD i noEv).fs
  | [], _, _, i, hi => by simp at hi
  | e :: es, cs, ⟨T, nT, cT, F, nF, cF, cs', hc, o1, o2, h⟩, i, hi => by
    subst hc
    cases i with
    | zero => exact ⟨T, nT, cT, F, nF, cF, rfl, rfl, rfl, rfl, o1, o2⟩
    | succ i =>
      obtain ⟨T1, n1, c1, F1, m1, d1, q0, q1, q2, q3, p1, p2⟩ := EvsR.at_ es cs' h i (by simpa using hi)
      have e4 : (i + 1) * 4 = i * 4 + 4 := by omega
      rw [e4]
      exact ⟨T1, n1, c1, F1, m1, d1, by simpa using q0, by simpa using q1, by simpa using q2, by simpa using q3, by simpa using p1, by simpa using p2⟩
theorem EvsR.one {w : World} : ∀ (es : List Ev) (cs : List Value), EvsR w es cs → ∀ v ∈ cs, v.oneCell' = true
  | [], cs, h, v, hv => by
    obtain rfl : cs = [] := h
    simp at hv
  | _ :: es, cs, ⟨T, nT, cT, Y, nY, cY, cs', e, _, _, h⟩, v, hv => by
    subst e
    simp only [List.mem_cons] at hv
    rcases hv with rfl | rfl | rfl | rfl | hv
    · rfl
    · rfl
    · rfl
    · rfl
    · exact EvsR.one es cs' h v hv

/-! ### Events at positions -/
abbrev Ls := List (Ev × Int)
def posP (p : Ev → Bool) (L : Ls) : List Int := (L.filter fun x => p x.1).map (·.2)
def tagP (L : Ls) (t : ByteArray) : List Int := posP (fun e => hasB e.tags t) L
def typP (L : Ls) (t : ByteArray) : List Int := posP (fun e => decide (e.t = t)) L
def upF (u : Int) (l : List Int) : List Int := l.filter fun x => decide (x ≤ u)
def findP (L : Ls) (q : List Cl) (u : Int) : List Int := upF u (posP (matchQ q) L)
def lastL (L : Ls) : Int := match L.getLast? with | some x => x.2 | none => 0
def addL (L : Ls) (e : Ev) (p : Int) : Int × Ls := if p < 1 ∨ p ≤ lastL L then (1, L) else (0, L ++ [(e, p)])
structure LOk (L : Ls) : Prop where
  inc : L.Pairwise fun a b => a.2 < b.2
  pos : ∀ x ∈ L, 1 ≤ x.2
  hi : ∀ x ∈ L, x.2 ≤ 9223372036854775807
  len : L.length ≤ 400
theorem LOk.nil : LOk [] := ⟨List.Pairwise.nil, (fun _ h => by cases h), (fun _ h => by cases h), (by decide)⟩
theorem posP_nil (p : Ev → Bool) : posP p [] = [] := rfl
theorem posP_append (p : Ev → Bool) (L M : Ls) : posP p (L ++ M) = posP p L ++ posP p M := by simp [posP]
theorem posP_one (p : Ev → Bool) (e : Ev) (x : Int) : posP p [(e, x)] = if p e = true then [x] else [] := by
  by_cases h : p e = true
  · rw [if_pos h]; simp [posP, h]
  · rw [if_neg h]; simp [posP, h]
theorem posP_mem {p : Ev → Bool} {L : Ls} {x : Int} : x ∈ posP p L ↔ ∃ e, (e, x) ∈ L ∧ p e = true := by
  unfold posP
  rw [List.mem_map]
  constructor
  · rintro ⟨y, hy, rfl⟩
    obtain ⟨h1, h2⟩ := List.mem_filter.1 hy
    exact ⟨y.1, h1, h2⟩
  · rintro ⟨e, h1, h2⟩
    exact ⟨(e, x), List.mem_filter.2 ⟨h1, h2⟩, rfl⟩
theorem posP_len (p : Ev → Bool) (L : Ls) : (posP p L).length ≤ L.length := by
  unfold posP
  rw [List.length_map]
  exact List.length_filter_le _ _
theorem posP_inc {L : Ls} (h : LOk L) (p : Ev → Bool) : Inc (posP p L) := by
  unfold posP Inc
  rw [List.pairwise_map]
  exact h.inc.sublist List.filter_sublist
theorem up_mem {u : Int} {l : List Int} {x : Int} : x ∈ upF u l ↔ x ∈ l ∧ x ≤ u := by unfold upF; rw [List.mem_filter]; simp
theorem up_inc {l : List Int} (h : Inc l) (u : Int) : Inc (upF u l) := h.sub List.filter_sublist
theorem up_all {u : Int} {l : List Int} (h : ∀ x ∈ l, x ≤ u) : upF u l = l := by
  unfold upF
  rw [List.filter_eq_self]
  intro x hx
  simpa using h x hx
theorem find_inc {L : Ls} (h : LOk L) (q : List Cl) (u : Int) : Inc (findP L q u) := up_inc (posP_inc h _) u
theorem find_mem {L : Ls} {q : List Cl} {u x : Int} : x ∈ findP L q u ↔ (∃ e, (e, x) ∈ L ∧ matchQ q e = true) ∧ x ≤ u := by
  unfold findP
  rw [up_mem, posP_mem]
theorem find_len (L : Ls) (q : List Cl) (u : Int) : (findP L q u).length ≤ L.length := Nat.le_trans (List.length_filter_le _ _) (posP_len _ L)
theorem lastL_snoc (L : Ls) (x : Ev × Int) : lastL (L ++ [x]) = x.2 := by simp [lastL]
theorem lastL_le {L : Ls} (h : LOk L) : ∀ x ∈ L, x.2 ≤ lastL L := by
  rcases List.eq_nil_or_concat L with rfl | ⟨M, y, rfl⟩
  · intro x hx; cases hx
  · intro x hx
    rw [List.concat_eq_append, lastL_snoc]
    have hp := h.inc
    rw [List.concat_eq_append] at hp hx
    rcases List.mem_append.1 hx with hx | hx
    · have := (List.pairwise_append.1 hp).2.2 x hx y (by simp)
      omega
    · rw [List.mem_singleton] at hx
      rw [hx]
      omega
theorem addL_yes {L : Ls} {e : Ev} {p : Int} (h1 : 1 ≤ p) (h2 : lastL L < p) : addL L e p = (0, L ++ [(e, p)]) := by
  unfold addL
  rw [if_neg (by omega)]
theorem addL_len (L : Ls) (e : Ev) (p : Int) : (addL L e p).2.length ≤ L.length + 1 := by
  unfold addL
  split <;> simp
theorem addL_ok {L : Ls} (h : LOk L) (e : Ev) {p : Int} (hp : p ≤ 9223372036854775807) (hl : L.length < 200) : LOk (addL L e p).2 := by
  unfold addL
  by_cases hc : p < 1 ∨ p ≤ lastL L
  · rw [if_pos hc]; exact h
  · rw [if_neg hc]
    refine ⟨List.pairwise_append.2 ⟨h.inc, by simp, fun a ha b hb => ?_⟩, fun x hx => ?_, fun x hx => ?_, by simp; omega⟩
    · rw [List.mem_singleton] at hb
      rw [hb]
      have := lastL_le h a ha
      show a.2 < p
      omega
    · rcases List.mem_append.1 hx with hx | hx
      · exact h.pos x hx
      · rw [List.mem_singleton] at hx
        rw [hx]
        show 1 ≤ p
        omega
    · rcases List.mem_append.1 hx with hx | hx
      · exact h.hi x hx
      · rw [List.mem_singleton] at hx
        rw [hx]
        exact hp
theorem ls_take (L : Ls) (j : Nat) (h : j < L.length) : L.take (j + 1) = L.take j ++ [L.getD j (noEv, 0)] := by
  rw [List.take_add_one]
  simp [List.getD, List.getElem?_eq_getElem h]
theorem posP_step (p : Ev → Bool) (L : Ls) {j : Nat} (h : j < L.length) : posP p (L.take (j + 1)) = posP p (L.take j) ++ (if p (L.getD j (noEv, 0)).1 = true then [(L.getD j (noEv, 0)).2] else []) := by
  rw [ls_take L j h, posP_append, posP_one]

end Go.Proofs.YtiplfhmimpkplaaGreat.PoWalk

/-
  Mathematics of the landed index: its log as a table of streams, as events at positions; records by their positions. No walk here.
-/
namespace Go.Proofs.YtiplfhmimpkplaaGreat.IxWalk
open Go.RowKit Go.Proofs.YtiplfhmimpkplaaGreat.MemRow Go.Proofs.YtiplfhmimpkplaaGreat.Ev Go.Proofs.YtiplfhmimpkplaaGreat.NameMath Go.Proofs.YtiplfhmimpkplaaGreat.NameWalk Go.Proofs.YtiplfhmimpkplaaGreat.EvWalk Go.Proofs.YtiplfhmimpkplaaGreat.Qu Go.Proofs.YtiplfhmimpkplaaGreat.QuWalk Go.Proofs.YtiplfhmimpkplaaGreat.SmWalk Go.Proofs.YtiplfhmimpkplaaGreat.PoWalk

/-- A log's events at their positions. -/
def logL (es : List Ev) : Ls := es.mapIdx fun i e => (e, (i : Int) + 1)
theorem logL_nil : logL [] = [] := rfl
theorem logL_snoc (es : List Ev) (e : Ev) : logL (es ++ [e]) = logL es ++ [(e, (es.length : Int) + 1)] := by simp [logL, List.mapIdx_append]
theorem logL_len (es : List Ev) : (logL es).length = es.length := by simp [logL]
theorem logL_last (es : List Ev) : lastL (logL es) = es.length := by
  induction es using snoc_ind with
  | h0 => rfl
  | h1 es e _ =>
    rw [logL_snoc, lastL_snoc, List.length_append, List.length_singleton]
    simp
theorem logL_pos {es : List Ev} : ∀ x ∈ logL es, 1 ≤ x.2 ∧ x.2 ≤ es.length := by
  induction es using snoc_ind with
  | h0 => intro x h; cases h
  | h1 es e ih =>
    intro x h
    rw [logL_snoc] at h
    rw [List.length_append, List.length_singleton]
    rcases List.mem_append.1 h with h | h
    · have := ih x h
      omega
    · obtain rfl := List.mem_singleton.1 h
      exact ⟨by simp only []; omega, by simp only []; omega⟩
theorem logL_ok {es : List Ev} (h : es.length ≤ 400) : LOk (logL es) := by
  refine ⟨?_, fun x hx => (logL_pos x hx).1, fun x hx => by have := (logL_pos x hx).2; omega, by rw [logL_len]; exact h⟩
  clear h
  induction es using snoc_ind with
  | h0 => exact List.Pairwise.nil
  | h1 es e ih =>
    rw [logL_snoc]
    refine List.pairwise_append.2 ⟨ih, List.pairwise_singleton _ _, fun x hx y hy => ?_⟩
    obtain rfl := List.mem_singleton.1 hy
    have := logL_pos x hx
    simp only []
    omega
theorem logL_add (es : List Ev) (e : Ev) : addL (logL es) e ((es.length : Int) + 1) = (0, logL (es ++ [e])) := by
  rw [logL_snoc]
  exact addL_yes (by omega) (by rw [logL_last]; omega)
theorem strs_snoc (es : List Ev) (e : Ev) : strs (es ++ [e]) = strs es ++ [e.s] := by simp
theorem tab_add (es : List Ev) (e : Ev) : addF (seqT (strs es)) e.s ((es.length : Int) + 1) = ((cnt (strs es) e.s : Int) + 1, 0, seqT (strs (es ++ [e]))) := by
  have h := seq_add (strs es) e.s
  rw [List.length_map] at h
  rw [strs_snoc]
  exact h
theorem tab_ok {es : List Ev} (h : es.length ≤ 400) (hs : ∀ e ∈ es, e.s.size ≤ maxLen) : TOk (seqT (strs es)) := seq_ok4 (by rw [List.length_map]; exact h) fun s hs' => by
  obtain ⟨e, he, rfl⟩ := List.mem_map.1 hs'
  exact hs e he

/-! ### Records by their positions -/
/-- The record at a position. -/
def recA (es : List Ev) (p : Int) : Rc := (recF es).getD (p - 1).toNat noRc
theorem recA_self {es : List Ev} {x : Rc} (h : x ∈ recF es) : recA es x.pos = x := by
  obtain ⟨i, hi, rfl⟩ := List.mem_iff_getElem.1 h
  have e : ((recF es)[i]).pos = (i : Int) + 1 := by simp [recF]
  unfold recA
  rw [e, show ((i : Int) + 1 - 1).toNat = i by omega, List.getD_eq_getElem?_getD, List.getElem?_eq_getElem hi, Option.getD_some]
theorem tell_at (p : Ev → Bool) (es : List Ev) (u : Int) : tellF p es u = ((tellF p es u).map (·.pos)).map (recA es) := by
  rw [List.map_map]
  conv => lhs; rw [← List.map_id (tellF p es u)]
  refine List.map_congr_left fun x hx => ?_
  exact (recA_self (tell_mem.1 hx).1).symm
theorem str_pos (es : List Ev) (n : ByteArray) (u : Int) : (strF es n u).map (·.pos) = posF (seqT (strs es)) n u := by
  unfold strF
  induction es using snoc_ind with
  | h0 => rfl
  | h1 es e ih =>
    rw [tell_snoc, List.map_append, ih, strs_snoc, seq_snoc, posF_append, posF_cons, posF_nil, List.append_nil, List.length_map]
    congr 1
    by_cases h : e.s = n ∧ (es.length : Int) + 1 ≤ u
    · rw [if_pos ⟨h.2, by simpa using h.1⟩, if_pos h]; rfl
    · rw [if_neg (fun h2 => h ⟨by simpa using h2.2, h2.1⟩), if_neg h]
      rfl
theorem find_snoc (L : Ls) (e : Ev) (x : Int) (q : List Cl) (u : Int) : findP (L ++ [(e, x)]) q u = findP L q u ++ (if matchQ q e = true ∧ x ≤ u then [x] else []) := by
  unfold findP upF
  rw [posP_append, posP_one, List.filter_append]
  congr 1
  by_cases h : matchQ q e = true
  · rw [if_pos h]
    by_cases h2 : x ≤ u
    · rw [if_pos ⟨h, h2⟩]; simp [h2]
    · rw [if_neg fun h3 => h2 h3.2]; simp [h2]
  · rw [if_neg h, if_neg fun h3 => h h3.1]; rfl
theorem qry_pos (es : List Ev) (q : List Cl) (u : Int) : (qryF es q u).map (·.pos) = findP (logL es) q u := by
  unfold qryF
  induction es using snoc_ind with
  | h0 => rfl
  | h1 es e ih =>
    rw [tell_snoc, List.map_append, ih, logL_snoc, find_snoc]
    congr 1
    by_cases h : (es.length : Int) + 1 ≤ u ∧ matchQ q e = true
    · rw [if_pos h, if_pos ⟨h.2, h.1⟩]; rfl
    · rw [if_neg h, if_neg (fun h2 => h ⟨h2.2, h2.1⟩)]; rfl
theorem str_by (es : List Ev) (n : ByteArray) (u : Int) : strF es n u = (posF (seqT (strs es)) n u).map (recA es) := by rw [← str_pos]; exact tell_at _ es u
theorem qry_by (es : List Ev) (q : List Cl) (u : Int) : qryF es q u = (findP (logL es) q u).map (recA es) := by rw [← qry_pos]; exact tell_at _ es u
theorem str_in {es : List Ev} {n : ByteArray} {u x : Int} (h : x ∈ posF (seqT (strs es)) n u) : 1 ≤ x ∧ x ≤ es.length := by
  rw [← str_pos] at h
  obtain ⟨y, hy, rfl⟩ := List.mem_map.1 h
  exact rec_pos y (tell_mem.1 hy).1
theorem qry_in {es : List Ev} {q : List Cl} {u x : Int} (h : x ∈ findP (logL es) q u) : 1 ≤ x ∧ x ≤ es.length := by
  rw [← qry_pos] at h
  obtain ⟨y, hy, rfl⟩ := List.mem_map.1 h
  exact rec_pos y (tell_mem.1 hy).1

/-! ### How many up to a position -/
/-- max(0, min(u, n)) -/
def cntU (u : Int) (n : Nat) : Nat := if u < 0 then 0 else if (n : Int) < u then n else u.toNat
theorem cntU_le (u : Int) (n : Nat) : cntU u n ≤ n := by
  unfold cntU
  split
  · omega
  · split <;> omega
theorem cntU_eq (u : Int) (n : Nat) : max 0 (min u (n : Int)) = (cntU u n : Int) := by
  unfold cntU
  split
  · omega
  · split <;> omega
theorem all_by (es : List Ev) (u : Int) : allF es u = (recF es).take (cntU u es.length) := by
  unfold allF
  induction es using snoc_ind with
  | h0 => simp [tell_nil, rec_nil]
  | h1 es e ih =>
    rw [tell_snoc, ih, rec_snoc, List.length_append, List.length_singleton]
    have hl := rec_len es
    by_cases h : (es.length : Int) + 1 ≤ u
    · rw [if_pos ⟨h, rfl⟩]
      have e1 : cntU u es.length = es.length := by unfold cntU; split; omega; split <;> omega
      have e2 : cntU u (es.length + 1) = es.length + 1 := by unfold cntU; split; omega; split <;> omega
      rw [e1, e2, List.take_of_length_le (by omega), List.take_of_length_le (by rw [List.length_append, List.length_singleton]; omega)]
    · rw [if_neg fun h2 => h h2.1, List.append_nil]
      have e1 : cntU u (es.length + 1) = cntU u es.length := by unfold cntU; split; rfl; split <;> split <;> omega
      have e2 := cntU_le u es.length
      rw [e1, List.take_append_of_le_length (by omega)]
theorem since_by (es : List Ev) (q : List Cl) (a : Int) : sinceF es q a = ((recF es).drop (cntU a es.length)).any fun x => matchQ q x.e := by
  rw [Bool.eq_iff_iff, since_iff, List.any_eq_true]
  have key : ∀ i (hi : i < (recF es).length), ((recF es)[i]).pos = (i : Int) + 1 := fun i hi => by simp [recF]
  constructor
  · rintro ⟨x, hx, h1, h2⟩
    refine ⟨x, ?_, h2⟩
    obtain ⟨i, hi, rfl⟩ := List.mem_iff_getElem.1 hx
    rw [key i hi] at h1
    rw [rec_len] at hi
    have : cntU a es.length ≤ i := by unfold cntU; split; omega; split <;> omega
    rw [List.mem_iff_getElem]
    exact ⟨i - cntU a es.length, by rw [List.length_drop, rec_len]; omega, by simp [show cntU a es.length + (i - cntU a es.length) = i by omega]⟩
  · rintro ⟨x, hx, h2⟩
    obtain ⟨i, hi, rfl⟩ := List.mem_iff_getElem.1 hx
    rw [List.length_drop, rec_len] at hi
    rw [List.getElem_drop] at h2
    have hz : cntU a es.length + i < (recF es).length := by rw [rec_len]; omega
    refine ⟨(recF es)[cntU a es.length + i], List.getElem_mem _, ?_, h2⟩
    rw [key _ (by rw [rec_len]; omega)]
    have : a ≤ cntU a es.length ∨ (es.length : Int) < a := by unfold cntU; split; omega; split <;> omega
    have h3 : (es.length : Int) < a → cntU a es.length = es.length := fun h => by unfold cntU; rw [if_neg (by omega), if_pos h]
    rcases this with h | h
    · omega
    · have := h3 h
      omega

end Go.Proofs.YtiplfhmimpkplaaGreat.IxWalk

/-
  The landed index in memory: its records, a list that two indexes may share; what an append of one record does to it.
-/
namespace Go.Proofs.YtiplfhmimpkplaaGreat.IxWalk
open Go.RowKit Go.Maps Go.Proofs.YtiplfhmimpkplaaGreat.MemRow Go.Proofs.YtiplfhmimpkplaaGreat.Ev Go.Proofs.YtiplfhmimpkplaaGreat.NameMath Go.Proofs.YtiplfhmimpkplaaGreat.NameWalk Go.Proofs.YtiplfhmimpkplaaGreat.EvWalk Go.Proofs.YtiplfhmimpkplaaGreat.NumMem Go.Proofs.YtiplfhmimpkplaaGreat.Qu Go.Proofs.YtiplfhmimpkplaaGreat.QuWalk Go.Proofs.YtiplfhmimpkplaaGreat.SmWalk Go.Proofs.YtiplfhmimpkplaaGreat.BtWalk Go.Proofs.YtiplfhmimpkplaaGreat.DkWalk

/-! ### A record's cells -/
set_option maxRecDepth 100000 in
theorem RoCells.move {w w' : World} {G G' : Nat → Prop} {b o b' o' : Nat} {r : Rc} (h : RoCells w G b o r) (hc : ∀ j v, j < 6 → w.cell? ⟨b, o + j, none⟩ = some v → w'.cell? ⟨b', o' + j, none⟩ = some v) (hk : ∀ k T, G k → (∃ cur, w.heap[k]? = some (.cells cur T (0, 0)) ∧ T ≠ 51) → w'.heap[k]? = w.heap[k]?) (hG : ∀ k, G k → G' k) : RoCells w' G' b' o' r := by
  obtain ⟨T, nT, cT, F, nF, cF, h0, h1, h2, h3, h4, h5, h6, h7, h8, h9⟩ := h
  have keepW : ∀ {A : Option Addr} {n k c : Nat} {t : TypeId} {cs : List Value}, t ≠ 51 → Wr w G A n k t → RdC k w A n c cs → Wr w' G' A n k t ∧ RdC k w' A n c cs := fun {A n k c t cs} ht hw hr => by
    refine ⟨fun hn => ?_, RdC.keepN hr fun hn b o hA i v hcl => ?_⟩
    · obtain ⟨b, o, cur, e, hg, hb, hs⟩ := hw hn
      exact ⟨b, o, cur, e, hG _ hg, (hk b t hg ⟨cur, hb, ht⟩).trans hb, hs⟩
    · obtain ⟨b2, o2, cur, e, hg, hb, hs⟩ := hw hn
      rw [hA] at e
      injection e with e
      injection e with e1 e2
      subst e1
      exact (World.cell?_of_block (w := w) (a := ⟨b, o + i, none⟩) (hk b t hg ⟨cur, hb, ht⟩)).trans hcl
  obtain ⟨a8, a6⟩ := keepW (by decide) h8 h6
  obtain ⟨a9, a7⟩ := keepW (by decide) h9 h7
  exact ⟨T, nT, cT, F, nF, cF, hc 0 _ (by decide) h0, hc 1 _ (by decide) h1, hc 2 _ (by decide) h2, hc 3 _ (by decide) h3, hc 4 _ (by decide) h4, hc 5 _ (by decide) h5, a6, a7, a8, a9⟩

/-! ### The list -/
structure Hx where
  b : Nat
  n : Nat
  c : Nat
abbrev valX (h : Hx) : Value := .slice (some ⟨h.b, 0, none⟩) h.n h.c
def mkX (c : Option Hx) : Value := match c with | none => .slice none 0 0 | some h => valX h
structure RlR (w : World) (F G W : Nat → Prop) (h : Hx) (rs : List Rc) : Prop where
  ex : ∃ cur, w.heap[h.b]? = some (.cells cur 51 (0, 0)) ∧ h.c * 6 ≤ cur.size
  rc : ∀ i, i < h.n → RoCells w W h.b (i * 6) (rs.getD i noRc)
  len : rs.length = h.n
  pos : 0 < h.n
  le : h.n ≤ h.c
  cap : h.c ≤ maxLen
  own : h.n < h.c → F h.b
  gb : G h.b
/-- What there is: a list, or none. -/
def OldR (w : World) (F G W : Nat → Prop) (old : Option Hx) (rs : List Rc) : Prop := (∃ h, old = some h ∧ RlR w F G W h rs) ∨ (old = none ∧ rs = [])
section
variable {w w' : World} {F F' G G' W W' : Nat → Prop} {h : Hx} {rs : List Rc} {old : Option Hx}
set_option maxRecDepth 100000 in
theorem RlR.blt (r : RlR w F G W h rs) : h.b < w.heap.size := by
  obtain ⟨cur, hb, _⟩ := r.ex
  exact (Array.getElem?_eq_some_iff.1 hb).1
set_option maxRecDepth 100000 in
theorem RlR.kept (r : RlR w F G W h rs) (hb : w'.heap[h.b]? = w.heap[h.b]?) (hw : ∀ k, W k → w'.heap[k]? = w.heap[k]?) : RlR w' F G W h rs := by
  obtain ⟨cur, e, hc⟩ := r.ex
  refine ⟨⟨cur, hb.trans e, hc⟩, fun i hi => (r.rc i hi).move (fun j v _ hv => (World.cell?_of_block (w := w) (a := ⟨h.b, i * 6 + j, none⟩) hb).trans hv) (fun k _ hk _ => hw k hk) (fun _ hk => hk), r.len, r.pos, r.le, r.cap, r.own, r.gb⟩
set_option maxRecDepth 100000 in
theorem RlR.wide (r : RlR w F G W h rs) (hF : ∀ k, F k → F' k) (hG : ∀ k, G k → G' k) (hW : ∀ k, W k → W' k) : RlR w F' G' W' h rs :=
  ⟨r.ex, fun i hi => (r.rc i hi).move (fun _ _ _ hv => hv) (fun _ _ _ _ => rfl) hW, r.len, r.pos, r.le, r.cap, fun e => hF _ (r.own e), hG _ r.gb⟩
set_option maxRecDepth 100000 in
theorem RlR.rd (r : RlR w F G W h rs) : RdRc w (some ⟨h.b, 0, none⟩) h.n h.c rs := by
  refine ⟨r.len, r.le, r.cap, fun _ => ⟨h.b, 0, rfl, r.blt, fun i hi => ?_⟩⟩
  obtain ⟨T, nT, cT, F, nF, cF, h0, h1, h2, h3, h4, h5, h6, h7, _⟩ := r.rc i hi
  rw [Nat.zero_add]
  exact ⟨T, nT, cT, F, nF, cF, h0, h1, h2, h3, h4, h5, h6, h7⟩
set_option maxRecDepth 100000 in
theorem OldR.rd (o : OldR w F G W old rs) : ∃ A n c, mkX old = .slice A n c ∧ RdRc w A n c rs ∧ (A = none → n = 0) := by
  rcases o with ⟨h, rfl, r⟩ | ⟨rfl, rfl⟩
  · exact ⟨_, _, _, rfl, r.rd, fun e => by cases e⟩
  · exact ⟨none, 0, 0, rfl, RdRc.nil w, fun _ => rfl⟩
set_option maxRecDepth 100000 in
theorem OldR.kept (o : OldR w F G W old rs) (hb : ∀ k, G k → w'.heap[k]? = w.heap[k]?) (hw : ∀ k, W k → w'.heap[k]? = w.heap[k]?) : OldR w' F G W old rs := by
  rcases o with ⟨h, e, r⟩ | o
  · exact .inl ⟨h, e, r.kept (hb _ r.gb) hw⟩
  · exact .inr o
set_option maxRecDepth 100000 in
theorem OldR.wide (o : OldR w F G W old rs) (hF : ∀ k, F k → F' k) (hG : ∀ k, G k → G' k) (hW : ∀ k, W k → W' k) : OldR w F' G' W' old rs := by
  rcases o with ⟨h, e, r⟩ | o
  · exact .inl ⟨h, e, r.wide hF hG hW⟩
  · exact .inr o

/-! ### append(list, r) -/
set_option maxRecDepth 100000 in
theorem heap_setCells (w : World) (b o : Nat) (cs : List Value) {k : Nat} (h : k ≠ b) : (w.setCells b o cs).heap[k]? = w.heap[k]? := by
  induction cs generalizing w o with
  | nil => rfl
  | cons v cs ih =>
    show ((w.setCell ⟨b, o, none⟩ v).setCells b (o + 1) cs).heap[k]? = _
    rw [ih]
    have : b ≠ k := fun e => h e.symm
    simp [World.setCell, Array.getElem?_modify, this]
set_option maxRecDepth 100000 in
theorem block_setCells (w : World) (b o : Nat) (cs : List Value) {cur : Array Value} {t : TypeId} (hb : w.heap[b]? = some (.cells cur t (0, 0))) (hs : o + cs.length ≤ cur.size) :
    ∃ cur', (w.setCells b o cs).heap[b]? = some (.cells cur' t (0, 0)) ∧ cur'.size = cur.size ∧ (∀ i, i < o → cur'[i]? = cur[i]?) ∧ ∀ j, j < cs.length → cur'[o + j]? = cs[j]? := by
  induction cs generalizing w o cur with
  | nil => exact ⟨cur, hb, rfl, fun _ _ => rfl, fun j hj => absurd hj (Nat.not_lt_zero _)⟩
  | cons v cs ih =>
    have hb1 : (w.setCell ⟨b, o, none⟩ v).heap[b]? = some (.cells (cur.setIfInBounds o v) t (0, 0)) := by
      simp only [World.setCell, Array.getElem?_modify, hb]
      rfl
    rw [List.length_cons] at hs
    obtain ⟨cur', e1, e2, e3, e4⟩ := ih (w.setCell ⟨b, o, none⟩ v) (o + 1) hb1 (by simp; omega)
    refine ⟨cur', e1, by rw [e2]; simp, fun i hi => ?_, fun j hj => ?_⟩
    · rw [e3 i (by omega), Array.getElem?_setIfInBounds_ne (by omega)]
    · cases j with
      | zero =>
        rw [Nat.add_zero, e3 o (by omega), List.getElem?_cons_zero, Array.getElem?_setIfInBounds_self_of_lt (by omega)]
      | succ j =>
        rw [List.getElem?_cons_succ, show o + (j + 1) = o + 1 + j by omega]
        exact e4 j (by simpa using hj)
set_option maxRecDepth 100000 in
theorem size_setCells (w : World) (b o : Nat) (cs : List Value) : (w.setCells b o cs).heap.size = w.heap.size := by
  induction cs generalizing w o with
  | nil => rfl
  | cons v cs ih =>
    show ((w.setCell ⟨b, o, none⟩ v).setCells b (o + 1) cs).heap.size = _
    rw [ih]
    simp [World.setCell]
set_option maxRecDepth 100000 in
theorem ch_setCells {F : Nat → Prop} (w : World) {b : Nat} (o : Nat) (cs : List Value) (h : F b) : Ch F w (w.setCells b o cs) := by
  have e : (w.setCells b o cs).os = w.os ∧ (w.setCells b o cs).tape = w.tape ∧ (w.setCells b o cs).output = w.output := by
    induction cs generalizing w o with
    | nil => exact ⟨rfl, rfl, rfl⟩
    | cons v cs ih => exact ih (w.setCell ⟨b, o, none⟩ v) (o + 1)
  exact ⟨e.1, e.2.1, e.2.2, by rw [size_setCells]; exact Nat.le_refl _, fun k _ hn => heap_setCells w b o cs fun ek => hn (by rw [ek]; exact h)⟩
set_option maxRecDepth 100000 in
/-- A list of which others may be written behind. -/
theorem RlR.put (r : RlR w F G W h rs) {b o : Nat} (cs : List Value) {cur : Array Value} (hb : w.heap[b]? = some (.cells cur 51 (0, 0))) (hs : o + cs.length ≤ cur.size) (hi : b = h.b → h.n * 6 ≤ o) : RlR (w.setCells b o cs) F G W h rs := by
  obtain ⟨cur', e1, e2, e3, _⟩ := block_setCells w b o cs hb hs
  have hW : ∀ k T, W k → (∃ cur, w.heap[k]? = some (.cells cur T (0, 0)) ∧ T ≠ 51) → (w.setCells b o cs).heap[k]? = w.heap[k]? := fun k T _ ⟨c2, hk, ht⟩ => heap_setCells w b o cs fun e => by
    rw [e, hb] at hk
    injection hk with hk
    injection hk with _ hk _
    exact ht hk.symm
  by_cases e : h.b = b
  · have hin := hi e.symm
    subst e
    obtain ⟨c0, hb0, hc⟩ := r.ex
    rw [hb] at hb0
    injection hb0 with hb0
    injection hb0 with hb0
    subst hb0
    refine ⟨⟨cur', e1, by omega⟩, fun i hi => (r.rc i hi).move (fun j v hj hv => ?_) hW (fun _ h => h), r.len, r.pos, r.le, r.cap, r.own, r.gb⟩
    rw [cell_of_row w h.b _ _ _ _ hb] at hv
    rw [cell_of_row _ h.b _ _ _ _ e1, e3 _ (by omega)]
    exact hv
  · obtain ⟨c0, hb0, hc⟩ := r.ex
    refine ⟨⟨c0, (heap_setCells w b o cs e).trans hb0, hc⟩, fun i hi => (r.rc i hi).move (fun j v hj hv => (World.cell?_of_block (w := w) (a := ⟨h.b, i * 6 + j, none⟩) (heap_setCells w b o cs e)).trans hv) hW (fun _ h => h), r.len, r.pos, r.le, r.cap, r.own, r.gb⟩
structure RapOut (w w' : World) (F G W : Nat → Prop) (old : Option Hx) (rs : List Rc) (r : Rc) (h' : Hx) : Prop where
  li : RlR w' (up F w w') (up G w w') W h' (rs ++ [r])
  size : w.heap.size ≤ w'.heap.size
  how : (∃ h cur cs, old = some h ∧ h.n < h.c ∧ F h.b ∧ G h.b ∧ w.heap[h.b]? = some (.cells cur 51 (0, 0)) ∧ h.n * 6 + cs.length ≤ cur.size ∧ h' = ⟨h.b, h.n + 1, h.c⟩ ∧ w' = w.setCells h.b (h.n * 6) cs) ∨ (Below w.heap.size w w' ∧ w.heap.size ≤ h'.b)
set_option maxRecDepth 100000 in
theorem RapOut.ch {r : Rc} {h' : Hx} (a : RapOut w w' F G W old rs r h') : Ch F w w' := by
  rcases a.how with ⟨h, cur, cs, _, _, hF, _, _, _, _, rfl⟩ | ⟨hb, _⟩
  · exact ch_setCells w _ _ hF
  · exact Ch.of_below hb
/-- A record as one cell after the other. -/
abbrev rcV6 (r : Rc) (T : Option Addr) (nT cT : Nat) (Y : Option Addr) (nY cY : Nat) : List Value := rcV r T nT cT Y nY cY
set_option maxRecDepth 100000 in
/-- The cells of one record, where they lie. -/
theorem roCells_of {w : World} {W : Nat → Prop} {b o : Nat} {cur : Array Value} {t : TypeId} {r : Rc} {T Y : Option Addr} {nT cT nY cY : Nat} (hb : w.heap[b]? = some (.cells cur t (0, 0))) (hc : ∀ j, j < 6 → cur[o + j]? = (rcV r T nT cT Y nY cY)[j]?)
    (h6 : RdS w T nT cT r.e.tags) (h7 : RdF w Y nY cY r.e.fs) (h8 : Wr w W T nT 1 9) (h9 : Wr w W Y nY 2 85) : RoCells w W b o r := by
  have c : ∀ j v, j < 6 → (rcV r T nT cT Y nY cY)[j]? = some v → w.cell? ⟨b, o + j, none⟩ = some v := fun j v hj hv => by
    rw [cell_of_row w b _ _ _ _ hb, hc j hj]
    exact hv
  exact ⟨T, nT, cT, Y, nY, cY, c 0 _ (by decide) rfl, c 1 _ (by decide) rfl, c 2 _ (by decide) rfl, c 3 _ (by decide) rfl, c 4 _ (by decide) rfl, c 5 _ (by decide) rfl, h6, h7, h8, h9⟩
set_option maxRecDepth 100000 in
theorem rc_getD_old (rs : List Rc) (r : Rc) {i : Nat} (h : i < rs.length) : (rs ++ [r]).getD i noRc = rs.getD i noRc := by
  rw [List.getD_eq_getElem?_getD, List.getD_eq_getElem?_getD, List.getElem?_append_left h]
set_option maxRecDepth 100000 in
theorem rc_getD_new (rs : List Rc) (r : Rc) : (rs ++ [r]).getD rs.length noRc = r := by
  rw [List.getD_eq_getElem?_getD, List.getElem?_append_right (Nat.le_refl _), Nat.sub_self]
  rfl
set_option maxRecDepth 100000 in
set_option maxHeartbeats 2000000 in
theorem rapp_any {r : Rc} {T Y : Option Addr} {nT cT nY cY : Nat} (hold : OldR w F G W old rs) (hlen : rs.length ≤ 1000000) {a : Addr} {c : Nat} (hl : ∀ j v, (rcV r T nT cT Y nY cY)[j]? = some v → w.cell? (a.add j) = some v)
    (h6 : RdS w T nT cT r.e.tags) (h7 : RdF w Y nY cY r.e.fs) (h8 : Wr w W T nT 1 9) (h9 : Wr w W Y nY 2 85) (hWlt : ∀ k, W k → k < w.heap.size) (ty : TypeId) :
    ∃ h' w', (Builtin.append_ #[32, 32] ty #[mkX old, .slice (some a) 1 c]).run Tryz.prog w = .ok (valX h') w' ∧ RapOut w w' F G W old rs r h' := by
  have hi := rec_info
  have hT := Tryz.underlying32
  obtain ⟨i, h1, h2, h3, h4⟩ : ∃ i, Tryz.prog.info? 51 = some i ∧ i.zero = some (.agg #[.int .i64 0, .int .i64 0, .string ⟨#[]⟩, .string ⟨#[]⟩, .slice none 0 0, .slice none 0 0]) ∧ i.size = 6 ∧ i.bytes = 96 := by
    cases hq : Tryz.prog.info? 51 with
    | none => simp [hq] at hi
    | some i => simp [hq] at hi; exact ⟨i, rfl, hi.1, hi.2.1, hi.2.2⟩
  have hone := rc_one r T Y nT cT nY cY
  have hl6 : (rcV r T nT cT Y nY cY).length = 6 := rfl
  generalize hCS : rcV r T nT cT Y nY cY = cs at *
  -- a new block
  have fin : ∀ (v' : Value) (w' : World) (os : List Value), os.length = rs.length * 6 → (∀ i, i < rs.length → ∀ w'', w''.heap.size = w''.heap.size → Below w.heap.size w w'' → ∀ b2 cur2, w''.heap[b2]? = some (.cells cur2 51 (0, 0)) → (∀ j, j < rs.length * 6 → cur2[j]? = os[j]?) → RoCells w'' W b2 (i * 6) (rs.getD i noRc)) →
      w'.ownsRow w.heap.size 51 6 v' (rs.length + 1) (os ++ cs) → w.grownBy w' none → ∃ h', v' = valX h' ∧ RapOut w w' F G W old rs r h' := by
    intro v' w' os hol hmv ho hg
    rcases ho.2 with ⟨rfl, hn⟩ | ⟨g, c2, cur, rfl, hbg, hgb, hnc, hcm, hcs, htk⟩
    · omega
    · have hbl := grown_below hg
      have hglt := (Array.getElem?_eq_some_iff.1 hgb).1
      have hcell : ∀ j, j < (rs.length + 1) * 6 → cur[j]? = (os ++ cs)[j]? := fun j hj => by
        rw [← htk, List.getElem?_take_of_lt hj, Array.getElem?_toList]
      refine ⟨⟨g, rs.length + 1, c2⟩, rfl, ⟨⟨⟨cur, hgb, by simp only; omega⟩, fun i hi => ?_, by rw [List.length_append]; rfl, by simp, hnc, hcm, fun _ => .inr ⟨hbg, hglt⟩, .inr ⟨hbg, hglt⟩⟩, hg.size, .inr ⟨hbl, hbg⟩⟩⟩
      have hi : i < rs.length + 1 := hi
      by_cases hir : i < rs.length
      · rw [rc_getD_old rs r hir]
        exact hmv i hir w' rfl hbl g cur hgb fun j hj => by rw [hcell j (by omega), List.getElem?_append_left (by omega)]
      · obtain rfl : i = rs.length := by omega
        rw [rc_getD_new]
        have kW : ∀ k, W k → w'.heap[k]? = w.heap[k]? := fun k hk => hbl.block k (hWlt k hk)
        refine roCells_of hgb (fun j hj => ?_) (RdC.below h6 hbl) (RdC.below h7 hbl) (h8.keep kW) (h9.keep kW)
        rw [hCS, hcell _ (by omega), List.getElem?_append_right (by omega), show rs.length * 6 + j - os.length = j by omega]
  have hnew : ∀ j u, cs[j]? = some u → w.cell? (a.add j) = some u := hl
  rcases hold with ⟨h, rfl, rl⟩ | ⟨rfl, rfl⟩
  · have hn := rl.len
    obtain ⟨cur, hb, hc⟩ := rl.ex
    rcases Nat.lt_or_ge h.n h.c with hs | hs
    · -- in place
      have hfr : ∀ j, w.frozen? ⟨h.b, j, none⟩ = false := fun j => by simp [World.frozen?, hb]
      have run := run_append_room_cells (P := Tryz.prog) w 32 ty 51 i hT h1 h.b 0 h.n h.c a 1 c cs (by rw [hl6, h3]) (fun j u hj => hl j u hj) hone (by omega) (fun j hj => by
        rw [h3, hl6] at *
        rw [cell_of_row w h.b _ _ _ _ hb, Array.getElem?_eq_getElem (by omega)]
        rfl) (fun j hj => hfr _)
      rw [h3, Nat.zero_add] at run
      obtain ⟨cur', e1, e2, e3, e4⟩ := block_setCells w h.b (h.n * 6) cs hb (by omega)
      have r2 := rl.put cs hb (by omega) (fun _ => Nat.le_refl _)
      have hW : ∀ k, W k → (∃ c T, w.heap[k]? = some (.cells c T (0, 0)) ∧ T ≠ 51) → (w.setCells h.b (h.n * 6) cs).heap[k]? = w.heap[k]? := fun k _ ⟨c2, T2, hk, ht⟩ => heap_setCells w h.b _ cs fun e => by
        rw [e, hb] at hk
        injection hk with hk
        injection hk with _ hk _
        exact ht hk.symm
      have keepW : ∀ {A : Option Addr} {n k c : Nat} {t : TypeId} {cs' : List Value}, t ≠ 51 → Wr w W A n k t → RdC k w A n c cs' → Wr (w.setCells h.b (h.n * 6) cs) W A n k t ∧ RdC k (w.setCells h.b (h.n * 6) cs) A n c cs' := fun {A n k c t cs'} ht hw hr => by
        refine ⟨fun hn => ?_, RdC.keepN hr fun hn b o hA i v hcl => ?_⟩
        · obtain ⟨b, o, cur, e, hg, hb, hs⟩ := hw hn
          exact ⟨b, o, cur, e, hg, (hW b hg ⟨cur, t, hb, ht⟩).trans hb, hs⟩
        · obtain ⟨b2, o2, cur, e, hg, hb, hs⟩ := hw hn
          rw [hA] at e
          injection e with e
          injection e with e1 e2
          subst e1
          exact (World.cell?_of_block (w := w) (a := ⟨b, o + i, none⟩) (hW b hg ⟨cur, t, hb, ht⟩)).trans hcl
      obtain ⟨a8, a6⟩ := keepW (by decide) h8 h6
      obtain ⟨a9, a7⟩ := keepW (by decide) h9 h7
      refine ⟨⟨h.b, h.n + 1, h.c⟩, _, run, ⟨⟨⟨cur', e1, by simp only; omega⟩, fun i hi => ?_, by rw [List.length_append, hn]; rfl, by simp, hs, rl.cap, fun _ => .inl (rl.own hs), .inl rl.gb⟩, by rw [size_setCells]; exact Nat.le_refl _, .inl ⟨h, cur, cs, rfl, hs, rl.own hs, rl.gb, hb, by omega, rfl, rfl⟩⟩⟩
      have hi : i < h.n + 1 := hi
      by_cases hir : i < h.n
      · rw [rc_getD_old rs r (by omega)]
        exact r2.rc i hir
      · obtain rfl : i = rs.length := by omega
        rw [rc_getD_new]
        refine roCells_of e1 (fun j hj => ?_) a6 a7 a8 a9
        rw [hCS, hn]
        exact e4 j (by omega)
    · have hc' : h.n = h.c := Nat.le_antisymm rl.le hs
      have hle : h.n * 6 ≤ cur.toList.length := by simp; omega
      obtain ⟨v', w', hrun, ho, hg⟩ := run_append_arg_grows (P := Tryz.prog) w 32 ty 51 i _ 6 96 hT h1 h2 h3 h4 rfl (by omega) ⟨h.b, 0, none⟩ h.n h.c (cur.toList.take (h.n * 6)) (by rw [List.length_take]; omega) (fun j u hj => by
        rw [List.getElem?_take] at hj
        split at hj
        · rw [add_plain, cell_of_row w h.b _ _ _ _ hb, Nat.zero_add, ← Array.getElem?_toList]
          exact hj
        · cases hj) a 1 c cs (by rw [hl6]) hnew (by omega) (by unfold maxLen; omega) (by omega)
      rw [← hn] at ho
      obtain ⟨h', rfl, out⟩ := fin v' w' _ (by rw [List.length_take, hn]; omega) (fun i hi w'' _ hbl b2 cur2 hb2 hc2 => by
        refine (rl.rc i (by omega)).move (fun j v hj hv => ?_) (fun k _ hk _ => hbl.block k (hWlt k hk)) (fun _ h => h)
        rw [cell_of_row w h.b _ _ _ _ hb] at hv
        rw [cell_of_row w'' b2 _ _ _ _ hb2, hc2 _ (by omega), List.getElem?_take_of_lt (by omega), Array.getElem?_toList]
        exact hv) ho hg
      exact ⟨h', w', hrun, out⟩
  · obtain ⟨v', w', hrun, ho, hg, _⟩ := run_append_own_at (P := Tryz.prog) w w.heap.size 32 ty 51 i _ 6 96 hT h1 h2 h3 h4 rfl (by omega) (.slice none 0 0) 0 [] ⟨by simp, .inl ⟨rfl, rfl⟩⟩ a 1 c cs (by rw [hl6]) hnew hone (by unfold maxLen; omega) (by omega) (Nat.le_refl _)
    obtain ⟨h', rfl, out⟩ := fin v' w' [] rfl (fun i hi => absurd hi (Nat.not_lt_zero _)) (by simpa using ho) hg
    exact ⟨h', w', hrun, out⟩
set_option maxRecDepth 100000 in
theorem wpList_rapp {r : Rc} {T Y : Option Addr} {nT cT nY cY : Nat} {ops : Array Oper} {rest : List Oper} {o : Oper} {ac : Act} {Q : Exit → Act → World → Prop} (hgd : o.guard = none) (s x : Operand)
    (ho : o.op = .call { callee := .builtin .append, args := #[s, x], argTypes := #[32, 32] })
    {sv : Value} (hs : ac.eval s = sv) (hsv : sv = mkX old) {a : Addr} {c : Nat} (hx : ac.eval x = .slice (some a) 1 c) (hold : OldR w F G W old rs) (hlen : rs.length ≤ 1000000) (hl : ∀ j v, (rcV r T nT cT Y nY cY)[j]? = some v → w.cell? (a.add j) = some v)
    (h6 : RdS w T nT cT r.e.tags) (h7 : RdF w Y nY cY r.e.fs) (h8 : Wr w W T nT 1 9) (h9 : Wr w W Y nY 2 85) (hWlt : ∀ k, W k → k < w.heap.size)
    (h : ∀ h' w', RapOut w w' F G W old rs r h' → wpList Tryz.prog ops Q rest (ac.put o.dst (.slice (some ⟨h'.b, 0, none⟩) h'.n h'.c)) w') : wpList Tryz.prog ops Q (o :: rest) ac w := by
  obtain ⟨h', w', hrun, out⟩ := rapp_any hold hlen hl h6 h7 h8 h9 hWlt o.type
  refine wpList_plain hgd fun _ hK => ?_
  unfold Oper.wp execOp
  simp only [ho, resolve, invoke, builtin, Sem.run_bind, Sem.run_pure, Result.andThen_ok, List.map_toArray, List.map_cons, List.map_nil, hs, hsv, hx]
  rw [hrun]
  exact hK _ _ (h h' w' out)
end

end Go.Proofs.YtiplfhmimpkplaaGreat.IxWalk

/-
  Maps by names: a map's entries as a function of texts; a range over it, what has come. No function of the program here.
-/
namespace Go.Proofs.YtiplfhmimpkplaaGreat.NMap
open Go.RowKit Go.Maps Go.Proofs.YtiplfhmimpkplaaGreat.MemRow Go.Proofs.YtiplfhmimpkplaaGreat.Ev Go.Proofs.YtiplfhmimpkplaaGreat.NameMath Go.Proofs.YtiplfhmimpkplaaGreat.NameWalk Go.Proofs.YtiplfhmimpkplaaGreat.EvWalk

/-! ### Keys -/
def keyN (s : ByteArray) : Lit := .string s.data.toList
theorem keyN_inj {a b : ByteArray} (h : keyN a = keyN b) : a = b := by
  unfold keyN at h
  injection h with h
  exact ByteArray.ext (Array.ext' h)
theorem keyN_same (a b : ByteArray) : (keyN a).sameKey (keyN b) = decide (a = b) := by
  by_cases h : a = b
  · subst h
    simp [keyN, Lit.sameKey]
  · rw [decide_eq_false h]
    exact sameKey_ne fun e => h (keyN_inj e)
/-- What is still to come behind the name s. -/
def cutN (left : Lit → Bool) (s : ByteArray) : Lit → Bool := fun z => left z && !z.sameKey (keyN s)
theorem cutN_at (left : Lit → Bool) (s t : ByteArray) : cutN left s (keyN t) = (left (keyN t) && !decide (t = s)) := by
  unfold cutN
  rw [keyN_same]
theorem keyedN : Keyed Tryz.prog 9 := string_keyed Tryz.underlying9
theorem keyN_of {s : ByteArray} (h : s.size ≤ maxLen) : keyOf Tryz.prog 9 (.string s) = some (keyN s) := Go.WideMaps.keyOf_string_mk Tryz.underlying9 h

/-! ### What has come already -/
def cameN (left : Lit → Bool) (ns : List ByteArray) : List ByteArray := ns.filter fun s => !left (keyN s)
theorem cameN_start {left : Lit → Bool} {ns : List ByteArray} (h : ∀ s ∈ ns, left (keyN s) = true) : cameN left ns = [] :=
  List.filter_eq_nil_iff.2 fun s hs => by rw [h s hs]; decide
theorem cameN_end {left : Lit → Bool} (ns : List ByteArray) (h : ∀ kl, left kl = false) : cameN left ns = ns :=
  List.filter_eq_self.2 fun s _ => by rw [h]; rfl
theorem cameN_mem {left : Lit → Bool} {ns : List ByteArray} {t : ByteArray} : t ∈ cameN left ns ↔ t ∈ ns ∧ left (keyN t) = false := by
  unfold cameN
  rw [List.mem_filter]
  simp
theorem cameN_step {left : Lit → Bool} {ns : List ByteArray} {s : ByteArray} (hs : s ∈ ns) (t : ByteArray) : t ∈ cameN (cutN left s) ns ↔ t = s ∨ t ∈ cameN left ns := by
  rw [cameN_mem, cameN_mem, cutN_at]
  by_cases h : t = s
  · subst h
    simp [hs]
  · simp [h]

/-! ### The map as data -/
section
variable {H : Type}
/-- The map holds just these names, each with its datum. -/
structure NOf (M : DataW H) (ns : List ByteArray) (h : ByteArray → H) : Prop where
  keys : ∀ kl, has M kl = true ↔ ∃ s ∈ ns, kl = keyN s
  at_ : ∀ s ∈ ns, ∀ z, M.atKey (keyN s) z = .held (h s)
theorem NOf.empty (h : ByteArray → H) : NOf (.map []) [] h := ⟨fun kl => ⟨fun h => (by cases h), fun ⟨_, h, _⟩ => (by simp at h)⟩, fun _ h => (by simp at h)⟩
variable {M : DataW H} {ns ns' : List ByteArray} {h h' : ByteArray → H}
theorem NOf.same (o : NOf M ns h) (hn : ∀ s, s ∈ ns' ↔ s ∈ ns) (hk : ∀ s ∈ ns, h' s = h s) : NOf M ns' h' := by
  refine ⟨fun kl => (o.keys kl).trans ⟨fun ⟨s, hs, e⟩ => ⟨s, (hn s).2 hs, e⟩, fun ⟨s, hs, e⟩ => ⟨s, (hn s).1 hs, e⟩⟩, fun s hs z => ?_⟩
  rw [o.at_ s ((hn s).1 hs), hk s ((hn s).1 hs)]
theorem NOf.put (o : NOf M ns h) (hM : IsMap M) {s : ByteArray} (hn : ∀ t, t ∈ ns' ↔ t = s ∨ t ∈ ns) (ho : ∀ t, t ≠ s → h' t = h t) : NOf (M.put (keyN s) (.held (h' s))) ns' h' := by
  refine ⟨fun kl => ?_, fun t ht z => ?_⟩
  · by_cases e : kl = keyN s
    · subst e
      rw [show has (M.put (keyN s) (.held (h' s))) (keyN s) = true from has_put_same (k := .string _) hM trivial _]
      exact ⟨fun _ => ⟨s, (hn s).2 (.inl rfl), rfl⟩, fun _ => rfl⟩
    · rw [has_put_other e, o.keys]
      constructor
      · rintro ⟨t, ht, rfl⟩
        exact ⟨t, (hn t).2 (.inr ht), rfl⟩
      · rintro ⟨t, ht, rfl⟩
        rcases (hn t).1 ht with rfl | ht
        · exact absurd rfl e
        · exact ⟨t, ht, rfl⟩
  · by_cases e : t = s
    · subst e
      exact atKey_put_same (k := .string _) hM trivial _ _
    · rw [atKey_put_other (fun x => e (keyN_inj x)), o.at_ t (((hn t).1 ht).resolve_left e), ho _ e]
theorem NOf.yes (o : NOf M ns h) {s : ByteArray} (hk : s ∈ ns) : has M (keyN s) = true := (o.keys _).2 ⟨s, hk, rfl⟩
theorem NOf.no (o : NOf M ns h) {s : ByteArray} (hk : ¬ s ∈ ns) : has M (keyN s) = false := by
  rw [← Bool.not_eq_true, o.keys]
  rintro ⟨t, ht, e⟩
  rw [keyN_inj e] at hk
  exact hk ht
theorem nodup_keysN (hr : ns.Nodup) : (ns.map keyN).Nodup := by
  unfold List.Nodup at hr ⊢
  rw [List.pairwise_map]
  exact hr.imp fun h1 e => h1 (keyN_inj e)
theorem NOf.perm (o : NOf M ns h) (c : Canon M) (hr : ns.Nodup) : ∃ es, M = .map es ∧ (es.map (·.1)).Perm (ns.map keyN) := by
  obtain ⟨es, rfl, hp, hk⟩ := c
  refine ⟨es, rfl, (List.perm_ext_iff_of_nodup ?_ (nodup_keysN hr)).2 fun kl => ?_⟩
  · unfold List.Nodup
    rw [List.pairwise_map]
    exact apart_of_rising hp
  · have h1 := o.keys kl
    rw [has_eq, List.any_eq_true] at h1
    rw [List.mem_map, List.mem_map]
    constructor
    · rintro ⟨p, hp', rfl⟩
      obtain ⟨f, hf, e⟩ := h1.1 ⟨p, hp', WideAt.sameKey_self (hk p hp')⟩
      exact ⟨f, hf, e.symm⟩
    · rintro ⟨f, hf, rfl⟩
      obtain ⟨p, hp', e⟩ := h1.2 ⟨f, hf, rfl⟩
      exact ⟨p, hp', WideAt.sameKey_eq e⟩
theorem NOf.size (o : NOf M ns h) (c : Canon M) (hr : ns.Nodup) : Maps.size M = ns.length := by
  obtain ⟨es, rfl, hp⟩ := o.perm c hr
  have := hp.length_eq
  rw [size_eq]
  simpa using this
theorem NOf.strs (o : NOf M ns h) (c : Canon M) (hr : ns.Nodup) : (strKeys M).Perm (ns.map fun s => s.data.toList) := by
  obtain ⟨es, rfl, hp⟩ := o.perm c hr
  have := hp.map strOf
  rw [List.map_map, List.map_map] at this
  exact this
end
theorem sorted_strs {ns : List ByteArray} (hr : Up ns) {ss : List (List UInt8)} (hp : ss.Perm (ns.map fun s => s.data.toList)) : (ss.mergeSort leB).map Go.Proofs.encStr = MemRow.strs ns := by
  have h : (ns.map fun s => s.data.toList).Pairwise fun a b => leB a b = true := by
    unfold Up at hr
    rw [List.pairwise_map]
    refine hr.imp fun {a b} h1 => ?_
    rw [less_eq] at h1
    simp only [leB, decide_eq_true_eq] at h1 ⊢
    exact List.le_of_lt h1
  rw [mergeSort_of_perm hp, List.mergeSort_of_pairwise h]
  unfold MemRow.strs
  rw [List.map_map]
  refine List.map_congr_left fun f _ => ?_
  simp [Go.Proofs.encStr]
theorem up_nodupN {ns : List ByteArray} (h : Up ns) : ns.Nodup := h.imp fun h1 => less_ne h1

/-! ### The map in memory -/
section
variable {H : Type}
theorem tightN {w : World} {P : Program} {k : TypeId} {R : Value → Option (DataW H × List MemPlace)} {b n : Nat} {M : DataW H} (h : w.ownsMap P k R b n M) : w.ownsMap P k R b (Maps.size M) M := by
  obtain ⟨es, clock, hb, F, hs, hD⟩ := h
  refine ⟨es, clock, hb, F, ?_, hD⟩
  rw [hD, size_eq, length_sorted]
  simp
theorem isMapN {w : World} {R : Value → Option (DataW H × List MemPlace)} {b n : Nat} {M : DataW H} (h : w.ownsMap Tryz.prog 9 R b n M) : IsMap M := by
  obtain ⟨es, e, _⟩ := h.canon keyedN
  exact ⟨es, e⟩
theorem run_makeHintN {P : Program} {t k e : TypeId} (hu : P.underlying t = some (.map k e)) (q : IntKind) (n : Int) (w : World) : (Instr.makeMap t (some (.int q n))).run P w = .ok (.map (some w.heap.size)) (w.alloc (.map #[] 0)) := by
  simp [Instr.makeMap, run_underlying hu, asInt, asIntOf, Result.andThen]

variable (w : World) {ops : Array Oper} {rest : List Oper} {o : Oper} {a : Act} {Q : Exit → Act → World → Prop}
/-- The step of a range over a map by names; mkV, inv: the elements' shape; val: the element of a name. -/
theorem wpList_next_ns {β : Type} (R : Value → Option (DataW H × List MemPlace)) (mkV : β → Value) (inv : ∀ v y, R v = some y → ∃ c, v = mkV c) (val : H → Value) (hval : ∀ v x ps, R v = some (.held x, ps) → v = val x)
    (hg : o.guard = none) (it : Operand) (hop : o.op = Op.next it false) {M : DataW H} {ns : List ByteArray} {h : ByteArray → H} (mp : NOf M ns h) (b r n : Nat) (left : Lit → Bool) (cnt : Nat)
    (hit : a.eval it = .pointer (some ⟨r, 0, none⟩)) (hr : w.ranges Tryz.prog 9 R b r n M left cnt)
    (hDone : cnt = 0 → (∀ kl, left kl = false) → wpList Tryz.prog ops Q rest (a.put o.dst (.tuple #[.bool false])) w)
    (hMore : ∀ (s : ByteArray), s ∈ ns → ∀ (w' : World) (cnt' : Nat), left (keyN s) = true → s.size ≤ maxLen → w'.ranges Tryz.prog 9 R b r n M (cutN left s) cnt' → cnt' < cnt → w.grownBy w' (some r) → w'.heap.size = w.heap.size →
      (Instr.entry (.pointer (some ⟨r, 0, none⟩))).run Tryz.prog w' = .ok (.tuple #[.string s, val (h s)]) w' → wpList Tryz.prog ops Q rest (a.put o.dst (.tuple #[.bool true, .string s, val (h s)])) w') :
    wpList Tryz.prog ops Q (o :: rest) a w := by
  refine wpList_next_ranges w hg it hop 9 keyedN R Go.Proofs.encStr mkV (fun key kl hk => by obtain ⟨x, hx, _⟩ := Maps.keyOf_str Tryz.underlying9 hk; exact ⟨x, hx⟩) inv b r n M left cnt hit hr hDone ?_
  intro x c kl y w' cnt' hkey hlk hv hat hrg hlt hgr hsz hen
  obtain ⟨x', ex, rfl, hxl⟩ := Maps.keyOf_str Tryz.underlying9 hkey
  obtain rfl := encStr_inj ex
  obtain ⟨s, hs, ek⟩ := (mp.keys _).1 (has_true_of_atKey hat)
  have hx : x = s.data.toList := by
    unfold keyN at ek
    injection ek
  have e1 : Go.Proofs.encStr x = .string s := by
    rw [hx]
  obtain ⟨yd, yp⟩ := y
  have e2 : mkV c = val (h s) := by
    have h1 := hat .nil
    rw [ek, mp.at_ s hs] at h1
    refine hval _ _ yp ?_
    rw [hv]
    simp only at h1
    rw [h1]
  rw [ek] at hlk hrg
  rw [e1, e2] at hen ⊢
  refine hMore s hs w' cnt' hlk ?_ hrg hlt hgr hsz hen
  have := size_list s
  rw [hx] at hxl
  omega
end

end Go.Proofs.YtiplfhmimpkplaaGreat.NMap

/-
  The landed index in memory: its block of six cells; a map by names that may be none.
-/
namespace Go.Proofs.YtiplfhmimpkplaaGreat.InWalk
open Go.RowKit Go.Maps Go.Proofs.YtiplfhmimpkplaaGreat.MemRow Go.Proofs.YtiplfhmimpkplaaGreat.Ev Go.Proofs.YtiplfhmimpkplaaGreat.NameMath Go.Proofs.YtiplfhmimpkplaaGreat.NameWalk Go.Proofs.YtiplfhmimpkplaaGreat.EvWalk Go.Proofs.YtiplfhmimpkplaaGreat.NumMem Go.Proofs.YtiplfhmimpkplaaGreat.NMap Go.Proofs.YtiplfhmimpkplaaGreat.DkWalk

/-! ### The block of an index -/
def XBx (w : World) (g : Nat) (r m lp a t y : Value) : Prop := w.heap[g]? = some (.cells #[r, m, lp, a, t, y] 62 (0, 0))
section
variable {w w' : World} {g : Nat} {r m lp a t y : Value}
theorem XBx.lt (h : XBx w g r m lp a t y) : g < w.heap.size := (Array.getElem?_eq_some_iff.1 h).1
theorem XBx.c0 (h : XBx w g r m lp a t y) : w.cell? ⟨g, 0, none⟩ = some r := by rw [cell_of_row w g 0 _ _ _ h]; rfl
theorem XBx.c1 (h : XBx w g r m lp a t y) : w.cell? ⟨g, 1, none⟩ = some m := by rw [cell_of_row w g 1 _ _ _ h]; rfl
theorem XBx.c2 (h : XBx w g r m lp a t y) : w.cell? ⟨g, 2, none⟩ = some lp := by rw [cell_of_row w g 2 _ _ _ h]; rfl
theorem XBx.c3 (h : XBx w g r m lp a t y) : w.cell? ⟨g, 3, none⟩ = some a := by rw [cell_of_row w g 3 _ _ _ h]; rfl
theorem XBx.c4 (h : XBx w g r m lp a t y) : w.cell? ⟨g, 4, none⟩ = some t := by rw [cell_of_row w g 4 _ _ _ h]; rfl
theorem XBx.c5 (h : XBx w g r m lp a t y) : w.cell? ⟨g, 5, none⟩ = some y := by rw [cell_of_row w g 5 _ _ _ h]; rfl
set_option maxRecDepth 100000 in
theorem XBx.frozen (h : XBx w g r m lp a t y) (i : Nat) : w.frozen? ⟨g, i, none⟩ = false := by
  unfold XBx at h
  simp [World.frozen?, h]
theorem XBx.at_ (h : XBx w g r m lp a t y) (hk : w'.heap[g]? = w.heap[g]?) : XBx w' g r m lp a t y := hk.trans h
theorem XBx.below (h : XBx w g r m lp a t y) (hb : Below w.heap.size w w') : XBx w' g r m lp a t y := (hb.block g h.lt).trans h
theorem XBx.ch {F : Nat → Prop} (h : XBx w g r m lp a t y) (hc : Ch F w w') (hn : ¬ F g) : XBx w' g r m lp a t y := (hc.block g h.lt hn).trans h
set_option maxRecDepth 100000 in
theorem XBx.set0 (h : XBx w g r m lp a t y) (x : Value) : XBx (w.setCell ⟨g, 0, none⟩ x) g x m lp a t y := by
  unfold XBx at h ⊢
  simp only [World.setCell, Array.getElem?_modify, h]
  rfl
set_option maxRecDepth 100000 in
theorem XBx.set1 (h : XBx w g r m lp a t y) (x : Value) : XBx (w.setCell ⟨g, 1, none⟩ x) g r x lp a t y := by
  unfold XBx at h ⊢
  simp only [World.setCell, Array.getElem?_modify, h]
  rfl
set_option maxRecDepth 100000 in
theorem XBx.set2 (h : XBx w g r m lp a t y) (x : Value) : XBx (w.setCell ⟨g, 2, none⟩ x) g r m x a t y := by
  unfold XBx at h ⊢
  simp only [World.setCell, Array.getElem?_modify, h]
  rfl
set_option maxRecDepth 100000 in
theorem XBx.set3 (h : XBx w g r m lp a t y) (x : Value) : XBx (w.setCell ⟨g, 3, none⟩ x) g r m lp x t y := by
  unfold XBx at h ⊢
  simp only [World.setCell, Array.getElem?_modify, h]
  rfl
set_option maxRecDepth 100000 in
theorem XBx.set4 (h : XBx w g r m lp a t y) (x : Value) : XBx (w.setCell ⟨g, 4, none⟩ x) g r m lp a x y := by
  unfold XBx at h ⊢
  simp only [World.setCell, Array.getElem?_modify, h]
  rfl
set_option maxRecDepth 100000 in
theorem XBx.set5 (h : XBx w g r m lp a t y) (x : Value) : XBx (w.setCell ⟨g, 5, none⟩ x) g r m lp a t x := by
  unfold XBx at h ⊢
  simp only [World.setCell, Array.getElem?_modify, h]
  rfl
theorem XBx.new (w : World) (r m lp a t y : Value) : XBx (w.alloc (.cells #[r, m, lp, a, t, y] 62)) w.heap.size r m lp a t y := heap_alloc_new w _
end
set_option maxRecDepth 100000 in
theorem put_other (w : World) (b i : Nat) (v : Value) {k : Nat} (h : k ≠ b) : (w.setCell ⟨b, i, none⟩ v).heap[k]? = w.heap[k]? := by
  have : b ≠ k := fun e => h e.symm
  simp [World.setCell, Array.getElem?_modify, this]
set_option maxRecDepth 100000 in
theorem put_grown (w : World) (g i : Nat) (x : Value) : w.grownBy (w.setCell ⟨g, i, none⟩ x) (some g) := by
  refine ⟨rfl, rfl, rfl, by simp [World.setCell], fun k _ hne => ?_⟩
  exact put_other w g i x fun e => hne (by rw [e])
theorem put_ch {F : Nat → Prop} (w : World) {g : Nat} (i : Nat) (x : Value) (h : F g) : Ch F w (w.setCell ⟨g, i, none⟩ x) := Ch.of_grown (put_grown w g i x) fun r e => by injection e with e; subst e; exact .inl h

/-! ### A map by names, or none -/
section
variable {H : Type} {R : Value → Option (DataW H × List MemPlace)} {w w' : World} {mb : Option Nat} {M : DataW H} {ns : List ByteArray} {f : ByteArray → H}
def OwnM (R : Value → Option (DataW H × List MemPlace)) (w : World) (mb : Option Nat) (M : DataW H) : Prop :=
  match mb with
  | some b => w.ownsMap Tryz.prog 9 R b (Maps.size M) M
  | none => M = .map []
set_option maxRecDepth 100000 in
theorem OwnM.kept (h : OwnM R w mb M) (hk : ∀ b, mb = some b → w'.heap[b]? = w.heap[b]?) : OwnM R w' mb M := by
  cases mb with
  | none => exact h
  | some b =>
    obtain ⟨es, clock, hb, ft, hn, hD⟩ := h
    exact ⟨es, clock, (hk b rfl).trans hb, ft, hn, hD⟩
set_option maxRecDepth 100000 in
theorem OwnM.block (h : OwnM R w mb M) {b : Nat} (e : mb = some b) : ∃ es clock, w.heap[b]? = some (.map es clock) := by
  subst e
  obtain ⟨es, clock, hb, _⟩ := h
  exact ⟨es, clock, hb⟩
set_option maxRecDepth 100000 in
theorem OwnM.isMap (h : OwnM R w mb M) : IsMap M := by
  cases mb with
  | none => exact ⟨[], h⟩
  | some b => exact isMapN h
set_option maxRecDepth 100000 in
theorem NOf.none (o : NOf (.map []) ns f) : ns = [] := by
  cases ns with
  | nil => rfl
  | cons s ns =>
    have := o.yes (List.mem_cons_self (a := s) (l := ns))
    cases this
set_option maxRecDepth 100000 in
theorem OwnM.nil (h : OwnM R w none M) (o : NOf M ns f) : ns = [] := by
  have e : M = .map [] := h
  subst e
  exact NOf.none o
set_option maxRecDepth 100000 in
theorem OwnM.size (h : OwnM R w mb M) (o : NOf M ns f) (hn : ns.Nodup) : Maps.size M = ns.length := by
  cases mb with
  | none =>
    rw [h.nil o]
    have e : M = .map [] := h
    subst e
    rfl
  | some b => exact o.size (World.ownsMap.canon h keyedN) hn
set_option maxRecDepth 100000 in
theorem OwnM.lookup {t e : TypeId} (h : OwnM R w mb M) (ht : Tryz.prog.underlying t = some (.map 9 e)) {z : Value} (hz : (zeroValue e).run Tryz.prog w = .ok z w) (hR : R z = some (.nil, [])) {s : ByteArray} (hs : s.size ≤ maxLen) :
    ∃ v ps, (Instr.lookup t (.map mb) (.string s) false).run Tryz.prog w = .ok v w ∧ R v = some (M.atKey (keyN s) .nil, ps) := by
  cases mb with
  | none =>
    have e : M = .map [] := h
    subst e
    exact ⟨z, [], Maps.look_nil false keyedN ht hz (keyN_of hs), hR⟩
  | some b => exact World.ownsMap.lookup h keyedN ht hz hR (keyN_of hs)
end

end Go.Proofs.YtiplfhmimpkplaaGreat.InWalk

/-
  Contracts of the landed index: copyOf, and the library's Clone at texts and at fields.
-/
namespace Go.Proofs.YtiplfhmimpkplaaGreat.IxWalk
open Go.RowKit Go.Maps Go.Proofs.YtiplfhmimpkplaaGreat.MemRow Go.Proofs.YtiplfhmimpkplaaGreat.Ev Go.Proofs.YtiplfhmimpkplaaGreat.NameMath Go.Proofs.YtiplfhmimpkplaaGreat.NameWalk Go.Proofs.YtiplfhmimpkplaaGreat.EvWalk Go.Proofs.YtiplfhmimpkplaaGreat.NumMem Go.Proofs.YtiplfhmimpkplaaGreat.Qu Go.Proofs.YtiplfhmimpkplaaGreat.QuWalk Go.Proofs.YtiplfhmimpkplaaGreat.SmWalk Go.Proofs.YtiplfhmimpkplaaGreat.BtWalk Go.Proofs.YtiplfhmimpkplaaGreat.DkWalk Go.Proofs.YtiplfhmimpkplaaGreat.InWalk

theorem wr_ownX {w : World} {k base : Nat} {t : TypeId} {A : Option Addr} {n c : Nat} {cs : List Value} {G : Nat → Prop} (h : OwnC k w base t A n c cs) (hG : ∀ a, A = some a → G a.block) : Wr w G A n k t := fun hn => by
  rcases h.2 with ⟨hv, h0⟩ | ⟨g, c', cur, hv, _, hg, hnc, _, hcs, _⟩
  · omega
  · injection hv with e1 _ e3
    subst e1
    refine ⟨g, 0, cur, rfl, hG _ rfl, hg, ?_⟩
    have := Nat.mul_le_mul_right k hnc
    omega
section
variable {w w' : World} {g : Nat} {v0 v1 v2 v3 v4 v5 : Value}
theorem RxAt.set4 (h : RxAt w g v0 v1 v2 v3 v4 v5) (x : Value) : RxAt (w.setCell ⟨g, 4, none⟩ x) g v0 v1 v2 v3 x v5 := by
  unfold RxAt at h ⊢
  simp only [World.setCell, Array.getElem?_modify, h]
  rfl
theorem RxAt.set5 (h : RxAt w g v0 v1 v2 v3 v4 v5) (x : Value) : RxAt (w.setCell ⟨g, 5, none⟩ x) g v0 v1 v2 v3 v4 x := by
  unfold RxAt at h ⊢
  simp only [World.setCell, Array.getElem?_modify, h]
  rfl
theorem RxAt.far {b i : Nat} (h : RxAt w g v0 v1 v2 v3 v4 v5) (hne : g ≠ b) (x : Value) : RxAt (w.setCell ⟨b, i, none⟩ x) g v0 v1 v2 v3 v4 v5 := (put_other w b i x hne).trans h
end
set_option maxHeartbeats 4000000 in
set_option maxRecDepth 100000 in
theorem cloneS_any (A : Option Addr) (n c : Nat) (l : List ByteArray) (w : World) (h : RdS w A n c l) (hn : n ≤ 1000000) :
    Calls Tryz.prog 57 #[.slice A n c] w fun e w' => ∃ B m cb, e = .returned (.slice B m cb) ∧ OwnC 1 w' w.heap.size 9 B m cb (MemRow.strs l) ∧ Below w.heap.size w w' := by
  have qn : ∀ W, (binOp .eql 39 (.slice A n c) (.slice none 0 0)).run Tryz.prog W = .ok (.bool A.isNone) W := fun W => Lib.run_eql_slice_nil W _ _ _ _ _ _ _ Tryz.underlying39
  have hlen := h.len
  cases A with
  | none =>
    have h0 : n = 0 := by
      rcases Nat.eq_zero_or_pos n with h0 | h0
      · exact h0
      · obtain ⟨b, o, e, _⟩ := RdS.at_ h h0
        cases e
    subst h0
    obtain rfl : l = [] := List.eq_nil_of_length_eq_zero hlen
    go_enter Tryz.func57, Tryz.ntmps57
    go_wp2_with fail
    go_ret
    exact ⟨none, 0, 0, rfl, OwnC.nil _ _, Below.refl _ _⟩
  | some a =>
    have al : Below w.heap.size w (w.alloc (.cells #[] 9)) := (Below.refl _ _).alloc (Nat.le_refl _) _
    have r2 : RdC 1 (w.alloc (.cells #[] 9)) (some a) n c (MemRow.strs l) := RdC.below h al
    go_enter Tryz.func57, Tryz.ntmps57
    go_wp2_with (at_builtin; refine wpList_copy_cells rfl (.tmp 5) (.tmp 6) 39 rfl 9 (.string ByteArray.empty) 16 Tryz.underlying39 string_info rfl (by decide) rfl rfl (OwnC.empty w 9 (Nat.le_refl _)) r2 (strs_one l) (by unfold maxLen; omega) (by omega) al.size al ?_; intro A5 c5 w5 o5 b5)
    go_ret
    exact ⟨A5, n, c5, rfl, o5, b5⟩
set_option maxHeartbeats 4000000 in
set_option maxRecDepth 100000 in
theorem cloneF_any (A : Option Addr) (n c : Nat) (l : List (ByteArray × Int)) (w : World) (h : RdF w A n c l) (hn : n ≤ 1000000) :
    Calls Tryz.prog 58 #[.slice A n c] w fun e w' => ∃ B m cb, e = .returned (.slice B m cb) ∧ OwnC 2 w' w.heap.size 85 B m cb (flds l) ∧ Below w.heap.size w w' := by
  have qn : ∀ W, (binOp .eql 40 (.slice A n c) (.slice none 0 0)).run Tryz.prog W = .ok (.bool A.isNone) W := fun W => Lib.run_eql_slice_nil W _ _ _ _ _ _ _ Tryz.underlying40
  have hlen := h.len
  cases A with
  | none =>
    have h0 : n = 0 := by
      rcases Nat.eq_zero_or_pos n with h0 | h0
      · exact h0
      · obtain ⟨b, o, e, _⟩ := RdF.at_ h h0
        cases e
    subst h0
    obtain rfl : l = [] := List.eq_nil_of_length_eq_zero hlen
    go_enter Tryz.func58, Tryz.ntmps58
    go_wp2_with fail
    go_ret
    exact ⟨none, 0, 0, rfl, OwnC.nil _ _, Below.refl _ _⟩
  | some a =>
    have al : Below w.heap.size w (w.alloc (.cells #[] 85)) := (Below.refl _ _).alloc (Nat.le_refl _) _
    have r2 : RdC 2 (w.alloc (.cells #[] 85)) (some a) n c (flds l) := RdC.below h al
    go_enter Tryz.func58, Tryz.ntmps58
    go_wp2_with (at_builtin; refine wpList_copy_cells rfl (.tmp 5) (.tmp 6) 40 rfl 85 (.agg #[.string ⟨#[]⟩, .int .i64 0]) 24 Tryz.underlying40 field_info rfl (by decide) rfl rfl (OwnC.empty w 85 (Nat.le_refl _)) r2 (flds_one l) (by unfold maxLen; omega) (by omega) al.size al ?_; intro A5 c5 w5 o5 b5)
    go_ret
    exact ⟨A5, n, c5, rfl, o5, b5⟩

theorem rdF_put {w : World} {A : Option Addr} {n c g : Nat} {l : List (ByteArray × Int)} (h : RdF w A n c l) (hne : 0 < n → ∀ a, A = some a → a.block ≠ g) (i : Nat) (x : Value) : RdF (w.setCell ⟨g, i, none⟩ x) A n c l :=
  RdC.keepN h fun hn b o hA j _ hv => (World.cell?_of_block (w := w) (a := ⟨b, o + j, none⟩) (put_other w g i x (hne hn ⟨b, o, none⟩ hA))).trans hv
theorem own_lowX {k : Nat} {w : World} {base b : Nat} {t : TypeId} {A : Option Addr} {n c : Nat} {cs : List Value} (h : OwnC k w base t A n c cs) (hb : b ≤ base) : OwnC k w b t A n c cs := by
  refine ⟨h.1, ?_⟩
  rcases h.2 with h2 | ⟨g, c, cur, hv, hbg, rest⟩
  · exact .inl h2
  · exact .inr ⟨g, c, cur, hv, Nat.le_trans hb hbg, rest⟩
theorem grow_put {w w' : World} {g : Nat} (h : w.grownBy w' (some g)) (i : Nat) (x : Value) : w.grownBy (w'.setCell ⟨g, i, none⟩ x) (some g) :=
  ⟨h.os, h.tape, h.output, by have := h.size; simpa [World.setCell] using this, fun k hk hne => (put_other _ _ i x (fun e => hne (by rw [e]))).trans (h.block k hk hne)⟩
/-! ### copyOf -/
/-- What copyOf gives: the record, with rows of its own. -/
def CopyOut (w w' : World) (r : Rc) (e : Ending) : Prop := ∃ T nT cT Y nY cY, e = .returned (.agg #[.int .i64 r.pos, .int .i64 r.ver, .string r.e.s, .string r.e.t, .slice T nT cT, .slice Y nY cY]) ∧ OwnC 1 w' w.heap.size 9 T nT cT (MemRow.strs r.e.tags) ∧ OwnC 2 w' w.heap.size 85 Y nY cY (flds r.e.fs) ∧ Below w.heap.size w w'
set_option maxHeartbeats 4000000 in
set_option maxRecDepth 100000 in
theorem copyOf_any (r : Rc) (T F : Option Addr) (nT cT nF cF : Nat) (w : World) (h6 : RdS w T nT cT r.e.tags) (h7 : RdF w F nF cF r.e.fs) (hT : nT ≤ 1000000) (hF : nF ≤ 1000000) :
    Calls Tryz.prog 36 #[.agg #[.int .i64 r.pos, .int .i64 r.ver, .string r.e.s, .string r.e.t, .slice T nT cT, .slice F nF cF]] w fun e w' => CopyOut w w' r e := by
  obtain ⟨p, vr, ⟨es, et, ts, fs⟩⟩ := r
  simp only at h6 h7
  have b1 : Below w.heap.size w (w.alloc (.cells #[.int .i64 p, .int .i64 vr, .string es, .string et, .slice T nT cT, .slice F nF cF] 51)) := (Below.refl _ _).alloc (Nat.le_refl _) _
  have b2 := b1.alloc b1.size (.cells #[.int .i64 0, .int .i64 0, .string ⟨#[]⟩, .string ⟨#[]⟩, .slice none 0 0, .slice none 0 0] 51)
  have x1 := (RxAt.new w (.int .i64 p) (.int .i64 vr) (.string es) (.string et) (.slice T nT cT) (.slice F nF cF)).below ((Below.refl _ _).alloc (Nat.le_refl _) (.cells #[.int .i64 0, .int .i64 0, .string ⟨#[]⟩, .string ⟨#[]⟩, .slice none 0 0, .slice none 0 0] 51))
  have x2 := RxAt.new (w.alloc (.cells #[.int .i64 p, .int .i64 vr, .string es, .string et, .slice T nT cT, .slice F nF cF] 51)) (.int .i64 0) (.int .i64 0) (.string ⟨#[]⟩) (.string ⟨#[]⟩) (.slice none 0 0) (.slice none 0 0)
  have s1 : (w.alloc (.cells #[.int .i64 p, .int .i64 vr, .string es, .string et, .slice T nT cT, .slice F nF cF] 51)).heap.size = w.heap.size + 1 := by simp
  have s2 : ((w.alloc (.cells #[.int .i64 p, .int .i64 vr, .string es, .string et, .slice T nT cT, .slice F nF cF] 51)).alloc (.cells #[.int .i64 0, .int .i64 0, .string ⟨#[]⟩, .string ⟨#[]⟩, .slice none 0 0, .slice none 0 0] 51)).heap.size = w.heap.size + 2 := by simp
  rw [s1] at x2
  have h7' := RdC.below h7 b2
  have c1 := cloneS_any T nT cT ts _ (RdC.below h6 b2) hT
  have HA := Go.Lib.hid (show 0 < nF → ∀ a, F = some a → a.block ≠ w.heap.size from fun hn a ha e => by
    obtain ⟨b, o, hb, hlt, _⟩ := RdF.at_ h7 hn
    rw [ha] at hb
    injection hb with hb
    rw [hb] at e
    simp only at e
    omega)
  clear b1 s1
  go_enter Tryz.func36, Tryz.ntmps36
  go_upto_region 1 with (fail)
  generalize (w.alloc (.cells #[.int .i64 p, .int .i64 vr, .string es, .string et, .slice T nT cT, .slice F nF cF] 51)).alloc (.cells #[.int .i64 0, .int .i64 0, .string ⟨#[]⟩, .string ⟨#[]⟩, .slice none 0 0, .slice none 0 0] 51) = w1 at *
  have y4 := x1.c4
  have C1 := Go.Lib.hid c1
  have X1 := Go.Lib.hid x1
  have X2 := Go.Lib.hid x2
  have B2 := Go.Lib.hid b2
  have S2 := Go.Lib.hid s2
  have H7 := Go.Lib.hid h7'
  clear c1 x1 x2 b2 s2 h6 h7 h7'
  go_upto_region 2 with (first | (go_at_call 57; refine (C1.out).mono ?_; rintro e w3 ⟨T3, n3, c3, rfl, o3, b3⟩; have x3 := X1.out.below b3; have z4 := x3.frozen 4; have k4 := x3.c4; have X3 := Go.Lib.hid (x3.set4 (.slice T3 n3 c3)); have Y3 := Go.Lib.hid ((X2.out.below b3).far (b := w.heap.size) (i := 4) (by omega) (.slice T3 n3 c3)); have B3 := Go.Lib.hid (((B2.out.trans (b3.mono B2.out.size))).setCell (p := ⟨w.heap.size, 4, none⟩) (Nat.le_refl _) (.slice T3 n3 c3)); have O3 := Go.Lib.hid (OwnC.grown o3 (put_grown w3 w.heap.size 4 (.slice T3 n3 c3)) (fun a ha e => by have := (OwnC.lt o3 a ha).1; have := S2.out; injection e with e; omega)); have H3 := Go.Lib.hid (rdF_put (RdC.below H7.out b3) HA.out 4 (.slice T3 n3 c3)); have S3 := Go.Lib.hid (show w1.heap.size ≤ (w3.setCell ⟨w.heap.size, 4, none⟩ (.slice T3 n3 c3)).heap.size by simpa [World.setCell] using b3.size); clear x3 o3 b3))
  clear z4 k4 y4 C1 X1 X2 B2 H7
  generalize w3.setCell ⟨w.heap.size, 4, none⟩ (.slice T3 n3 c3) = w4 at *
  have y5 := X3.out.c5
  have C2 := Go.Lib.hid (cloneF_any F nF cF fs _ H3.out hF)
  clear H3
  go_upto_region 3 with (first | (go_at_call 58; refine (C2.out).mono ?_; rintro e w5 ⟨T5, n5, c5, rfl, o5, b5⟩; have x5 := X3.out.below b5; have z5 := x5.frozen 5; have k5 := x5.c5; have X5 := Go.Lib.hid (x5.set5 (.slice T5 n5 c5)); have Y5 := Go.Lib.hid ((Y3.out.below b5).far (b := w.heap.size) (i := 5) (by omega) (.slice T5 n5 c5)); have B5 := Go.Lib.hid (((B3.out.trans (b5.mono B3.out.size))).setCell (p := ⟨w.heap.size, 5, none⟩) (Nat.le_refl _) (.slice T5 n5 c5)); have O5 := Go.Lib.hid (OwnC.grown o5 (put_grown w5 w.heap.size 5 (.slice T5 n5 c5)) (fun a ha e => by have := (OwnC.lt o5 a ha).1; have := S2.out; have := S3.out; injection e with e; omega)); have P5 := Go.Lib.hid (OwnC.grown (OwnC.below O3.out b5) (put_grown w5 w.heap.size 5 (.slice T5 n5 c5)) (fun a ha e => by have := (OwnC.lt O3.out a ha).1; have := S2.out; injection e with e; omega)); clear x5 o5 b5))
  clear z5 k5 y5 C2 X3 Y3 B3 O3
  generalize w5.setCell ⟨w.heap.size, 5, none⟩ (.slice T5 n5 c5) = w6 at *
  have k0 := X5.out.c0
  have k1 := X5.out.c1
  have k2 := X5.out.c2
  have k3 := X5.out.c3
  have k4 := X5.out.c4
  have k5 := X5.out.c5
  have q0 := Y5.out.c0
  have q1 := Y5.out.c1
  have q2 := Y5.out.c2
  have q3 := Y5.out.c3
  have q4 := Y5.out.c4
  have q5 := Y5.out.c5
  have f0 := Y5.out.frozen 0
  have f1 := Y5.out.frozen 1
  have f2 := Y5.out.frozen 2
  have f3 := Y5.out.frozen 3
  have f4 := Y5.out.frozen 4
  have f5 := Y5.out.frozen 5
  have X7 := Y5.out.all (.int .i64 p) (.int .i64 vr) (.string es) (.string et) (.slice T3 n3 c3) (.slice T5 n5 c5)
  have G7 := grow_put (grow_put (grow_put (grow_put (grow_put (put_grown w6 (w.heap.size + 1) 0 (.int .i64 p)) 1 (.int .i64 vr)) 2 (.string es)) 3 (.string et)) 4 (.slice T3 n3 c3)) 5 (.slice T5 n5 c5)
  have O7 := Go.Lib.hid (OwnC.grown O5.out G7 (fun a ha e => by have := (OwnC.lt O5.out a ha).1; have := S2.out; have := S3.out; injection e with e; omega))
  have P7 := Go.Lib.hid (OwnC.grown P5.out G7 (fun a ha e => by have := (OwnC.lt P5.out a ha).1; have := S2.out; injection e with e; omega))
  have B7 := Go.Lib.hid (B5.out.grown G7 B5.out.size (fun k e => by injection e with e; omega))
  clear O5 P5 B5 G7
  go_wp2_with fail
  generalize (((((w6.setCell ⟨w.heap.size + 1, 0, none⟩ (.int .i64 p)).setCell ⟨w.heap.size + 1, 1, none⟩ (.int .i64 vr)).setCell ⟨w.heap.size + 1, 2, none⟩ (.string es)).setCell ⟨w.heap.size + 1, 3, none⟩ (.string et)).setCell ⟨w.heap.size + 1, 4, none⟩ (.slice T3 n3 c3)).setCell ⟨w.heap.size + 1, 5, none⟩ (.slice T5 n5 c5) = w7 at *
  have r0 := X7.c0
  have r1 := X7.c1
  have r2 := X7.c2
  have r3 := X7.c3
  have r4 := X7.c4
  have r5 := X7.c5
  exact bodyPost_ret (v := .agg #[.int .i64 p, .int .i64 vr, .string es, .string et, .slice T3 n3 c3, .slice T5 n5 c5]) (by simp [results, Tryz.results36, go_sem, r0, r1, r2, r3, r4, r5]) rfl ⟨T3, n3, c3, T5, n5, c5, rfl, own_lowX P7.out (by have := S2.out; omega), own_lowX O7.out (by have := S2.out; have := S3.out; omega), B7.out⟩

end Go.Proofs.YtiplfhmimpkplaaGreat.IxWalk

/-
  Rows of numbers; the document's answer Ints (layer 12).
-/
namespace Go.Proofs.YtiplfhmimpkplaaGreat.SmWalk
open Go.RowKit Go.Proofs.YtiplfhmimpkplaaGreat.MemRow Go.Proofs.YtiplfhmimpkplaaGreat.Ev Go.Proofs.YtiplfhmimpkplaaGreat.NameMath Go.Proofs.YtiplfhmimpkplaaGreat.NameWalk Go.Proofs.YtiplfhmimpkplaaGreat.EvWalk Go.Proofs.YtiplfhmimpkplaaGreat.NumMem

/-- Numbers in a row. -/
def nums (l : List Int) : List Value := l.map (.int .i64)
theorem nums_length (l : List Int) : (nums l).length = l.length := by simp [nums]
theorem nums_append (a b : List Int) : nums (a ++ b) = nums a ++ nums b := by simp [nums]
theorem nums_one (l : List Int) : ∀ v ∈ nums l, v.oneCell' = true := by
  intro v hv
  obtain ⟨x, _, rfl⟩ := List.mem_map.1 hv
  rfl
def RdI (w : World) (A : Option Addr) (n cap : Nat) (l : List Int) : Prop := RdC 1 w A n cap (nums l)
theorem RdI.len {w : World} {A : Option Addr} {n cap : Nat} {l : List Int} (h : RdI w A n cap l) : l.length = n := by have := h.1; rw [nums_length] at this; omega
theorem RdI.at_ {w : World} {A : Option Addr} {n cap : Nat} {l : List Int} (h : RdI w A n cap l) (hn : 0 < n) : ∃ b o, A = some ⟨b, o, none⟩ ∧ b < w.heap.size ∧ ∀ i, i < n → w.cell? ⟨b, o + i, none⟩ = some (.int .i64 (l.getD i 0)) := by
  obtain ⟨b, o, hA, hb, hc⟩ := RdC.at_ h (by decide) hn
  refine ⟨b, o, hA, hb, fun i hi => ?_⟩
  have hi' : i < l.length := by rw [h.len]; exact hi
  refine hc i _ ?_
  simp [nums, List.getD, List.getElem?_eq_getElem hi']

theorem int_info : (Tryz.prog.info? 3).map (fun i => (i.zero, i.size, i.bytes)) = some (some (.int .i64 0), 1, 8) := by kernel_rfl


end Go.Proofs.YtiplfhmimpkplaaGreat.SmWalk

/-
  Contracts of the landed index: copies, at: rows of records for the caller.
-/
namespace Go.Proofs.YtiplfhmimpkplaaGreat.IxWalk
open Go.RowKit Go.Maps Go.Proofs.YtiplfhmimpkplaaGreat.MemRow Go.Proofs.YtiplfhmimpkplaaGreat.Ev Go.Proofs.YtiplfhmimpkplaaGreat.NameMath Go.Proofs.YtiplfhmimpkplaaGreat.NameWalk Go.Proofs.YtiplfhmimpkplaaGreat.EvWalk Go.Proofs.YtiplfhmimpkplaaGreat.NumMem Go.Proofs.YtiplfhmimpkplaaGreat.Qu Go.Proofs.YtiplfhmimpkplaaGreat.QuWalk Go.Proofs.YtiplfhmimpkplaaGreat.SmWalk Go.Proofs.YtiplfhmimpkplaaGreat.BtWalk Go.Proofs.YtiplfhmimpkplaaGreat.DkWalk Go.Proofs.YtiplfhmimpkplaaGreat.InWalk

set_option maxRecDepth 100000 in
theorem make_recs (n : Nat) (hn : n ≤ 1000000) : ∃ cur : Array Value, cur.size = n * 6 ∧ ∀ W : World, (Instr.makeSlice 32 (.int .i64 (n : Int)) (.int .i64 (n : Int))).run Tryz.prog W = .ok (.slice (some ⟨W.heap.size, 0, none⟩) n n) (W.alloc (.cells cur 51)) := by
  have hi := rec_info
  obtain ⟨i, h1, h2, h3, h4⟩ : ∃ i, Tryz.prog.info? 51 = some i ∧ i.zero = some (.agg #[.int .i64 0, .int .i64 0, .string ⟨#[]⟩, .string ⟨#[]⟩, .slice none 0 0, .slice none 0 0]) ∧ i.size = 6 ∧ i.bytes = 96 := by
    cases hq : Tryz.prog.info? 51 with
    | none => simp [hq] at hi
    | some i => simp [hq] at hi; exact ⟨i, rfl, hi.1, hi.2.1, hi.2.2⟩
  refine ⟨madeCells (Value.agg #[.int .i64 0, .int .i64 0, .string ⟨#[]⟩, .string ⟨#[]⟩, .slice none 0 0, .slice none 0 0]).cells (n * 6), size_madeCells _ _, fun W => ?_⟩
  have hr := run_make W 32 51 i _ Tryz.underlying32 h1 h2 .i64 .i64 n n (by omega) (Int.le_refl _) (by rw [h4]; omega) (by omega)
  simp only [Int.toNat_natCast, h3] at hr
  exact hr

/-! ### A row of records that is being made -/
/-- The blocks behind one, of a world. -/
abbrev bhd (g : Nat) (w : World) (k : Nat) : Prop := g < k ∧ k < w.heap.size
structure OutR (w : World) (g n j : Nat) (rs : List Rc) : Prop where
  ex : ∃ cur, w.heap[g]? = some (.cells cur 51 (0, 0)) ∧ cur.size = n * 6
  rc : ∀ i, i < j → RoCells w (bhd g w) g (i * 6) (rs.getD i noRc)
section
variable {w w' : World} {g n j : Nat} {rs : List Rc}
set_option maxRecDepth 100000 in
theorem OutR.lt (h : OutR w g n j rs) : g < w.heap.size := by
  obtain ⟨cur, hb, _⟩ := h.ex
  exact (Array.getElem?_eq_some_iff.1 hb).1
set_option maxRecDepth 100000 in
theorem OutR.new (w : World) {cur : Array Value} (hc : cur.size = n * 6) (rs : List Rc) : OutR (w.alloc (.cells cur 51)) w.heap.size n 0 rs :=
  ⟨⟨cur, heap_alloc_new w _, hc⟩, fun _ hi => absurd hi (Nat.not_lt_zero _)⟩
set_option maxRecDepth 100000 in
theorem OutR.below (h : OutR w g n j rs) (hb : Below w.heap.size w w') : OutR w' g n j rs := by
  obtain ⟨cur, e, hc⟩ := h.ex
  have hg := hb.block g h.lt
  exact ⟨⟨cur, hg.trans e, hc⟩, fun i hi => (h.rc i hi).move (fun k v _ hv => (World.cell?_of_block (w := w) (a := ⟨g, i * 6 + k, none⟩) hg).trans hv) (fun k _ hk _ => hb.block k hk.2) (fun k hk => ⟨hk.1, Nat.lt_of_lt_of_le hk.2 hb.size⟩)⟩
set_option maxRecDepth 100000 in
theorem OutR.cell (h : OutR w g n j rs) (hj : j < n) {k : Nat} (hk : k < 6) : ∃ v, w.cell? ⟨g, j * 6 + k, none⟩ = some v := by
  obtain ⟨cur, e, hc⟩ := h.ex
  exact ⟨_, by rw [cell_of_row w g _ _ _ _ e, Array.getElem?_eq_getElem (by omega)]⟩
set_option maxRecDepth 100000 in
theorem OutR.frozen (h : OutR w g n j rs) (i : Nat) : w.frozen? ⟨g, i, none⟩ = false := by
  obtain ⟨cur, e, _⟩ := h.ex
  simp [World.frozen?, e]
set_option maxRecDepth 100000 in
theorem OutR.step (h : OutR w g n j rs) (hj : j < n) {T Y : Option Addr} {nT cT nY cY : Nat} (h6 : RdS w T nT cT (rs.getD j noRc).e.tags) (h7 : RdF w Y nY cY (rs.getD j noRc).e.fs) (h8 : Wr w (bhd g w) T nT 1 9) (h9 : Wr w (bhd g w) Y nY 2 85) :
    OutR (w.setCells g (j * 6) (rcV (rs.getD j noRc) T nT cT Y nY cY)) g n (j + 1) rs ∧ w.grownBy (w.setCells g (j * 6) (rcV (rs.getD j noRc) T nT cT Y nY cY)) (some g) := by
  obtain ⟨cur, e, hc⟩ := h.ex
  have hl : (rcV (rs.getD j noRc) T nT cT Y nY cY).length = 6 := rfl
  generalize hR : rs.getD j noRc = r at *
  generalize hV : rcV r T nT cT Y nY cY = cs at *
  obtain ⟨cur', e1, e2, e3, e4⟩ := block_setCells w g (j * 6) cs e (by omega)
  have hsz := size_setCells w g (j * 6) cs
  have hk : ∀ k, bhd g w k → (w.setCells g (j * 6) cs).heap[k]? = w.heap[k]? := fun k hk => heap_setCells w g _ cs (by have := hk.1; omega)
  refine ⟨⟨⟨cur', e1, by omega⟩, fun i hi => ?_⟩, ?_⟩
  · by_cases hij : i < j
    · refine (h.rc i hij).move (fun k v hk6 hv => ?_) (fun k _ hk2 _ => hk k hk2) (fun k hk2 => ⟨hk2.1, by rw [hsz]; exact hk2.2⟩)
      rw [cell_of_row w g _ _ _ _ e] at hv
      rw [cell_of_row _ g _ _ _ _ e1, e3 _ (by omega)]
      exact hv
    · obtain rfl : i = j := by omega
      rw [hR]
      have hG : ∀ k, bhd g w k → bhd g (w.setCells g (i * 6) cs) k := fun k hk2 => ⟨hk2.1, by rw [hsz]; exact hk2.2⟩
      have wr : ∀ {A : Option Addr} {n k : Nat} {t : TypeId}, Wr w (bhd g w) A n k t → Wr (w.setCells g (i * 6) cs) (bhd g (w.setCells g (i * 6) cs)) A n k t := fun {A n k t} hw hn => by
        obtain ⟨b, o, cur, e, hg, hb, hs⟩ := hw hn
        exact ⟨b, o, cur, e, hG b hg, (hk b hg).trans hb, hs⟩
      refine roCells_of e1 (fun k hk6 => ?_) (h8.rd h6 hk) (h9.rd h7 hk) (wr h8) (wr h9)
      rw [hV]
      exact e4 k (by omega)
  · have c := ch_setCells (F := fun k => k = g) w (j * 6) cs rfl
    exact ⟨c.os, c.tape, c.output, c.size, fun k hk2 hne => c.block k hk2 fun e => hne (by rw [e])⟩
set_option maxRecDepth 100000 in
theorem OutR.row (h : OutR w g n n rs) (hl : rs.length = n) (hn : n ≤ 1000000) : RoW w (fun k => k = g) (bhd g w) (some ⟨g, 0, none⟩) n n rs :=
  ⟨hl, Nat.le_refl _, by unfold maxLen; omega, fun _ => ⟨g, 0, rfl, h.lt, rfl, fun i hi => by rw [Nat.zero_add]; exact h.rc i hi⟩⟩
end
set_option maxRecDepth 100000 in
theorem grown_belowX {base : Nat} {w w' : World} {g : Nat} (h : w.grownBy w' (some g)) (hb : base ≤ w.heap.size) (hg : base ≤ g) : Below base w w' :=
  ⟨h.os, h.tape, h.output, h.size, fun k hk => h.block k (Nat.lt_of_lt_of_le hk hb) fun e => by injection e with e; omega⟩
/-- Behind copyOf, ahead of the store: what the row's cells are, and what the store makes of it. -/
theorem out_after {wr w2 w3 : World} {g n j : Nat} {rs : List Rc} {r : Rc} {T3 Y3 : Option Addr} {n3 c3 m3 d3 : Nat} (h : OutR wr g n j rs) (hlt : j < n) (hr : rs.getD j noRc = r) (b2 : Below wr.heap.size wr w2) (b3 : Below w2.heap.size w2 w3) (oT : OwnC 1 w3 w2.heap.size 9 T3 n3 c3 (MemRow.strs r.e.tags)) (oY : OwnC 2 w3 w2.heap.size 85 Y3 m3 d3 (flds r.e.fs)) :
    ∃ v0 v1 v2 v3 v4 v5, w3.cell? ⟨g, j * 6, none⟩ = some v0 ∧ w3.cell? ⟨g, j * 6 + 1, none⟩ = some v1 ∧ w3.cell? ⟨g, j * 6 + 2, none⟩ = some v2 ∧ w3.cell? ⟨g, j * 6 + 3, none⟩ = some v3 ∧ w3.cell? ⟨g, j * 6 + 4, none⟩ = some v4 ∧ w3.cell? ⟨g, j * 6 + 5, none⟩ = some v5 ∧ (∀ i, w3.frozen? ⟨g, i, none⟩ = false) ∧
      OutR (w3.setCells g (j * 6) (rcV r T3 n3 c3 Y3 m3 d3)) g n (j + 1) rs ∧ w3.grownBy (w3.setCells g (j * 6) (rcV r T3 n3 c3 Y3 m3 d3)) (some g) ∧ Below wr.heap.size wr w3 := by
  have b := below_chain b2 b3
  have h3 := h.below b
  have hg := h.lt
  have z2 := b2.size
  obtain ⟨v0, e0⟩ := h3.cell hlt (k := 0) (by decide)
  obtain ⟨v1, e1⟩ := h3.cell hlt (k := 1) (by decide)
  obtain ⟨v2, e2⟩ := h3.cell hlt (k := 2) (by decide)
  obtain ⟨v3, e3⟩ := h3.cell hlt (k := 3) (by decide)
  obtain ⟨v4, e4⟩ := h3.cell hlt (k := 4) (by decide)
  obtain ⟨v5, e5⟩ := h3.cell hlt (k := 5) (by decide)
  subst hr
  obtain ⟨q1, q2⟩ := h3.step hlt (OwnC.rd oT) (OwnC.rd oY) (wr_ownX oT fun a ha => by have := OwnC.lt oT a ha; exact ⟨by omega, this.2⟩) (wr_ownX oY fun a ha => by have := OwnC.lt oY a ha; exact ⟨by omega, this.2⟩)
  exact ⟨v0, v1, v2, v3, v4, v5, e0, e1, e2, e3, e4, e5, h3.frozen, q1, q2, b⟩
/-- What copies and at give. -/
def CopOut (w w' : World) (rs : List Rc) (e : Ending) : Prop := ∃ g n, e = .returned (.slice (some ⟨g, 0, none⟩) n n) ∧ w.heap.size ≤ g ∧ RoW w' (fun k => k = g) (bhd g w') (some ⟨g, 0, none⟩) n n rs ∧ g < w'.heap.size ∧ Below w.heap.size w w'
set_option maxRecDepth 100000 in
theorem CopOut.thing {w w' : World} {rs : List Rc} {e : Ending} (h : CopOut w w' rs e) : ∃ B m c, e = .returned (.slice B m c) ∧ RoT B m c rs w' (fun k => w.heap.size ≤ k ∧ k < w'.heap.size) ∧ Below w.heap.size w w' := by
  obtain ⟨g, n, rfl, h1, h2, h3, h4⟩ := h
  exact ⟨_, _, _, rfl, ⟨_, _, h2, fun k hk => by subst hk; exact ⟨h1, h3⟩, fun k hk => ⟨by have := hk.1; omega, hk.2⟩, fun k hk hk2 => by subst hk; exact Nat.lt_irrefl _ hk2.1, fun k hk => hk.2⟩, h4⟩
/-- Records of a size that a machine copies. -/
def RcsFit (rs : List Rc) : Prop := ∀ r ∈ rs, r.e.tags.length ≤ 1000000 ∧ r.e.fs.length ≤ 1000000
set_option maxRecDepth 100000 in
set_option maxHeartbeats 4000000 in
theorem copies_any (A : Option Addr) (n c : Nat) (rs : List Rc) (w : World) (h : RdRc w A n c rs) (hn : n ≤ 1000) (hf : RcsFit rs) :
    Calls Tryz.prog 18 #[.slice A n c] w fun e w' => CopOut w w' rs e := by
  obtain ⟨cur, hcs, hmk⟩ := make_recs n (by omega)
  have b1 : Below w.heap.size w (w.alloc (.cells cur 51)) := (Below.refl _ _).alloc (Nat.le_refl _) _
  have o1 := OutR.new w hcs rs
  have HL := Go.Lib.hid h.len
  have R := Go.Lib.hid h
  have HF := Go.Lib.hid hf
  have s1 : (w.alloc (.cells cur 51)).heap.size = w.heap.size + 1 := by simp
  clear h hf hcs
  go_enter Tryz.func18, Tryz.ntmps18
  go_upto_region 2 with (fail)
  have O1 := Go.Lib.hid o1
  have B1 := Go.Lib.hid b1
  clear o1 b1 hmk
  generalize w.alloc (.cells cur 51) = w1 at *
  go_wp2_with fail
  go_loopw [11] (fun i wr => ∃ j : Nat, i = .int .i64 (j : Int) ∧ j ≤ n ∧ Hid (OutR wr w.heap.size n j rs) ∧ Hid (Below w.heap.size w wr)) (fun i _ => n - (intOf i).toNat)
  case atStart => exact ⟨0, rfl, Nat.zero_le _, O1, B1⟩
  case round =>
    obtain ⟨j, rfl, hj, HO, HB⟩ := hrel
    clear O1 B1
    by_cases hlt : j < n
    · obtain ⟨b, o, rfl, _, kc⟩ := (R.out.below HB.out).at_ (by omega)
      obtain ⟨T, nT, cT, Y, nY, cY, x0, x1, x2, x3, x4, x5, rT, rY⟩ := kc j hlt
      have hfit := HF.out _ (rc_get (l := rs) (j := j) (by rw [HL.out]; exact hlt))
      have hT : nT ≤ 1000000 := by rw [← RdS.len rT]; exact hfit.1
      have hY : nY ≤ 1000000 := by rw [← RdF.len rY]; exact hfit.2
      have i1 : (j : Int) < n := by omega
      have RT := Go.Lib.hid rT
      have RY := Go.Lib.hid rY
      clear kc rT rY hfit
      generalize hr : rs.getD j noRc = r at *
      have HR := Go.Lib.hid hr
      clear hr
      go_upto_region 5 with (fail)
      have X7 := RxAt.new wr (.int .i64 r.pos) (.int .i64 r.ver) (.string r.e.s) (.string r.e.t) (.slice T nT cT) (.slice Y nY cY)
      have b7 : Below wr.heap.size wr (wr.alloc (.cells #[.int .i64 r.pos, .int .i64 r.ver, .string r.e.s, .string r.e.t, .slice T nT cT, .slice Y nY cY] 51)) := (Below.refl _ _).alloc (Nat.le_refl _) _
      clear x0 x1 x2 x3 x4 x5
      generalize wr.alloc (.cells #[.int .i64 r.pos, .int .i64 r.ver, .string r.e.s, .string r.e.t, .slice T nT cT, .slice Y nY cY] 51) = w2 at *
      have k0 := X7.c0
      have k1 := X7.c1
      have k2 := X7.c2
      have k3 := X7.c3
      have k4 := X7.c4
      have k5 := X7.c5
      have CO := Go.Lib.hid (copyOf_any r T Y nT cT nY cY w2 (RdC.below RT.out b7) (RdC.below RY.out b7) hT hY)
      have B7 := Go.Lib.hid b7
      clear X7 RT RY b7
      have AFTER := Go.Lib.hid (fun (w3 : World) (T3 : Option Addr) (n3 c3 : Nat) (Y3 : Option Addr) (m3 d3 : Nat) (oT : OwnC 1 w3 w2.heap.size 9 T3 n3 c3 (MemRow.strs r.e.tags)) (oY : OwnC 2 w3 w2.heap.size 85 Y3 m3 d3 (flds r.e.fs)) (b3 : Below w2.heap.size w2 w3) => out_after HO.out hlt HR.out B7.out b3 oT oY)
      go_wp2_with (first | (go_at_call 36; go_loud (refine (CO.out).mono ?_); rintro e w3 ⟨T3, n3, c3, Y3, m3, d3, rfl, oT, oY, b3⟩; (obtain ⟨v0, v1, v2, v3, v4, v5, g0, g1, g2, g3, g4, g5, fz, st, gr, bw⟩ := AFTER.out w3 T3 n3 c3 Y3 m3 d3 oT oY b3); have z0 := fz (j * 6); have z1 := fz (j * 6 + 1); have z2 := fz (j * 6 + 2); have z3 := fz (j * 6 + 3); have z4 := fz (j * 6 + 4); have z5 := fz (j * 6 + 5); clear oT oY b3 fz))
      have B5 := Go.Lib.hid (show Below w.heap.size w _ from (HB.out.trans (bw.mono HB.out.size)).trans (grown_belowX gr (Nat.le_trans HB.out.size bw.size) (Nat.le_refl _)))
      go_roundw
      case rel => exact ⟨j + 1, by go_num, by omega, Go.Lib.hid st, B5⟩
      case measure => simp [intOf]; omega
    · obtain rfl : n = j := by omega
      have i1 : ¬ (n : Int) < n := by omega
      have HE := Go.Lib.hid (show CopOut w wr rs (.returned (.slice (some ⟨w.heap.size, 0, none⟩) n n)) from ⟨w.heap.size, n, rfl, Nat.le_refl _, HO.out.row HL.out (by omega), HO.out.lt, HB.out⟩)
      clear HO HB hlt
      go_wp2_with fail
      go_ret
      exact HE.out
set_option maxHeartbeats 4000000 in
set_option maxRecDepth 100000 in
theorem at_any {F G W : Nat → Prop} {old : Option Hx} {gx : Nat} {m lp a t y : Value} {es : List Ev} (A : Option Addr) (n c : Nat) (l : List Int) (w : World) (hx : XBx w gx (mkX old) m lp a t y) (ho : OldR w F G W old (recF es)) (h : RdI w A n c l) (hl : ∀ p ∈ l, 1 ≤ p ∧ p ≤ es.length) (hn : n ≤ 1000) (he : es.length ≤ 1000) (hf : RcsFit (recF es)) :
    Calls Tryz.prog 40 #[.pointer (some ⟨gx, 0, none⟩), .slice A n c] w fun e w' => CopOut w w' (l.map (recA es)) e := by
  obtain ⟨cur, hcs, hmk⟩ := make_recs n (by omega)
  obtain ⟨A2, n2, c2, e2, r2, _⟩ := ho.rd
  rw [e2] at hx
  have b1 : Below w.heap.size w (w.alloc (.cells cur 51)) := (Below.refl _ _).alloc (Nat.le_refl _) _
  have o1 := OutR.new w hcs (l.map (recA es))
  have HL := Go.Lib.hid h.len
  have R := Go.Lib.hid h
  have R2 := Go.Lib.hid r2
  have HN2 := Go.Lib.hid (show n2 = es.length by rw [← r2.len, rec_len])
  have HX := Go.Lib.hid hx
  have HF := Go.Lib.hid hf
  have HB2 := Go.Lib.hid hl
  have s1 : (w.alloc (.cells cur 51)).heap.size = w.heap.size + 1 := by simp
  clear h hf hcs hx ho r2 hl e2
  go_enter Tryz.func40, Tryz.ntmps40
  go_upto_region 2 with (fail)
  have O1 := Go.Lib.hid o1
  have B1 := Go.Lib.hid b1
  clear o1 b1 hmk
  generalize w.alloc (.cells cur 51) = w1 at *
  go_wp2_with fail
  go_loopw [13] (fun i wr => ∃ j : Nat, i = .int .i64 (j : Int) ∧ j ≤ n ∧ Hid (OutR wr w.heap.size n j (l.map (recA es))) ∧ Hid (Below w.heap.size w wr)) (fun i _ => n - (intOf i).toNat)
  case atStart => exact ⟨0, rfl, Nat.zero_le _, O1, B1⟩
  case round =>
    obtain ⟨j, rfl, hj, HO, HB⟩ := hrel
    clear O1 B1
    by_cases hlt : j < n
    · have rp : RdI wr A n c l := RdC.below R.out HB.out
      obtain ⟨bp, op, rfl, _, kp⟩ := rp.at_ (by omega)
      have yp := kp j hlt
      have hjl : j < l.length := by rw [HL.out]; exact hlt
      have hin := HB2.out (l.getD j 0) (by rw [List.getD_eq_getElem?_getD, List.getElem?_eq_getElem hjl]; exact List.getElem_mem hjl)
      have hmp : (l.map (recA es)).getD j noRc = recA es (l.getD j 0) := by
        rw [List.getD_eq_getElem?_getD, List.getD_eq_getElem?_getD, List.getElem?_map, List.getElem?_eq_getElem hjl]
        rfl
      generalize l.getD j 0 = p at *
      obtain ⟨t0, rfl⟩ : ∃ t0 : Nat, p = (t0 : Int) + 1 := ⟨(p - 1).toNat, by omega⟩
      have ht : t0 < n2 := by rw [HN2.out]; omega
      have hr : (l.map (recA es)).getD j noRc = (recF es).getD t0 noRc := by
        rw [hmp]
        unfold recA
        rw [show ((t0 : Int) + 1 - 1).toNat = t0 by omega]
      obtain ⟨b, o, rfl, _, kc⟩ := (R2.out.below HB.out).at_ (by omega)
      obtain ⟨T, nT, cT, Y, nY, cY, x0, x1, x2, x3, x4, x5, rT, rY⟩ := kc t0 ht
      have hfit := HF.out _ (rc_get (l := recF es) (j := t0) (by rw [rec_len, ← HN2.out]; exact ht))
      have hT : nT ≤ 1000000 := by rw [← RdS.len rT]; exact hfit.1
      have hY : nY ≤ 1000000 := by rw [← RdF.len rY]; exact hfit.2
      have i1 : (j : Int) < n := by omega
      have i2 : (t0 : Int) < n2 := by omega
      have n1 : IntKind.i64.wrap (t0 : Int) = (t0 : Int) := by rw [IntWalk.i64_in _ (by omega)]
      have k9 := (HX.out.below HB.out).c0
      have HR := Go.Lib.hid hr
      clear kc hfit kp hjl hin hmp hr rp
      generalize (recF es).getD t0 noRc = r at *
      have CO := Go.Lib.hid (copyOf_any r T Y nT cT nY cY wr rT rY hT hY)
      have AFTER := Go.Lib.hid (fun (w3 : World) (T3 : Option Addr) (n3 c3 : Nat) (Y3 : Option Addr) (m3 d3 : Nat) (oT : OwnC 1 w3 wr.heap.size 9 T3 n3 c3 (MemRow.strs r.e.tags)) (oY : OwnC 2 w3 wr.heap.size 85 Y3 m3 d3 (flds r.e.fs)) (b3 : Below wr.heap.size wr w3) => out_after HO.out hlt HR.out (Below.refl _ _) b3 oT oY)
      clear rT rY
      go_wp2_with (first | (go_at_call 36; refine (CO.out).mono ?_; rintro e w3 ⟨T3, n3, c3, Y3, m3, d3, rfl, oT, oY, b3⟩; obtain ⟨v0, v1, v2, v3, v4, v5, g0, g1, g2, g3, g4, g5, fz, st, gr, bw⟩ := AFTER.out w3 T3 n3 c3 Y3 m3 d3 oT oY b3; have z0 := fz (j * 6); have z1 := fz (j * 6 + 1); have z2 := fz (j * 6 + 2); have z3 := fz (j * 6 + 3); have z4 := fz (j * 6 + 4); have z5 := fz (j * 6 + 5); clear oT oY b3 fz))
      have B5 := Go.Lib.hid (show Below w.heap.size w _ from (HB.out.trans (bw.mono HB.out.size)).trans (grown_belowX gr (Nat.le_trans HB.out.size bw.size) (Nat.le_refl _)))
      go_roundw
      case rel => exact ⟨j + 1, by go_num, by omega, Go.Lib.hid st, B5⟩
      case measure => simp [intOf]; omega
    · obtain rfl : n = j := by omega
      have i1 : ¬ (n : Int) < n := by omega
      have HE := Go.Lib.hid (show CopOut w wr (l.map (recA es)) (.returned (.slice (some ⟨w.heap.size, 0, none⟩) n n)) from ⟨w.heap.size, n, rfl, Nat.le_refl _, HO.out.row (by rw [List.length_map, HL.out]) (by omega), HO.out.lt, HB.out⟩)
      clear HO HB hlt
      go_wp2_with fail
      go_ret
      exact HE.out

end Go.Proofs.YtiplfhmimpkplaaGreat.IxWalk

/-
  Contracts of the library's slices functions, over texts and over numbers with a name: Index, Contains, Equal, IndexFunc, ContainsFunc.
-/
namespace Go.Proofs.YtiplfhmimpkplaaGreat.EvWalk
open Go.RowKit Go.Proofs.YtiplfhmimpkplaaGreat.MemRow Go.Proofs.YtiplfhmimpkplaaGreat.Ev Go.Proofs.YtiplfhmimpkplaaGreat.NameMath Go.Proofs.YtiplfhmimpkplaaGreat.NameWalk

theorem any_miss {α : Type} {p : α → Bool} {l : List α} {j : Nat} {d : α} (hj : j < l.length) (h : (l.take j).any p = false) (hp : p (l.getD j d) = false) : (l.take (j + 1)).any p = false := by
  rw [List.take_succ_eq_append_getElem hj, List.any_append, h]
  simp only [List.getD, List.getElem?_eq_getElem hj, Option.getD_some] at hp
  simp [hp]
theorem any_hit {α : Type} {p : α → Bool} {l : List α} {j : Nat} {d : α} (hj : j < l.length) (hp : p (l.getD j d) = true) : l.any p = true := by
  simp only [List.getD, List.getElem?_eq_getElem hj, Option.getD_some] at hp
  rw [List.any_eq_true]
  exact ⟨_, List.getElem_mem hj, hp⟩
theorem dec_ge0 (j : Nat) : decide ((0 : Int) ≤ (j : Int)) = true := decide_eq_true (by omega)

/-- A place of a slice, or -1. -/
def Found (b : Bool) (e : Ending) : Prop := ∃ i : Int, e = .returned (.int .i64 i) ∧ decide (0 ≤ i) = b

/-- A predicate on texts, handed to the library. -/
def PredS (g : Nat) (p : ByteArray → Bool) (ss : List ByteArray) (w : World) : Prop :=
  ∀ W, Below w.heap.size w W → ∀ x ∈ ss, Calls Tryz.prog g #[.string x] W fun e W' => e = .returned (.bool (p x)) ∧ Below W.heap.size W W'
/-- A predicate on numbers with a name, handed to the library. -/
def PredF (g : Nat) (p : ByteArray × Int → Bool) (fs : List (ByteArray × Int)) (w : World) : Prop :=
  ∀ W, Below w.heap.size w W → ∀ x ∈ fs, Calls Tryz.prog g #[.agg #[.string x.1, .int .i64 x.2]] W fun e W' => e = .returned (.bool (p x)) ∧ Below W.heap.size W W'

set_option maxHeartbeats 4000000 in
set_option maxRecDepth 100000 in
theorem index_any (A : Option Addr) (n ca : Nat) (ss : List ByteArray) (x : ByteArray) (w : World) (ha : RdS w A n ca ss) :
    Calls Tryz.prog 107 #[.slice A n ca, .string x] w fun e w' => Found (hasB ss x) e ∧ Below w.heap.size w w' := by
  have hn := RdC.le ha
  unfold maxLen at hn
  have la := ha.len
  generalize hR : hasB ss x = R
  have HR := Go.Lib.hid hR
  have LA := Go.Lib.hid la
  clear hR la
  go_enter Tryz.func107, Tryz.ntmps107
  go_wp2_with fail
  go_loopw [5, 8] (fun _ i wr => ∃ j : Nat, j ≤ n ∧ i = .int .i64 j ∧ (ss.take j).any (fun y => decide (y = x)) = false ∧ Below w.heap.size w wr) (fun _ i _ => n - (intOf i).toNat)
  case atStart => exact ⟨0, Nat.zero_le _, rfl, rfl, Below.refl _ _⟩
  case round =>
    obtain ⟨j, hj, rfl, hq, hb⟩ := hrel
    have HQ := Go.Lib.hid hq
    clear hq
    have a1 := RdC.below ha hb
    by_cases hlt : j < n
    · obtain ⟨ba, oa, rfl, _, ka⟩ := RdS.at_ a1 (by omega)
      have ka1 := ka j hlt
      have i1 : (j : Int) < n := by omega
      have hjl : j < ss.length := by rw [LA.out]; exact hlt
      have HM := Go.Lib.hid (fun h => any_miss (p := fun y => decide (y = x)) (d := ByteArray.empty) hjl HQ.out h)
      have HH := Go.Lib.hid (fun h => any_hit (p := fun y => decide (y = x)) (d := ByteArray.empty) hjl h)
      clear ka hjl a1
      generalize hy : ss.getD j ByteArray.empty = y at *
      clear hy
      by_cases hxy : x = y
      · subst hxy
        have hR : R = true := by rw [← HR.out]; exact HH.out (decide_eq_true rfl)
        subst hR
        go_wp2_with fail
        go_ret
        exact ⟨⟨j, rfl, dec_ge0 j⟩, hb⟩
      · have hne := str_ne hxy
        go_wp2_with fail
        go_roundw
        case rel => exact ⟨j + 1, by omega, by go_num, HM.out (decide_eq_false fun h => hxy h.symm), hb⟩
        case measure => simp [intOf]; omega
    · obtain rfl : n = j := by omega
      have hR : R = false := by
        rw [← HR.out]
        have h1 := HQ.out
        rwa [List.take_of_length_le (by rw [LA.out]; exact Nat.le_refl _)] at h1
      subst hR
      go_wp2_with fail
      go_ret
      exact ⟨⟨-1, rfl, by decide⟩, hb⟩

set_option maxHeartbeats 2000000 in
set_option maxRecDepth 100000 in
theorem contains_any (A : Option Addr) (n ca : Nat) (ss : List ByteArray) (x : ByteArray) (w : World) (ha : RdS w A n ca ss) :
    Calls Tryz.prog 95 #[.slice A n ca, .string x] w fun e w' => e = .returned (.bool (hasB ss x)) ∧ Below w.heap.size w w' := by
  have c := Go.Lib.hid (index_any A n ca ss x w ha)
  clear ha
  generalize hasB ss x = R at c ⊢
  go_enter Tryz.func95, Tryz.ntmps95
  go_wp2_with (refine (c.out).mono ?_; rintro e w' ⟨⟨i, rfl, rfl⟩, b1⟩)
  go_ret
  exact ⟨rfl, b1⟩

set_option maxHeartbeats 4000000 in
set_option maxRecDepth 100000 in
theorem idxFuncS_any (A : Option Addr) (n ca : Nat) (ss : List ByteArray) (g : Nat) (p : ByteArray → Bool) (w : World) (ha : RdS w A n ca ss) (eg : ∀ args w, (callFunc g args).run Tryz.prog w = .ok (.enter g args) w) (hp : PredS g p ss w) :
    Calls Tryz.prog 98 #[.slice A n ca, .func (.func g) #[] #[]] w fun e w' => Found (ss.any p) e ∧ Below w.heap.size w w' := by
  have hn := RdC.le ha
  unfold maxLen at hn
  have la := ha.len
  generalize hR : ss.any p = R
  have HR := Go.Lib.hid hR
  have LA := Go.Lib.hid la
  have HP := Go.Lib.hid hp
  clear hR la hp
  go_enter Tryz.func98, Tryz.ntmps98
  go_wp2_with fail
  go_loopw [5, 8] (fun _ i wr => ∃ j : Nat, j ≤ n ∧ i = .int .i64 j ∧ (ss.take j).any p = false ∧ Below w.heap.size w wr) (fun _ i _ => n - (intOf i).toNat)
  case atStart => exact ⟨0, Nat.zero_le _, rfl, rfl, Below.refl _ _⟩
  case round =>
    obtain ⟨j, hj, rfl, hq, hb⟩ := hrel
    have HQ := Go.Lib.hid hq
    clear hq
    have a1 := RdC.below ha hb
    by_cases hlt : j < n
    · obtain ⟨ba, oa, rfl, _, ka⟩ := RdS.at_ a1 (by omega)
      have ka1 := ka j hlt
      have i1 : (j : Int) < n := by omega
      have hjl : j < ss.length := by rw [LA.out]; exact hlt
      have HM := Go.Lib.hid (fun h => any_miss (p := p) (d := ByteArray.empty) hjl HQ.out h)
      have HH := Go.Lib.hid (fun h => any_hit (p := p) (d := ByteArray.empty) hjl h)
      have c := Go.Lib.hid (HP.out wr hb _ (mem_getD ss j hjl))
      clear ka hjl a1
      generalize hy : ss.getD j ByteArray.empty = y at *
      clear hy
      cases hpy : p y with
      | true =>
        have hR : R = true := by rw [← HR.out]; exact HH.out hpy
        subst hR
        rw [hpy] at c
        clear HM HH hpy
        go_wp2_with (refine (c.out).mono ?_; rintro e w1 ⟨rfl, b1⟩)
        go_ret
        exact ⟨⟨j, rfl, dec_ge0 j⟩, below_chain hb b1⟩
      | false =>
        rw [hpy] at c
        have HN := Go.Lib.hid (HM.out hpy)
        clear HM HH hpy
        go_wp2_with (refine (c.out).mono ?_; rintro e w1 ⟨rfl, b1⟩)
        go_roundw
        case rel => exact ⟨j + 1, by omega, by go_num, HN.out, below_chain hb b1⟩
        case measure => simp [intOf]; omega
    · obtain rfl : n = j := by omega
      have hR : R = false := by
        rw [← HR.out]
        have h1 := HQ.out
        rwa [List.take_of_length_le (by rw [LA.out]; exact Nat.le_refl _)] at h1
      subst hR
      go_wp2_with fail
      go_ret
      exact ⟨⟨-1, rfl, by decide⟩, hb⟩

set_option maxHeartbeats 2000000 in
set_option maxRecDepth 100000 in
theorem hasFuncS_any (A : Option Addr) (n ca : Nat) (ss : List ByteArray) (g : Nat) (p : ByteArray → Bool) (w : World) (ha : RdS w A n ca ss) (eg : ∀ args w, (callFunc g args).run Tryz.prog w = .ok (.enter g args) w) (hp : PredS g p ss w) :
    Calls Tryz.prog 75 #[.slice A n ca, .func (.func g) #[] #[]] w fun e w' => e = .returned (.bool (ss.any p)) ∧ Below w.heap.size w w' := by
  have c := Go.Lib.hid (idxFuncS_any A n ca ss g p w ha eg hp)
  clear ha eg hp
  generalize ss.any p = R at c ⊢
  go_enter Tryz.func75, Tryz.ntmps75
  go_wp2_with (refine (c.out).mono ?_; rintro e w' ⟨⟨i, rfl, rfl⟩, b1⟩)
  go_ret
  exact ⟨rfl, b1⟩

set_option maxHeartbeats 4000000 in
set_option maxRecDepth 100000 in
theorem idxFuncF_any (A : Option Addr) (n ca : Nat) (fs : List (ByteArray × Int)) (g : Nat) (p : ByteArray × Int → Bool) (w : World) (ha : RdF w A n ca fs) (eg : ∀ args w, (callFunc g args).run Tryz.prog w = .ok (.enter g args) w) (hp : PredF g p fs w) :
    Calls Tryz.prog 100 #[.slice A n ca, .func (.func g) #[] #[]] w fun e w' => Found (fs.any p) e ∧ Below w.heap.size w w' := by
  have hn := RdC.le ha
  unfold maxLen at hn
  have la := ha.len
  generalize hR : fs.any p = R
  have HR := Go.Lib.hid hR
  have LA := Go.Lib.hid la
  have HP := Go.Lib.hid hp
  clear hR la hp
  go_enter Tryz.func100, Tryz.ntmps100
  go_wp2_with fail
  go_loopw [5, 8] (fun _ i wr => ∃ j : Nat, j ≤ n ∧ i = .int .i64 j ∧ (fs.take j).any p = false ∧ Below w.heap.size w wr) (fun _ i _ => n - (intOf i).toNat)
  case atStart => exact ⟨0, Nat.zero_le _, rfl, rfl, Below.refl _ _⟩
  case round =>
    obtain ⟨j, hj, rfl, hq, hb⟩ := hrel
    have HQ := Go.Lib.hid hq
    clear hq
    have a1 := RdC.below ha hb
    by_cases hlt : j < n
    · obtain ⟨ba, oa, rfl, _, ka⟩ := RdF.at_ a1 (by omega)
      obtain ⟨ka1, ka2⟩ := ka j hlt
      have i1 : (j : Int) < n := by omega
      have hjl : j < fs.length := by rw [LA.out]; exact hlt
      have HM := Go.Lib.hid (fun h => any_miss (p := p) (d := (ByteArray.empty, (0 : Int))) hjl HQ.out h)
      have HH := Go.Lib.hid (fun h => any_hit (p := p) (d := (ByteArray.empty, (0 : Int))) hjl h)
      have c := Go.Lib.hid (HP.out wr hb _ (fs_mem fs j hjl))
      clear ka hjl a1
      generalize hy : fs.getD j (ByteArray.empty, 0) = y at *
      clear hy
      obtain ⟨y, z⟩ := y
      simp only at ka1 ka2 c
      cases hpy : p (y, z) with
      | true =>
        have hR : R = true := by rw [← HR.out]; exact HH.out hpy
        subst hR
        rw [hpy] at c
        clear HM HH hpy
        go_wp2_with (refine (c.out).mono ?_; rintro e w1 ⟨rfl, b1⟩)
        go_ret
        exact ⟨⟨j, rfl, dec_ge0 j⟩, below_chain hb b1⟩
      | false =>
        rw [hpy] at c
        have HN := Go.Lib.hid (HM.out hpy)
        clear HM HH hpy
        go_wp2_with (refine (c.out).mono ?_; rintro e w1 ⟨rfl, b1⟩)
        go_roundw
        case rel => exact ⟨j + 1, by omega, by go_num, HN.out, below_chain hb b1⟩
        case measure => simp [intOf]; omega
    · obtain rfl : n = j := by omega
      have hR : R = false := by
        rw [← HR.out]
        have h1 := HQ.out
        rwa [List.take_of_length_le (by rw [LA.out]; exact Nat.le_refl _)] at h1
      subst hR
      go_wp2_with fail
      go_ret
      exact ⟨⟨-1, rfl, by decide⟩, hb⟩

set_option maxHeartbeats 2000000 in
set_option maxRecDepth 100000 in
theorem hasFuncF_any (A : Option Addr) (n ca : Nat) (fs : List (ByteArray × Int)) (g : Nat) (p : ByteArray × Int → Bool) (w : World) (ha : RdF w A n ca fs) (eg : ∀ args w, (callFunc g args).run Tryz.prog w = .ok (.enter g args) w) (hp : PredF g p fs w) :
    Calls Tryz.prog 78 #[.slice A n ca, .func (.func g) #[] #[]] w fun e w' => e = .returned (.bool (fs.any p)) ∧ Below w.heap.size w w' := by
  have c := Go.Lib.hid (idxFuncF_any A n ca fs g p w ha eg hp)
  clear ha eg hp
  generalize fs.any p = R at c ⊢
  go_enter Tryz.func78, Tryz.ntmps78
  go_wp2_with (refine (c.out).mono ?_; rintro e w' ⟨⟨i, rfl, rfl⟩, b1⟩)
  go_ret
  exact ⟨rfl, b1⟩

end Go.Proofs.YtiplfhmimpkplaaGreat.EvWalk

