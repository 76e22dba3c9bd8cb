/-
  Contracts of the landed posting, its lists a part of an index: Find.
-/
import Derived.Laws.IdiomRangeMap
import Derived.Test.YtiplfhmimpkplaaGreatMg6
namespace Go.Proofs.YtiplfhmimpkplaaGreat.PnWalk
open Go.RowKit Go.Maps Go.Proofs.YtiplfhmimpkplaaGreat.MemRow Go.Proofs.YtiplfhmimpkplaaGreat.Ev Go.Proofs.YtiplfhmimpkplaaGreat.NameMath Go.Proofs.YtiplfhmimpkplaaGreat.NameWalk Go.Proofs.YtiplfhmimpkplaaGreat.EvWalk Go.Proofs.YtiplfhmimpkplaaGreat.NumMem Go.Proofs.YtiplfhmimpkplaaGreat.SmWalk Go.Proofs.YtiplfhmimpkplaaGreat.NMap Go.Proofs.YtiplfhmimpkplaaGreat.DkWalk Go.Proofs.YtiplfhmimpkplaaGreat.PoWalk Go.Proofs.YtiplfhmimpkplaaGreat.Qu Go.Proofs.YtiplfhmimpkplaaGreat.QuWalk Go.Proofs.YtiplfhmimpkplaaGreat.InWalk

section
variable {w : World} {F G : Nat → Prop} {g : Nat} {r m0 lp : Value} {D : Dt} {mb : Option (Bool → Nat)} {M : Bool → DataW Hr} {hd : HdT} {L : Ls}
set_option maxHeartbeats 4000000 in
set_option maxRecDepth 100000 in
theorem find14_any (hx : LBx w g r m0 lp mb hd) (h : LnC w F G D mb M hd) (d : DOf D L) (ok : LOk L) {v : Value} {q : List Cl} (hq : IsQ w v q) (hok : QOk q) (hc8 : ∀ c ∈ q, c.tags.length ≤ 8 ∧ c.types.length ≤ 8) (u : Int) :
    Calls Tryz.prog 42 #[.pointer (some ⟨g, 3, none⟩), v, .int .i64 u] w fun e w' => ∃ B m c, e = .returned (.slice B m c) ∧ OwnC 1 w' w.heap.size 3 B m c (nums (findP L q u)) ∧ Below w.heap.size w w' := by
  obtain ⟨Aq, nq, cq, rfl, rq⟩ := hq
  have b1 : Below w.heap.size w (w.alloc (.cells #[.slice Aq nq cq] 25)) := (Below.refl _ _).alloc (Nat.le_refl _) _
  have x1 := heap_alloc_new w (.cells #[.slice Aq nq cq] 25)
  have hnq := rq.le
  unfold maxLen at hnq
  have HQN := Go.Lib.hid rq.len
  have H := Go.Lib.hid (h.below b1)
  have HX := Go.Lib.hid (XBx.below hx b1)
  have DD := Go.Lib.hid d
  have OK := Go.Lib.hid ok
  have RQ := Go.Lib.hid (rq.below b1)
  have HOK := Go.Lib.hid hok
  have HC8 := Go.Lib.hid hc8
  clear h hx d ok rq hok hc8
  go_enter Tryz.func42, Tryz.ntmps42
  go_upto_region 1 with (fail)
  have y0 : (w.alloc (.cells #[.slice Aq nq cq] 25)).cell? ⟨w.heap.size, 0, none⟩ = some (.slice Aq nq cq) := by rw [cell_of_row _ _ 0 _ _ _ x1]; rfl
  have B1 := Go.Lib.hid b1
  clear b1 x1
  generalize w.alloc (.cells #[.slice Aq nq cq] 25) = w1 at *
  have O0 := Go.Lib.hid (show OwnC 1 w1 w1.heap.size 3 none 0 0 (nums (findP L (q.take 0) u)) by rw [List.take_zero, find_zero]; exact OwnC.nil _ _)
  go_upto_region 2 with (fail)
  go_wp2_with fail
  go_loopw [7, 13] (fun ov i wr => ∃ (C : Option Addr) (m c j : Nat), ov = .slice C m c ∧ i = .int .i64 (j : Int) ∧ j ≤ nq ∧ Hid (OwnC 1 wr w1.heap.size 3 C m c (nums (findP L (q.take j) u))) ∧ Below w1.heap.size w1 wr) (fun _ i _ => nq - (intOf i).toNat)
  case atStart => exact ⟨none, 0, 0, 0, rfl, rfl, Nat.zero_le _, O0, Below.refl _ _⟩
  case round =>
    obtain ⟨C, m, c, j, rfl, rfl, hj, HO, hB⟩ := hrel
    clear O0 y0
    by_cases hlt : j < nq
    · obtain ⟨ba, oa, rfl, _, ka⟩ := (RQ.out.below hB).at_ (by omega)
      obtain ⟨T, nT, cT, Y, nY, cY, x0, x1, rT, rY⟩ := ka j hlt
      have hjl : j < q.length := by rw [HQN.out]; exact hlt
      have hmem : q.getD j noCl ∈ q := cl_get hjl
      have hst := find_clause OK.out u q hjl
      have b5 : Below wr.heap.size wr (wr.alloc (.cells #[.slice T nT cT, .slice Y nY cY] 87)) := (Below.refl _ _).alloc (Nat.le_refl _) _
      have hnT : nT ≤ 1000 := by
        have := rT.len
        have := (HC8.out _ hmem).1
        omega
      have CC := Go.Lib.hid (clause14_any (XBx.below (XBx.below HX.out hB) b5) ((H.out.below hB).below b5) DD.out OK.out (RdC.below rT b5) (RdC.below rY b5) (HOK.out _ hmem).tags (HOK.out _ hmem).types hnT u)
      have B5 := below_chain hB b5
      have o5 := Go.Lib.hid (OwnC.below HO.out b5)
      have hm : m ≤ 1000 := by
        have := RdI.len (OwnC.rd HO.out)
        have := find_len L (q.take j) u
        have := OK.out.len
        omega
      have HI1 := Go.Lib.hid (find_inc OK.out (q.take j) u)
      have HI2 := Go.Lib.hid (se_inc OK.out u (clauseB (q.getD j noCl)))
      have HLN := Go.Lib.hid (show (seP L u (clauseB (q.getD j noCl))).length ≤ 1000 by have := se_len L u (clauseB (q.getD j noCl)); have := OK.out.len; omega)
      have HST := Go.Lib.hid hst
      have i1 : (j : Int) < nq := by omega
      clear ka rT rY hjl hmem hst hnT b5 HO
      generalize seP L u (clauseB (q.getD j noCl)) = sj at *
      generalize findP L (q.take j) u = fj at *
      go_wp2_with (first
        | (go_at_call 64; refine (CC.out).mono ?_; rintro e w6 ⟨C6, m6, c6, rfl, r6, b6⟩; have B6 := below_chain B5 b6; have o6 := OwnC.below o5.out b6; have h6 : m6 ≤ 1000 := by rw [← RdI.len r6]; exact HLN.out)
        | (go_at_call 63; refine (either_any (OwnC.rd o6) r6 HI1.out HI2.out hm h6).mono ?_; rintro e w7 ⟨C7, m7, c7, rfl, o7, b7⟩))
      rw [HST.out] at o7
      have B7 := below_chain B6 b7
      go_roundw
      case rel => exact ⟨C7, m7, c7, j + 1, rfl, by go_num, by omega, Go.Lib.hid (own_low B6.size o7), B7⟩
      case measure => simp [intOf]; omega
    · obtain rfl : nq = j := by omega
      have i1 : ¬ (nq : Int) < nq := by omega
      have he : q.take nq = q := List.take_of_length_le (by rw [HQN.out]; exact Nat.le_refl _)
      rw [he] at HO
      have BF := Go.Lib.hid (B1.out.trans (hB.mono B1.out.size))
      clear he hlt hj
      go_wp2_with fail
      go_ret
      exact ⟨_, _, _, rfl, own_low B1.out.size HO.out, BF.out⟩
end

end Go.Proofs.YtiplfhmimpkplaaGreat.PnWalk

/-
  Contracts of the landed posting: shared, sharedAll, Clone.
-/
namespace Go.Proofs.YtiplfhmimpkplaaGreat.PnWalk
open Go.RowKit Go.Maps Go.Proofs.YtiplfhmimpkplaaGreat.MemRow Go.Proofs.YtiplfhmimpkplaaGreat.Ev Go.Proofs.YtiplfhmimpkplaaGreat.NameMath Go.Proofs.YtiplfhmimpkplaaGreat.NameWalk Go.Proofs.YtiplfhmimpkplaaGreat.EvWalk Go.Proofs.YtiplfhmimpkplaaGreat.NumMem Go.Proofs.YtiplfhmimpkplaaGreat.SmWalk Go.Proofs.YtiplfhmimpkplaaGreat.NMap Go.Proofs.YtiplfhmimpkplaaGreat.DkWalk Go.Proofs.YtiplfhmimpkplaaGreat.PoWalk Go.Proofs.YtiplfhmimpkplaaGreat.Qu Go.Proofs.YtiplfhmimpkplaaGreat.QuWalk

/-- A list without room. -/
def fullO : Option Hr → Option Hr
  | some h => some ⟨h.b, h.n, h.n⟩
  | none => none
set_option maxRecDepth 100000 in
/-- v[:n:n] -/
theorem slice_fullR (A : Option Addr) (n c : Nat) (hc : n ≤ c) (hA : A = none → n = 0) (h0 : ∀ a, A = some a → a = ⟨a.block, 0, none⟩) (W : World) : (Instr.slice 57 (.slice A n c) none (some (.int .i64 (n : Int))) (some (.int .i64 (n : Int)))).run Tryz.prog W = .ok (.slice A n n) W := by
  have hu : Tryz.prog.underlying 57 = some (.slice (Tryz.prog.elem 57)) := by rw [elem_rising]; exact Tryz.underlying57
  rw [run_slice_hm (P := Tryz.prog) W 57 _ n c hu .i64 .i64 (n : Int) (n : Int) (by omega) (by omega) (by omega), elem_rising, run_size (k := 1) (by kernel_rfl)]
  simp only [Result.andThen, sliced, Int.toNat_natCast, Nat.zero_mul, Nat.sub_zero]
  cases A with
  | none => simp
  | some a =>
    have e := h0 a rfl
    rw [e]
    simp only [Option.map_some, Addr.add]
    congr 2
    split <;> rfl
set_option maxRecDepth 100000 in
theorem shared_any {w : World} {F G : Nat → Prop} {old : Option Hr} {l : List Int} (h : OldL w F G old l) (W : World) :
    Calls Tryz.prog 31 #[mkL old] W fun e w' => e = .returned (mkL (fullO old)) ∧ w' = W := by
  rcases h with ⟨⟨hb, hn, hc⟩, rfl, r⟩ | ⟨rfl, rfl⟩
  · have hs := slice_fullR (some ⟨hb, 0, none⟩) hn hc r.le (fun e => by cases e) (fun a e => by injection e with e; rw [← e])
    clear r
    change Calls Tryz.prog 31 #[.slice (some ⟨hb, 0, none⟩) hn hc] W _
    go_enter Tryz.func31, Tryz.ntmps31
    go_wp2_with fail
    go_ret
    exact ⟨rfl, rfl⟩
  · have hs := slice_fullR none 0 0 (Nat.le_refl _) (fun _ => rfl) (fun a e => by cases e)
    change Calls Tryz.prog 31 #[.slice none 0 0] W _
    have hs : ∀ W, (Instr.slice 57 (.slice none 0 0) none (some (.int .i64 0)) (some (.int .i64 0))).run Tryz.prog W = .ok (.slice none 0 0) W := hs
    go_enter Tryz.func31, Tryz.ntmps31
    go_wp2_with fail
    go_ret
    exact ⟨rfl, rfl⟩

/-- A map that is being made. -/
structure CmR (w : World) (m2 : Nat) (ns : List ByteArray) (M : DataW Hr) (f : ByteArray → Hr) : Prop where
  own : w.ownsMap Tryz.prog 9 slR m2 (Maps.size M) M
  nm : NOf M ns f
theorem CmR.grown {w w' : World} {m2 : Nat} {ns : List ByteArray} {M : DataW Hr} {f : ByteArray → Hr} {row : Option Nat} (h : CmR w m2 ns M f) (hg : w.grownBy w' row) (h2 : some m2 ≠ row) : CmR w' m2 ns M f := ⟨h.own.kept hg h2, h.nm⟩
set_option maxRecDepth 100000 in
theorem CmR.lt {w : World} {m2 : Nat} {ns : List ByteArray} {M : DataW Hr} {f : ByteArray → Hr} (h : CmR w m2 ns M f) : m2 < w.heap.size := by
  obtain ⟨es, clock, hb, _⟩ := h.own
  exact (Array.getElem?_eq_some_iff.1 hb).1
section
variable {w : World} {F G : Nat → Prop} {g : Nat} {D : Dt} {mb : Bool → Nat} {M : Bool → DataW Hr} {hd : HdT} {L : Ls}
set_option maxHeartbeats 8000000 in
set_option maxRecDepth 100000 in
theorem sharedAll_any (h : LnR w F G g D mb M hd) (b : Bool) (hl : (D.t b).length ≤ 1000000) :
    Calls Tryz.prog 32 #[.map (some (mb b))] w fun e w' => ∃ m2 M2, e = .returned (.map (some m2)) ∧ w.heap.size ≤ m2 ∧ CmR w' m2 (namesT (D.t b)) M2 (fun s => hv (fullO (hd (some (b, s))))) ∧ Below w.heap.size w w' := by
  have hsz := h.size b
  have hns := namesT_len (D.t b)
  have ql : ∀ ty, (Builtin.len_ #[58] ty #[.map (some (mb b))]).run Tryz.prog w = .ok (.int .i64 (Maps.size (M b) : Nat)) w := fun ty => (h.own b).len Tryz.underlying58 ty
  have hmm := run_makeHintN (P := Tryz.prog) (t := 58) Tryz.underlying58
  have b1 := (Below.refl w.heap.size w).alloc (Nat.le_refl _) (.map #[] 0)
  have H := Go.Lib.hid h
  have HSZ := Go.Lib.hid hsz
  have h1 := h.below b1
  have C1 := Go.Lib.hid (show CmR (w.alloc (.map #[] 0)) w.heap.size [] (.map []) (fun s => hv (fullO (hd (some (b, s))))) from ⟨World.ownsMap_made w Tryz.prog 9 slR, NOf.empty _⟩)
  have s1 : (w.alloc (.map #[] 0)).heap.size = w.heap.size + 1 := by simp
  clear h hsz
  go_enter Tryz.func32, Tryz.ntmps32
  go_upto_region 2 with (fail)
  generalize w.alloc (.map #[] 0) = w3 at *
  have hown := h1.own b
  have NM := h1.nm b
  have BB := Go.Lib.hid b1
  have SS := Go.Lib.hid s1
  have H1 := Go.Lib.hid h1
  clear h1 b1 s1 ql hmm
  go_wp2_with (at_range; refine wpList_range_own _ rfl _ 58 rfl 9 57 keyedN Tryz.underlying58 slR (mb b) (Maps.size (M b)) (M b) rfl hown ?_; intro w4 hrg4 hg4 hs4)
  go_frame
  go_loopw [4, 5] (fun _ _ wr => ∃ (left : Lit → Bool) (cnt : Nat) (Mc : DataW Hr), wr.ranges Tryz.prog 9 slR (mb b) w3.heap.size (Maps.size (M b)) (M b) left cnt ∧ Hid (CmR wr w.heap.size (cameN left (namesT (D.t b))) Mc (fun s => hv (fullO (hd (some (b, s)))))) ∧ Below w.heap.size w wr) (fun _ _ wr => wr.rangeLeft (mb b) w3.heap.size)
  case atStart =>
    have hb4 := grown_below hg4
    have hl : ∀ s ∈ namesT (D.t b), has (M b) (keyN s) = true := fun s hs => NM.yes hs
    refine ⟨_, _, .map [], hrg4, Go.Lib.hid ?_, below_chain BB.out hb4⟩
    rw [cameN_start hl]
    exact C1.out.grown hg4 (by simp)
  case round =>
    obtain ⟨left, cnt, Mc, hrg, HA, hb⟩ := hrel
    clear hrg4 hg4 hs4
    go_wp2_with (at_next; refine wpList_next_ns _ slR mkL mkL_inv valL slR_held rfl _ rfl NM (mb b) w3.heap.size (Maps.size (M b)) _ _ rfl hrg ?_ ?_)
    · intro hc0 hl0
      have ha := HA.out
      rw [cameN_end _ hl0] at ha
      have HR := Go.Lib.hid ha
      clear ha HA hrg
      go_wp2_with fail
      go_ret
      exact ⟨_, _, rfl, Nat.le_refl _, HR.out, hb⟩
    · intro s hs w5 cnt5 hlk hss hrg5 hlt5 hg5 hs5 hen
      have s3 := SS.out
      have h5 := HA.out.grown hg5 (by rw [s3]; simp)
      have b5 : Below w.heap.size w w5 := hb.grown hg5 hb.size (fun r e => by injection e with e; omega)
      have hcn : (cameN left (namesT (D.t b))).length ≤ (namesT (D.t b)).length := List.length_filter_le _ _
      have hmx : Maps.size Mc < maxLen := by
        rw [h5.nm.size (h5.own.canon keyedN) ((up_nodupN (namesT_up (D.t b))).sublist (List.filter_sublist (p := fun s => !left (keyN s))))]
        unfold maxLen
        omega
      have hkey := keyN_of hss
      obtain ⟨x, ex⟩ := H.out.co.has hs
      have cs := shared_any (H.out.co.li (some (b, s))) w5
      rw [ex] at cs
      have ev : valL (hv (hd (some (b, s)))) = .slice (some ⟨x.b, 0, none⟩) x.n x.c := by rw [ex]; rfl
      have fx : hv (fullO (hd (some (b, s)))) = ⟨x.b, x.n, x.n⟩ := by rw [ex]; rfl
      rw [ev] at hen ⊢
      have CS := Go.Lib.hid (show Calls Tryz.prog 31 #[.slice (some ⟨x.b, 0, none⟩) x.n x.c] w5 fun e w' => e = .returned (.slice (some ⟨x.b, 0, none⟩) x.n x.n) ∧ w' = w5 from cs)
      have own5 := h5.own
      have HRG := Go.Lib.hid hrg5
      have HLEFT := hrg.left_eq
      have nm5 := h5.nm.put (isMapN h5.own) (s := s) (ns' := cameN (cutN left s) (namesT (D.t b))) (h' := fun s => hv (fullO (hd (some (b, s))))) (cameN_step hs) (fun _ _ => rfl)
      simp only [fx] at nm5
      have NM5 := Go.Lib.hid nm5
      have HG := Go.Lib.hid (H.out.mlt b)
      have hsr := slR_some (⟨x.b, x.n, x.n⟩ : Hr)
      clear hcn hb HA hg5 hs5 hrg hrg5 ex fx h5 cs ev nm5 NM s3
      go_wp2_with (first
        | (go_at_call 31; refine (CS.out).mono ?_; rintro e w6 ⟨rfl, rfl⟩)
        | (at_mapUpdate; refine wpList_mapUpdate_own _ rfl _ _ _ 58 rfl 9 57 keyedN Tryz.underlying58 slR w.heap.size (Maps.size Mc) Mc rfl own5 hmx _ _ _ rfl rfl hkey _ [] hsr ?_; intro w8 ho8 hg8))
      have z5 := b5.size
      have hmb := HG.out
      have s3 := SS.out
      have b8 : Below w.heap.size w w8 := b5.grown hg8 b5.size (fun j e => by injection e with e; omega)
      have hrg8 := HRG.out.kept hg8 (fun e => by injection e with e; omega) (fun e => by injection e with e; omega)
      go_roundw
      case rel => exact ⟨_, _, _, _, _, _, _, _, _, _, _, ⟨_, cnt5, _, hrg8, Go.Lib.hid ⟨tightN ho8, NM5.out⟩, b8⟩, rfl⟩
      case measure => rw [hrg8.left_eq, HLEFT]; exact hlt5
set_option maxRecDepth 100000 in
theorem LiR.full {w' : World} {F' G' : Nat → Prop} {h : Hr} {l : List Int} (r : LiR w F G h l) (hk : w'.heap[h.b]? = w.heap[h.b]?) (hG : G' h.b) : LiR w' F' G' ⟨h.b, h.n, h.n⟩ l := by
  obtain ⟨cur, e1, e2, e3⟩ := r.ex
  have := r.le
  have := r.cap
  exact ⟨⟨cur, hk.trans e1, by simp only; omega, e3⟩, r.len, r.pos, Nat.le_refl _, by simp only; omega, fun hx => absurd hx (Nat.lt_irrefl _), hG⟩
set_option maxRecDepth 100000 in
theorem OldL.full {old : Option Hr} {l : List Int} (h : OldL w F G old l) : ∃ A n c, mkL old = .slice A n c ∧ mkL (fullO old) = .slice A n n := by
  rcases h with ⟨y, rfl, r⟩ | ⟨rfl, rfl⟩
  · exact ⟨_, _, _, rfl, rfl⟩
  · exact ⟨none, 0, 0, rfl, rfl⟩
set_option maxRecDepth 100000 in
theorem full_room {old : Option Hr} {h : Hr} (e : fullO old = some h) : ¬ h.n < h.c := by
  cases old with
  | none => cases e
  | some x =>
    injection e with e
    subst e
    exact Nat.lt_irrefl _
set_option maxHeartbeats 8000000 in
set_option maxRecDepth 100000 in
theorem clone13_any (h : LnR w F G g D mb M hd) (hl : ∀ b, (D.t b).length ≤ 1000000) :
    Calls Tryz.prog 15 #[.pointer (some ⟨g, 0, none⟩)] w fun e w' => ∃ g', e = .returned (.pointer (some ⟨g', 0, none⟩)) ∧ Below w.heap.size w w' ∧
      ∃ mb2 M2, LnR w' (fun k => w.heap.size ≤ k ∧ k < w'.heap.size) (up G w w') g' D mb2 M2 (fun k => fullO (hd k)) := by
  have bd : Below w.heap.size w w.drew := ⟨rfl, rfl, rfl, Nat.le_refl _, fun _ _ => rfl⟩
  have k0 : w.drew.cell? ⟨g, 0, none⟩ = some (mkL (hd none)) := h.c0
  have k1 : w.drew.cell? ⟨g, 1, none⟩ = some (.map (some (mb false))) := h.c1
  have k2 : w.drew.cell? ⟨g, 2, none⟩ = some (.map (some (mb true))) := h.c2
  obtain ⟨A, n, c, eA, eF⟩ := (h.co.li none).full
  have cs := shared_any (h.co.li none)
  rw [eA, eF] at cs
  rw [eA] at k0
  have CS := Go.Lib.hid cs
  have CM1 := Go.Lib.hid (fun W (b : Below w.heap.size w W) => sharedAll_any (h.below b) false (hl false))
  have CM2 := Go.Lib.hid (fun W (b : Below w.heap.size w W) => sharedAll_any (h.below b) true (hl true))
  have H := Go.Lib.hid h
  have HL := Go.Lib.hid hl
  have BD := Go.Lib.hid bd
  have EF := Go.Lib.hid eF
  clear h hl bd cs eA eF
  generalize mb false = m1 at k1 CM1
  generalize mb true = m2 at k2 CM2
  go_enter Tryz.func15, Tryz.ntmps15
  go_upto_region 1 with (fail)
  go_region_held (fun w' => w'.cell? ⟨g, 0, none⟩ = some (.slice A n c) ∧ w'.cell? ⟨g, 1, none⟩ = some (.map (some m1)) ∧ w'.cell? ⟨g, 2, none⟩ = some (.map (some m2)))
    (first | exact ⟨k0, k1, k2⟩ | exact ⟨y0, y1, y2⟩ | exact ⟨q0, q1, q2⟩ | exact ⟨z0, z1, z2⟩)
    (first
      | (go_at_call 31; refine (CS.out _).mono ?_; rintro e w3 ⟨rfl, rfl⟩)
      | (go_at_call 32; refine (CM2.out _ (below_chain BD.out b4)).mono ?_; rintro e w5 ⟨m5, M5, rfl, l5, c5, b5⟩; have z0 := bcell b5 y0; have z1 := bcell b5 y1; have z2 := bcell b5 y2; have al := (Below.refl w5.heap.size w5).alloc (Nat.le_refl _) (.cells #[.slice A n n, .map (some m4), .map (some m5)] 60); have q0 := bcell al z0; have q1 := bcell al z1; have q2 := bcell al z2; have AL := Go.Lib.hid al; clear al; have HM5 := Go.Lib.hid (And.intro l5 c5); clear l5 c5)
      | (go_at_call 32; refine (CM1.out _ BD.out).mono ?_; rintro e w4 ⟨m4, M4, rfl, l4, c4, b4⟩; have y0 := bcell b4 k0; have y1 := bcell b4 k1; have y2 := bcell b4 k2; have HM4 := Go.Lib.hid (And.intro l4 c4); clear l4 c4))
  go_wp2_with fail
  go_ret
  obtain ⟨l4, c4⟩ := HM4.out
  obtain ⟨l5, c5⟩ := HM5.out
  have l4 : w.heap.size ≤ m4 := l4
  have bx := heap_alloc_new w5 (.cells #[.slice A n n, .map (some m4), .map (some m5)] 60)
  have s6 : (w5.alloc (.cells #[.slice A n n, .map (some m4), .map (some m5)] 60)).heap.size = w5.heap.size + 1 := by simp
  have B6 := below_chain (below_chain (below_chain BD.out b4) b5) AL.out
  have z4 : w.heap.size ≤ w4.heap.size := b4.size
  have z5 := b5.size
  have t4 := c4.lt
  have t5 := c5.lt
  have gr : ∀ {u v : World}, Below u.heap.size u v → u.grownBy v none := fun b => ⟨b.os, b.tape, b.output, b.size, fun j hj _ => b.block j hj⟩
  have d4 := (c4.grown (gr b5) (by simp)).grown (gr AL.out) (by simp)
  have d5 := c5.grown (gr AL.out) (by simp)
  have h6 := H.out.below B6
  generalize w5.alloc (.cells #[.slice A n n, .map (some m4), .map (some m5)] 60) = w6 at *
  refine ⟨w5.heap.size, rfl, B6, fun b => if b then m5 else m4, fun b => if b then M5 else M4, ⟨?_, fun b => ?_, fun b => ?_, ⟨fun k => ?_, fun k k' h h' _ e _ hsp => absurd hsp (full_room e)⟩, fun b c e => ?_, ⟨by omega, by omega⟩, fun b => ?_, fun k hk => .inr hk, fun k hk => up_lt H.out.lt B6.size hk⟩⟩
  · rw [EF.out]
    exact bx
  · cases b
    · exact d4.own
    · exact d5.own
  · cases b
    · exact d4.nm
    · exact d5.nm
  · rcases h6.co.li k with ⟨y, e, r⟩ | ⟨e, hn⟩
    · exact .inl ⟨⟨y.b, y.n, y.n⟩, by rw [e]; rfl, r.full rfl (.inl r.gb)⟩
    · exact .inr ⟨by rw [e]; rfl, hn⟩
  · cases b <;> cases c <;> simp at e ⊢ <;> omega
  · cases b <;> simp <;> omega
end

end Go.Proofs.YtiplfhmimpkplaaGreat.PnWalk

/-
  Contracts of the landed posting, its lists a part of an index: sharedAll, Clone.
-/
namespace Go.Proofs.YtiplfhmimpkplaaGreat.PnWalk
open Go.RowKit Go.Maps Go.Proofs.YtiplfhmimpkplaaGreat.MemRow Go.Proofs.YtiplfhmimpkplaaGreat.Ev Go.Proofs.YtiplfhmimpkplaaGreat.NameMath Go.Proofs.YtiplfhmimpkplaaGreat.NameWalk Go.Proofs.YtiplfhmimpkplaaGreat.EvWalk Go.Proofs.YtiplfhmimpkplaaGreat.NumMem Go.Proofs.YtiplfhmimpkplaaGreat.SmWalk Go.Proofs.YtiplfhmimpkplaaGreat.NMap Go.Proofs.YtiplfhmimpkplaaGreat.DkWalk Go.Proofs.YtiplfhmimpkplaaGreat.PoWalk Go.Proofs.YtiplfhmimpkplaaGreat.Qu Go.Proofs.YtiplfhmimpkplaaGreat.QuWalk Go.Proofs.YtiplfhmimpkplaaGreat.InWalk

section
variable {w : World} {F G : Nat → Prop} {g : Nat} {r m0 lp : Value} {D : Dt} {mb : Option (Bool → Nat)} {M : Bool → DataW Hr} {hd : HdT} {L : Ls}
set_option maxHeartbeats 8000000 in
set_option maxRecDepth 100000 in
theorem sharedAll14S_any {f : Bool → Nat} (h : LnC w F G D (some f) M hd) (b : Bool) (hl : (D.t b).length ≤ 1000000) :
    Calls Tryz.prog 32 #[.map (some (f b))] w fun e w' => ∃ m2 M2, e = .returned (.map (some m2)) ∧ w.heap.size ≤ m2 ∧ CmR w' m2 (namesT (D.t b)) M2 (fun s => hv (fullO (hd (some (b, s))))) ∧ Below w.heap.size w w' := by
  have hsz := h.size b
  have hns := namesT_len (D.t b)
  have ql : ∀ ty, (Builtin.len_ #[58] ty #[.map (some (f b))]).run Tryz.prog w = .ok (.int .i64 (Maps.size (M b) : Nat)) w := fun ty => World.ownsMap.len (h.own b : w.ownsMap Tryz.prog 9 slR (f b) (Maps.size (M b)) (M b)) Tryz.underlying58 ty
  have hmm := run_makeHintN (P := Tryz.prog) (t := 58) Tryz.underlying58
  have b1 := (Below.refl w.heap.size w).alloc (Nat.le_refl _) (.map #[] 0)
  have H := Go.Lib.hid h
  have HSZ := Go.Lib.hid hsz
  have h1 := h.below b1
  have C1 := Go.Lib.hid (show CmR (w.alloc (.map #[] 0)) w.heap.size [] (.map []) (fun s => hv (fullO (hd (some (b, s))))) from ⟨World.ownsMap_made w Tryz.prog 9 slR, NOf.empty _⟩)
  have s1 : (w.alloc (.map #[] 0)).heap.size = w.heap.size + 1 := by simp
  clear h hsz
  go_enter Tryz.func32, Tryz.ntmps32
  go_upto_region 2 with (fail)
  generalize w.alloc (.map #[] 0) = w3 at *
  have hown : w3.ownsMap Tryz.prog 9 slR (f b) (Maps.size (M b)) (M b) := h1.own b
  have NM := h1.nm b
  have BB := Go.Lib.hid b1
  have SS := Go.Lib.hid s1
  have H1 := Go.Lib.hid h1
  clear h1 b1 s1 ql hmm
  go_wp2_with (at_range; refine wpList_range_own _ rfl _ 58 rfl 9 57 keyedN Tryz.underlying58 slR (f b) (Maps.size (M b)) (M b) rfl hown ?_; intro w4 hrg4 hg4 hs4)
  go_frame
  go_loopw [4, 5] (fun _ _ wr => ∃ (left : Lit → Bool) (cnt : Nat) (Mc : DataW Hr), wr.ranges Tryz.prog 9 slR (f b) w3.heap.size (Maps.size (M b)) (M b) left cnt ∧ Hid (CmR wr w.heap.size (cameN left (namesT (D.t b))) Mc (fun s => hv (fullO (hd (some (b, s)))))) ∧ Below w.heap.size w wr) (fun _ _ wr => wr.rangeLeft (f b) w3.heap.size)
  case atStart =>
    have hb4 := grown_below hg4
    have hl : ∀ s ∈ namesT (D.t b), has (M b) (keyN s) = true := fun s hs => NM.yes hs
    refine ⟨_, _, .map [], hrg4, Go.Lib.hid ?_, below_chain BB.out hb4⟩
    rw [cameN_start hl]
    exact C1.out.grown hg4 (by simp)
  case round =>
    obtain ⟨left, cnt, Mc, hrg, HA, hb⟩ := hrel
    clear hrg4 hg4 hs4
    go_wp2_with (at_next; refine wpList_next_ns _ slR mkL mkL_inv valL slR_held rfl _ rfl NM (f b) w3.heap.size (Maps.size (M b)) _ _ rfl hrg ?_ ?_)
    · intro hc0 hl0
      have ha := HA.out
      rw [cameN_end _ hl0] at ha
      have HR := Go.Lib.hid ha
      clear ha HA hrg
      go_wp2_with fail
      go_ret
      exact ⟨_, _, rfl, Nat.le_refl _, HR.out, hb⟩
    · intro s hs w5 cnt5 hlk hss hrg5 hlt5 hg5 hs5 hen
      have s3 := SS.out
      have h5 := HA.out.grown hg5 (by rw [s3]; simp)
      have b5 : Below w.heap.size w w5 := hb.grown hg5 hb.size (fun r e => by injection e with e; omega)
      have hcn : (cameN left (namesT (D.t b))).length ≤ (namesT (D.t b)).length := List.length_filter_le _ _
      have hmx : Maps.size Mc < maxLen := by
        rw [h5.nm.size (h5.own.canon keyedN) ((up_nodupN (namesT_up (D.t b))).sublist (List.filter_sublist (p := fun s => !left (keyN s))))]
        unfold maxLen
        omega
      have hkey := keyN_of hss
      obtain ⟨x, ex⟩ := H.out.co.has hs
      have cs := shared_any (H.out.co.li (some (b, s))) w5
      rw [ex] at cs
      have ev : valL (hv (hd (some (b, s)))) = .slice (some ⟨x.b, 0, none⟩) x.n x.c := by rw [ex]; rfl
      have fx : hv (fullO (hd (some (b, s)))) = ⟨x.b, x.n, x.n⟩ := by rw [ex]; rfl
      rw [ev] at hen ⊢
      have CS := Go.Lib.hid (show Calls Tryz.prog 31 #[.slice (some ⟨x.b, 0, none⟩) x.n x.c] w5 fun e w' => e = .returned (.slice (some ⟨x.b, 0, none⟩) x.n x.n) ∧ w' = w5 from cs)
      have own5 := h5.own
      have HRG := Go.Lib.hid hrg5
      have HLEFT := hrg.left_eq
      have nm5 := h5.nm.put (isMapN h5.own) (s := s) (ns' := cameN (cutN left s) (namesT (D.t b))) (h' := fun s => hv (fullO (hd (some (b, s))))) (cameN_step hs) (fun _ _ => rfl)
      simp only [fx] at nm5
      have NM5 := Go.Lib.hid nm5
      have HG := Go.Lib.hid (H.out.lt _ (H.out.fG _ (H.out.fm f rfl b)))
      have hsr := slR_some (⟨x.b, x.n, x.n⟩ : Hr)
      clear hcn hb HA hg5 hs5 hrg hrg5 ex fx h5 cs ev nm5 NM s3
      go_wp2_with (first
        | (go_at_call 31; refine (CS.out).mono ?_; rintro e w6 ⟨rfl, rfl⟩)
        | (at_mapUpdate; refine wpList_mapUpdate_own _ rfl _ _ _ 58 rfl 9 57 keyedN Tryz.underlying58 slR w.heap.size (Maps.size Mc) Mc rfl own5 hmx _ _ _ rfl rfl hkey _ [] hsr ?_; intro w8 ho8 hg8))
      have z5 := b5.size
      have hmb := HG.out
      have s3 := SS.out
      have b8 : Below w.heap.size w w8 := b5.grown hg8 b5.size (fun j e => by injection e with e; omega)
      have hrg8 := HRG.out.kept hg8 (fun e => by injection e with e; omega) (fun e => by injection e with e; omega)
      go_roundw
      case rel => exact ⟨_, _, _, _, _, _, _, _, _, _, _, ⟨_, cnt5, _, hrg8, Go.Lib.hid ⟨tightN ho8, NM5.out⟩, b8⟩, rfl⟩
      case measure => rw [hrg8.left_eq, HLEFT]; exact hlt5
set_option maxHeartbeats 8000000 in
set_option maxRecDepth 100000 in
theorem sharedAll14N_any (h : LnC w F G D none M hd) (b : Bool) :
    Calls Tryz.prog 32 #[.map none] w fun e w' => ∃ m2 M2, e = .returned (.map (some m2)) ∧ w.heap.size ≤ m2 ∧ CmR w' m2 (namesT (D.t b)) M2 (fun s => hv (fullO (hd (some (b, s))))) ∧ Below w.heap.size w w' := by
  have ql : ∀ ty W, (Builtin.len_ #[58] ty #[.map none]).run Tryz.prog W = .ok (.int .i64 0) W := fun ty W => Maps.len_nil Tryz.underlying58 ty
  have hmm := run_makeHintN (P := Tryz.prog) (t := 58) Tryz.underlying58
  have b1 : Below w.heap.size w (w.alloc (.map #[] 0)) := (Below.refl _ w).alloc (Nat.le_refl _) _
  have C1 : CmR (w.alloc (.map #[] 0)) w.heap.size [] (.map []) (fun s => hv (fullO (hd (some (b, s))))) := ⟨World.ownsMap_made w Tryz.prog 9 slR, NOf.empty _⟩
  have hT := h.nil.2 b
  rw [hT]
  clear h hT
  go_enter Tryz.func32, Tryz.ntmps32
  go_upto_region 2 with (fail)
  generalize w.alloc (.map #[] 0) = w3 at *
  have hrg := run_range_nilMap (P := Tryz.prog) w3 58 9 57 Tryz.underlying58
  have hnx : ∀ ty, (Instr.next (.pointer (some ⟨w3.heap.size, 0, none⟩)) false ty).run Tryz.prog (w3.alloc (.mapIter none 0 #[] 0)) = _ := fun ty => run_next_nilMap _ ty 0 0 #[]
  have al : Below w3.heap.size w3 (w3.alloc (.mapIter none 0 #[] 0)) := (Below.refl _ _).alloc (Nat.le_refl _) _
  have B4 := Go.Lib.hid (below_chain b1 al)
  have C4 := Go.Lib.hid (C1.grown (World.grownBy_alloc w3 (.mapIter none 0 #[] 0) none) (by simp))
  clear b1 C1 al ql hmm
  go_wp2_with fail
  go_loopw [4, 5] (fun _ _ wr => wr = w3.alloc (.mapIter none 0 #[] 0)) (fun _ _ _ => 0)
  case atStart => rfl
  case round =>
    obtain rfl := hrel
    go_wp2_with fail
    go_ret
    exact ⟨_, _, rfl, Nat.le_refl _, C4.out, B4.out⟩
theorem sharedAll14_any (h : LnC w F G D mb M hd) (b : Bool) (hl : (D.t b).length ≤ 1000000) :
    Calls Tryz.prog 32 #[.map (mapAt mb b)] w fun e w' => ∃ m2 M2, e = .returned (.map (some m2)) ∧ w.heap.size ≤ m2 ∧ CmR w' m2 (namesT (D.t b)) M2 (fun s => hv (fullO (hd (some (b, s))))) ∧ Below w.heap.size w w' := by
  cases mb with
  | none => exact sharedAll14N_any h b
  | some f => exact sharedAll14S_any h b hl
set_option maxHeartbeats 8000000 in
set_option maxRecDepth 100000 in
theorem clone14p_any (hx : LBx w g r m0 lp mb hd) (h : LnC w F G D mb M hd) (hl : ∀ b, (D.t b).length ≤ 1000000) :
    Calls Tryz.prog 15 #[.pointer (some ⟨g, 3, none⟩)] w fun e w' => ∃ g', e = .returned (.pointer (some ⟨g', 0, none⟩)) ∧ Below w.heap.size w w' ∧
      ∃ (f2 : Bool → Nat) (M2 : Bool → DataW Hr), w'.heap[g']? = some (.cells #[mkL (fullO (hd none)), .map (some (f2 false)), .map (some (f2 true))] 60 (0, 0)) ∧ LnC w' (fun k => w.heap.size ≤ k ∧ k < w'.heap.size) (up G w w') D (some f2) M2 (fun k => fullO (hd k)) := by
  have bd : Below w.heap.size w w.drew := ⟨rfl, rfl, rfl, Nat.le_refl _, fun _ _ => rfl⟩
  have k0 : w.drew.cell? ⟨g, 3, none⟩ = some (mkL (hd none)) := hx.c3
  have k1 : w.drew.cell? ⟨g, 4, none⟩ = some (.map (mapAt mb false)) := hx.c4
  have k2 : w.drew.cell? ⟨g, 5, none⟩ = some (.map (mapAt mb true)) := hx.c5
  obtain ⟨A, n, c, eA, eF⟩ := (h.co.li none).full
  have cs := shared_any (h.co.li none)
  rw [eA, eF] at cs
  rw [eA] at k0
  have CS := Go.Lib.hid cs
  have CM1 := Go.Lib.hid (fun W (b : Below w.heap.size w W) => sharedAll14_any (h.below b) false (hl false))
  have CM2 := Go.Lib.hid (fun W (b : Below w.heap.size w W) => sharedAll14_any (h.below b) true (hl true))
  have H := Go.Lib.hid h
  have HL := Go.Lib.hid hl
  have BD := Go.Lib.hid bd
  have EF := Go.Lib.hid eF
  clear h hx hl bd cs eA eF
  generalize mapAt mb false = m1 at k1 CM1
  generalize mapAt mb true = m2 at k2 CM2
  go_enter Tryz.func15, Tryz.ntmps15
  go_upto_region 1 with (fail)
  go_region_held (fun w' => w'.cell? ⟨g, 3, none⟩ = some (.slice A n c) ∧ w'.cell? ⟨g, 4, none⟩ = some (.map m1) ∧ w'.cell? ⟨g, 5, none⟩ = some (.map m2))
    (first | exact ⟨k0, k1, k2⟩ | exact ⟨y0, y1, y2⟩ | exact ⟨q0, q1, q2⟩ | exact ⟨z0, z1, z2⟩)
    (first
      | (go_at_call 31; refine (CS.out _).mono ?_; rintro e w3 ⟨rfl, rfl⟩)
      | (go_at_call 32; refine (CM2.out _ (below_chain BD.out b4)).mono ?_; rintro e w5 ⟨m5, M5, rfl, l5, c5, b5⟩; have z0 := bcell b5 y0; have z1 := bcell b5 y1; have z2 := bcell b5 y2; have al := (Below.refl w5.heap.size w5).alloc (Nat.le_refl _) (.cells #[.slice A n n, .map (some m4), .map (some m5)] 60); have q0 := bcell al z0; have q1 := bcell al z1; have q2 := bcell al z2; have AL := Go.Lib.hid al; clear al; have HM5 := Go.Lib.hid (And.intro l5 c5); clear l5 c5)
      | (go_at_call 32; refine (CM1.out _ BD.out).mono ?_; rintro e w4 ⟨m4, M4, rfl, l4, c4, b4⟩; have y0 := bcell b4 k0; have y1 := bcell b4 k1; have y2 := bcell b4 k2; have HM4 := Go.Lib.hid (And.intro l4 c4); clear l4 c4))
  go_wp2_with fail
  go_ret
  obtain ⟨l4, c4⟩ := HM4.out
  obtain ⟨l5, c5⟩ := HM5.out
  have l4 : w.heap.size ≤ m4 := l4
  have bx := heap_alloc_new w5 (.cells #[.slice A n n, .map (some m4), .map (some m5)] 60)
  have s6 : (w5.alloc (.cells #[.slice A n n, .map (some m4), .map (some m5)] 60)).heap.size = w5.heap.size + 1 := by simp
  have B6 := below_chain (below_chain (below_chain BD.out b4) b5) AL.out
  have z4 : w.heap.size ≤ w4.heap.size := b4.size
  have z5 := b5.size
  have t4 := c4.lt
  have t5 := c5.lt
  have gr : ∀ {u v : World}, Below u.heap.size u v → u.grownBy v none := fun b => ⟨b.os, b.tape, b.output, b.size, fun j hj _ => b.block j hj⟩
  have d4 := (c4.grown (gr b5) (by simp)).grown (gr AL.out) (by simp)
  have d5 := c5.grown (gr AL.out) (by simp)
  have h6 := H.out.below B6
  generalize w5.alloc (.cells #[.slice A n n, .map (some m4), .map (some m5)] 60) = w6 at *
  refine ⟨w5.heap.size, rfl, B6, fun b => if b then m5 else m4, fun b => if b then M5 else M4, ?_, ⟨fun b => ?_, fun b => ?_, ⟨fun k => ?_, fun k k' h h' _ e _ hsp => absurd hsp (full_room e)⟩, fun f e => ?_, fun e => (by cases e), fun f e b => ?_, fun k hk => .inr hk, fun k hk => up_lt H.out.lt B6.size hk⟩⟩
  · rw [EF.out]
    exact bx
  · cases b
    · exact d4.own
    · exact d5.own
  · cases b
    · exact d4.nm
    · exact d5.nm
  · rcases h6.co.li k with ⟨y, e, r⟩ | ⟨e, hn⟩
    · exact .inl ⟨⟨y.b, y.n, y.n⟩, by rw [e]; rfl, r.full rfl (.inl r.gb)⟩
    · exact .inr ⟨by rw [e]; rfl, hn⟩
  · injection e with e
    subst e
    intro b c e
    cases b <;> cases c <;> simp at e ⊢ <;> omega
  · injection e with e
    subst e
    cases b <;> simp <;> omega
end

end Go.Proofs.YtiplfhmimpkplaaGreat.PnWalk

/-
  The landed index in memory: all its parts; what adding an event makes of it, and of another index that shares its lists.
-/
namespace Go.Proofs.YtiplfhmimpkplaaGreat.IxWalk
open Go.RowKit Go.Maps Go.Proofs.YtiplfhmimpkplaaGreat.MemRow Go.Proofs.YtiplfhmimpkplaaGreat.Ev Go.Proofs.YtiplfhmimpkplaaGreat.NameMath Go.Proofs.YtiplfhmimpkplaaGreat.NameWalk Go.Proofs.YtiplfhmimpkplaaGreat.EvWalk Go.Proofs.YtiplfhmimpkplaaGreat.NumMem Go.Proofs.YtiplfhmimpkplaaGreat.Qu Go.Proofs.YtiplfhmimpkplaaGreat.QuWalk Go.Proofs.YtiplfhmimpkplaaGreat.BtWalk Go.Proofs.YtiplfhmimpkplaaGreat.DkWalk Go.Proofs.YtiplfhmimpkplaaGreat.InWalk
open Go.Proofs.YtiplfhmimpkplaaGreat.SmWalk (Tb seqT TOk addF lastP seq_last)
open Go.Proofs.YtiplfhmimpkplaaGreat.PnWalk (Dt DOf HdT KinC LnC GrewC mapAt LBx find14_any add14p_any clone14p_any)

/-- The blocks of an index: those that are its own to write (F), and those that it reads (G), of its table, its lists, its records; the records' rows (W). -/
structure Sets where
  Fs : Nat → Prop
  Gs : Nat → Prop
  Fp : Nat → Prop
  Gp : Nat → Prop
  Fr : Nat → Prop
  Gr : Nat → Prop
  W : Nat → Prop
structure Dat where
  mb : Option Nat
  M : DataW SmWalk.Hr
  hd : ByteArray → SmWalk.Hr
  D : Dt
  mp : Option (Bool → Nat)
  Mp : Bool → DataW PnWalk.Hr
  hp : HdT
  old : Option Hx
def Sets.all (S : Sets) (g : Nat) (k : Nat) : Prop := k = g ∨ S.Gs k ∨ S.Gp k ∨ S.Gr k ∨ S.W k
def Sets.wr (S : Sets) (g : Nat) (k : Nat) : Prop := k = g ∨ S.Fs k ∨ S.Fp k ∨ S.Fr k
structure IdR (w : World) (g : Nat) (S : Sets) (d : Dat) (es : List Ev) : Prop where
  bx : XBx w g (mkX d.old) (.map d.mb) (.int .i64 (es.length : Nat)) (PnWalk.mkL (d.hp none)) (.map (mapAt d.mp false)) (.map (mapAt d.mp true))
  st : TbC w S.Fs S.Gs (seqT (strs es)) d.mb d.M d.hd
  ln : LnC w S.Fp S.Gp d.D d.mp d.Mp d.hp
  dof : DOf d.D (logL es)
  rl : OldR w S.Fr S.Gr S.W d.old (recF es)
  frg : ∀ k, S.Fr k → S.Gr k
  ltr : ∀ k, S.Gr k → k < w.heap.size
  ltw : ∀ k, S.W k → k < w.heap.size
  sp : ∀ k, S.Gs k → ¬ S.Gp k
  sr : ∀ k, S.Gs k → ¬ S.Gr k
  sw : ∀ k, S.Gs k → ¬ S.W k
  pr : ∀ k, S.Gp k → ¬ S.Gr k
  pw : ∀ k, S.Gp k → ¬ S.W k
  rw_ : ∀ k, S.Gr k → ¬ S.W k
  ns : ¬ S.Gs g
  np : ¬ S.Gp g
  nr : ¬ S.Gr g
  nw : ¬ S.W g
section
variable {w w' w1 w2 : World} {g g' : Nat} {S S1 S2 S' : Sets} {d d1 d2 d' : Dat} {es es1 es2 es' : List Ev}
set_option maxRecDepth 100000 in
theorem IdR.last (h : IdR w g S d es) : XBx w g (mkX d.old) (.map d.mb) (.int .i64 (lastP (seqT (strs es)))) (PnWalk.mkL (d.hp none)) (.map (mapAt d.mp false)) (.map (mapAt d.mp true)) := by
  have e : lastP (seqT (strs es)) = (es.length : Int) := by rw [seq_last, List.length_map]
  rw [e]
  exact h.bx
set_option maxRecDepth 100000 in
theorem IdR.lt (h : IdR w g S d es) : ∀ k, S.all g k → k < w.heap.size := fun k hk => by
  rcases hk with rfl | hk | hk | hk | hk
  · exact h.bx.lt
  · exact h.st.lt k hk
  · exact h.ln.lt k hk
  · exact h.ltr k hk
  · exact h.ltw k hk
set_option maxRecDepth 100000 in
theorem IdR.wra (h : IdR w g S d es) : ∀ k, S.wr g k → S.all g k := fun k hk => by
  rcases hk with rfl | hk | hk | hk
  · exact .inl rfl
  · exact .inr (.inl (h.st.fG k hk))
  · exact .inr (.inr (.inl (h.ln.fG k hk)))
  · exact .inr (.inr (.inr (.inl (h.frg k hk))))
set_option maxRecDepth 100000 in
theorem IdR.keep (h : IdR w g S d es) (hs : w.heap.size ≤ w'.heap.size) (hk : ∀ k, S.all g k → w'.heap[k]? = w.heap[k]?) : IdR w' g S d es :=
  ⟨h.bx.at_ (hk g (.inl rfl)), h.st.keep hs fun k h => hk k (.inr (.inl h)), h.ln.keep hs fun k h => hk k (.inr (.inr (.inl h))), h.dof, h.rl.kept (fun k h => hk k (.inr (.inr (.inr (.inl h))))) (fun k h => hk k (.inr (.inr (.inr (.inr h))))), h.frg, fun k hk => Nat.lt_of_lt_of_le (h.ltr k hk) hs, fun k hk => Nat.lt_of_lt_of_le (h.ltw k hk) hs, h.sp, h.sr, h.sw, h.pr, h.pw, h.rw_, h.ns, h.np, h.nr, h.nw⟩
theorem IdR.below (h : IdR w g S d es) (hb : Below w.heap.size w w') : IdR w' g S d es := h.keep hb.size fun k hk => hb.block k (h.lt k hk)

/-! ### Another one that shares lists -/
def AptX (o o' : Option Hx) : Prop := ∀ h h', o = some h → o' = some h' → h.n < h.c → h'.b = h.b → h'.n ≤ h.n
structure Rel (S : Sets) (d : Dat) (es : List Ev) (S' : Sets) (d' : Dat) (es' : List Ev) : Prop where
  gs : S'.Gs = S.Gs
  gp : S'.Gp = S.Gp
  gr : S'.Gr = S.Gr
  gw : S'.W = S.W
  fs : ∀ k, S.Fs k → ¬ S'.Fs k
  fp : ∀ k, S.Fp k → ¬ S'.Fp k
  fr : ∀ k, S.Fr k → ¬ S'.Fr k
  as_ : SmWalk.Apt (seqT (strs es)) d.hd (seqT (strs es')) d'.hd
  as' : SmWalk.Apt (seqT (strs es')) d'.hd (seqT (strs es)) d.hd
  ap : PnWalk.Apt d.hp d'.hp
  ap' : PnWalk.Apt d'.hp d.hp
  ar : AptX d.old d'.old
  ar' : AptX d'.old d.old
set_option maxRecDepth 100000 in
theorem Rel.swap (h : Rel S d es S' d' es') : Rel S' d' es' S d es :=
  ⟨h.gs.symm, h.gp.symm, h.gr.symm, h.gw.symm, fun k hk hf => h.fs k hf hk, fun k hk hf => h.fp k hf hk, fun k hk hf => h.fr k hf hk, h.as', h.as_, h.ap', h.ap, h.ar', h.ar⟩
/-- The one's own blocks, and what another one reads. -/
def Sets.grow (S' S1 : Sets) : Sets := ⟨S'.Fs, S1.Gs, S'.Fp, S1.Gp, S'.Fr, S1.Gr, S1.W⟩
structure Step (w w' : World) (g : Nat) (S : Sets) (d : Dat) (es : List Ev) (S1 : Sets) (d1 : Dat) (es1 : List Ev) : Prop where
  id : IdR w' g S1 d1 es1
  ch : Ch (S.wr g) w w'
  gr : ∀ k, S1.all g k → up (S.all g) w w' k
  fw : ∀ k, S1.wr g k → up (S.wr g) w w' k
  kin : ∀ (g' : Nat) (S' : Sets) (d' : Dat) (es' : List Ev), IdR w g' S' d' es' → g' ≠ g → Rel S d es S' d' es' → IdR w' g' (S'.grow S1) d' es' ∧ Rel S1 d1 es1 (S'.grow S1) d' es'
set_option maxRecDepth 100000 in
theorem Step.below (h : IdR w g S d es) (hb : Below w.heap.size w w') : Step w w' g S d es S d es :=
  ⟨h.below hb, Ch.of_below hb, fun _ hk => .inl hk, fun _ hk => .inl hk, fun g' S' d' es' h' _ r => by
    have e : S'.grow S = S' := by
      unfold Sets.grow
      rw [← r.gs, ← r.gp, ← r.gr, ← r.gw]
    rw [e]
    exact ⟨h'.below hb, r⟩⟩
set_option maxRecDepth 100000 in
theorem Step.trans (h1 : Step w w1 g S d es S1 d1 es1) (h2 : Step w1 w2 g S1 d1 es1 S2 d2 es2) : Step w w2 g S d es S2 d2 es2 := by
  have s1 := h1.ch.size
  have s2 := h2.ch.size
  refine ⟨h2.id, h1.ch.trans (h2.ch.wide fun k hk => h1.fw k hk), fun k hk => ?_, fun k hk => ?_, fun g' S' d' es' h' hne r => ?_⟩
  · rcases h2.gr k hk with hk | hk
    · exact up_mono s2 (h1.gr k hk)
    · exact .inr ⟨by omega, hk.2⟩
  · rcases h2.fw k hk with hk | hk
    · exact up_mono s2 (h1.fw k hk)
    · exact .inr ⟨by omega, hk.2⟩
  · obtain ⟨a, b⟩ := h1.kin g' S' d' es' h' hne r
    exact h2.kin g' (S'.grow S1) d' es' a hne b
set_option maxRecDepth 100000 in
theorem up_apart {A B : Nat → Prop} {n : Nat} {a a1 b b1 : World} (hA : ∀ k, A k → k < n) (hB : ∀ k, B k → k < n) (hAB : ∀ k, A k → ¬ B k) (h1 : n ≤ a.heap.size) (h2 : n ≤ b.heap.size) (h3 : a1.heap.size ≤ b.heap.size) : ∀ k, up A a a1 k → ¬ up B b b1 k := fun k hk hk2 => by
  rcases hk with hk | hk <;> rcases hk2 with hk2 | hk2
  · exact hAB k hk hk2
  · have := hA k hk; omega
  · have := hB k hk2; omega
  · omega
end

/-! ### An event is added -/
section
variable {w w1 w2 w3 w4 w5 : World} {g : Nat} {S : Sets} {d : Dat} {es : List Ev} {e : Ev} {mb1 : Option Nat} {M1 : DataW SmWalk.Hr} {hd1 : ByteArray → SmWalk.Hr} {D1 : Dt} {mp1 : Option (Bool → Nat)} {Mp1 : Bool → DataW PnWalk.Hr} {hp1 : HdT} {h' : Hx}
set_option maxRecDepth 100000 in
set_option maxHeartbeats 2000000 in
theorem Step.of (h : IdR w g S d es)
    (bx1 : XBx w1 g (mkX d.old) (.map mb1) (.int .i64 (lastP (seqT (strs (es ++ [e]))))) (PnWalk.mkL (d.hp none)) (.map (mapAt d.mp false)) (.map (mapAt d.mp true)))
    (st1 : TbC w1 (up S.Fs w w1) (up S.Gs w w1) (seqT (strs (es ++ [e]))) mb1 M1 hd1) (ch1 : Ch (fun k => S.Fs k ∨ k = g) w w1) (kin1 : KinS w w1 S.Fs (seqT (strs es)) d.hd (seqT (strs (es ++ [e]))) hd1)
    (g2 : GrewC w1 w2 S.Fp S.Gp g (mkX d.old) (.map mb1) (.int .i64 (lastP (seqT (strs (es ++ [e]))))) d.hp D1 mp1 Mp1 hp1) (dof1 : DOf D1 (logL (es ++ [e])))
    (b3 : Below w2.heap.size w2 w3) (b4 : Below w3.heap.size w3 w4)
    (rp : RapOut w4 w5 S.Fr S.Gr (up S.W w2 w3) d.old (recF es) ⟨(es.length : Int) + 1, (SmWalk.cnt (strs es) e.s : Int) + 1, e⟩ h') :
    Step w (w5.setCell ⟨g, 0, none⟩ (valX h')) g S d es ⟨up S.Fs w w1, up S.Gs w w1, up S.Fp w1 w2, up S.Gp w1 w2, up S.Fr w4 w5, up S.Gr w4 w5, up S.W w2 w3⟩ ⟨mb1, M1, hd1, D1, mp1, Mp1, hp1, some h'⟩ (es ++ [e]) := by
  have z1 := ch1.size
  have z2 := g2.ch.size
  have z3 := b3.size
  have z4 := b4.size
  have z5 := rp.size
  have z6 : (w5.setCell ⟨g, 0, none⟩ (valX h')).heap.size = w5.heap.size := by simp [World.setCell]
  have glt := h.bx.lt
  have lts := h.st.lt
  have ltp := h.ln.lt
  have ltr := h.ltr
  have ltw := h.ltw
  have ltfs : ∀ k, S.Fs k → k < w.heap.size := fun k hk => lts k (h.st.fG k hk)
  have ltfp : ∀ k, S.Fp k → k < w.heap.size := fun k hk => ltp k (h.ln.fG k hk)
  have ltfr : ∀ k, S.Fr k → k < w.heap.size := fun k hk => ltr k (h.frg k hk)
  -- blocks that each call leaves
  have K1 : ∀ k, k < w.heap.size → ¬ S.Fs k → k ≠ g → w1.heap[k]? = w.heap[k]? := fun k hk h1 h2 => ch1.block k hk fun hf => hf.elim h1 h2
  have K2 : ∀ k, k < w1.heap.size → ¬ S.Fp k → k ≠ g → w2.heap[k]? = w1.heap[k]? := fun k hk h1 h2 => g2.ch.block k hk fun hf => hf.elim h1 h2
  have b34 := below_chain b3 b4
  have K4 : ∀ k, k < w2.heap.size → w4.heap[k]? = w2.heap[k]? := fun k hk => b34.block k hk
  have K5 : ∀ k, k < w4.heap.size → ¬ S.Fr k → w5.heap[k]? = w4.heap[k]? := fun k hk h1 => rp.ch.block k hk h1
  have K6 : ∀ k, k ≠ g → (w5.setCell ⟨g, 0, none⟩ (valX h')).heap[k]? = w5.heap[k]? := fun k hk => put_other w5 g 0 _ hk
  have nfs : ∀ k, S.Gp k ∨ S.Gr k ∨ S.W k → ¬ S.Fs k := fun k hk hf => by
    have := h.st.fG k hf
    rcases hk with hk | hk | hk
    · exact h.sp k this hk
    · exact h.sr k this hk
    · exact h.sw k this hk
  have nfp : ∀ k, S.Gs k ∨ S.Gr k ∨ S.W k → ¬ S.Fp k := fun k hk hf => by
    have := h.ln.fG k hf
    rcases hk with hk | hk | hk
    · exact h.sp k hk this
    · exact h.pr k this hk
    · exact h.pw k this hk
  have nfr : ∀ k, S.Gs k ∨ S.Gp k ∨ S.W k → ¬ S.Fr k := fun k hk hf => by
    have := h.frg k hf
    rcases hk with hk | hk | hk
    · exact h.sr k hk this
    · exact h.pr k hk this
    · exact h.rw_ k this hk
  have neg : ∀ k, S.Gs k ∨ S.Gp k ∨ S.Gr k ∨ S.W k → k ≠ g := fun k hk e => by
    subst e
    rcases hk with hk | hk | hk | hk
    · exact h.ns hk
    · exact h.np hk
    · exact h.nr hk
    · exact h.nw hk
  -- from behind the first call on, and from behind the second
  have T1 : ∀ k, up S.Gs w w1 k → (w5.setCell ⟨g, 0, none⟩ (valX h')).heap[k]? = w1.heap[k]? := fun k hk => by
    have hlt := up_lt lts z1 hk
    have hn : k ≠ g := by rcases hk with hk | hk; exact neg k (.inl hk); omega
    have hp : ¬ S.Fp k := by rcases hk with hk | hk; exact nfp k (.inl hk); exact fun hf => by have := ltfp k hf; omega
    have hr : ¬ S.Fr k := by rcases hk with hk | hk; exact nfr k (.inl hk); exact fun hf => by have := ltfr k hf; omega
    exact (((K6 k hn).trans (K5 k (by omega) hr)).trans (K4 k (by omega))).trans (K2 k hlt hp hn)
  have T2 : ∀ k, up S.Gp w1 w2 k → (w5.setCell ⟨g, 0, none⟩ (valX h')).heap[k]? = w2.heap[k]? := fun k hk => by
    have hlt : k < w2.heap.size := by rcases hk with hk | hk; (have := ltp k hk; omega); exact hk.2
    have hn : k ≠ g := by rcases hk with hk | hk; exact neg k (.inr (.inl hk)); omega
    have hr : ¬ S.Fr k := by rcases hk with hk | hk; exact nfr k (.inr (.inl hk)); exact fun hf => by have := ltfr k hf; omega
    exact ((K6 k hn).trans (K5 k (by omega) hr)).trans (K4 k hlt)
  have P0 : ∀ k, S.Gp k → w1.heap[k]? = w.heap[k]? := fun k hk => K1 k (ltp k hk) (nfs k (.inl hk)) (neg k (.inr (.inl hk)))
  have R4 : ∀ k, S.Gr k ∨ S.W k → w4.heap[k]? = w.heap[k]? := fun k hk => by
    have hlt : k < w.heap.size := by rcases hk with hk | hk; exact ltr k hk; exact ltw k hk
    have hn : k ≠ g := by rcases hk with hk | hk; exact neg k (.inr (.inr (.inl hk))); exact neg k (.inr (.inr (.inr hk)))
    have hs : ¬ S.Fs k := by rcases hk with hk | hk; exact nfs k (.inr (.inl hk)); exact nfs k (.inr (.inr hk))
    have hp : ¬ S.Fp k := by rcases hk with hk | hk; exact nfp k (.inr (.inl hk)); exact nfp k (.inr (.inr hk))
    exact ((K4 k (by omega)).trans (K2 k (by omega) hp hn)).trans (K1 k hlt hs hn)
  have gr1 : ∀ k, up S.Gr w4 w5 k → k < w5.heap.size := fun k hk => by rcases hk with hk | hk; (have := ltr k hk; omega); exact hk.2
  have gw1 : ∀ k, up S.W w2 w3 k → k < w3.heap.size := fun k hk => by rcases hk with hk | hk; (have := ltw k hk; omega); exact hk.2
  have hlw : (lastP (seqT (strs (es ++ [e])))) = ((es ++ [e]).length : Int) := by rw [seq_last, List.length_map]
  have CH : Ch (S.wr g) w (w5.setCell ⟨g, 0, none⟩ (valX h')) := by
    refine ⟨?_, ?_, ?_, by omega, fun k hk hn => ?_⟩
    · exact (rp.ch.os.trans (b34.os.trans (g2.ch.os.trans ch1.os)))
    · exact (rp.ch.tape.trans (b34.tape.trans (g2.ch.tape.trans ch1.tape)))
    · exact (rp.ch.output.trans (b34.output.trans (g2.ch.output.trans ch1.output)))
    · have h1 : k ≠ g := fun e => hn (.inl e)
      have h2 : ¬ S.Fs k := fun e => hn (.inr (.inl e))
      have h3 : ¬ S.Fp k := fun e => hn (.inr (.inr (.inl e)))
      have h4 : ¬ S.Fr k := fun e => hn (.inr (.inr (.inr e)))
      exact ((((K6 k h1).trans (K5 k (by omega) h4)).trans (K4 k (by omega))).trans (K2 k (by omega) h3 h1)).trans (K1 k hk h2 h1)
  have bx5 : XBx w5 g (mkX d.old) (.map mb1) (.int .i64 (lastP (seqT (strs (es ++ [e]))))) (PnWalk.mkL (hp1 none)) (.map (mapAt mp1 false)) (.map (mapAt mp1 true)) := XBx.at_ g2.bx ((K5 g (by omega) fun hf => h.nr (h.frg g hf)).trans (K4 g (by omega)))
  refine ⟨⟨?_, st1.keep (by omega) T1, g2.ln.keep (by omega) T2, dof1, ?_, fun k hk => ?_, fun k hk => by have := gr1 k hk; omega, fun k hk => by have := gw1 k hk; omega, ?_, ?_, ?_, ?_, ?_, ?_, ?_, ?_, ?_, ?_⟩, CH, fun k hk => ?_, fun k hk => ?_, fun g' S' d' es' h0 hne r => ?_⟩
  · have := bx5.set0 (valX h')
    rw [hlw] at this
    exact this
  · refine .inl ⟨h', rfl, ?_⟩
    rw [rec_snoc]
    refine rp.li.kept (K6 _ ?_) fun k hk => K6 k ?_
    · rcases rp.li.gb with hk | hk
      · exact neg _ (.inr (.inr (.inl hk)))
      · omega
    · rcases hk with hk | hk
      · exact neg k (.inr (.inr (.inr hk)))
      · omega
  · rcases hk with hk | hk
    · exact .inl (h.frg k hk)
    · exact .inr hk
  · exact up_apart lts ltp h.sp (Nat.le_refl _) (by omega) (Nat.le_refl _)
  · exact up_apart lts ltr h.sr (Nat.le_refl _) (by omega) (by omega)
  · exact up_apart lts ltw h.sw (Nat.le_refl _) (by omega) (by omega)
  · exact up_apart ltp ltr h.pr (by omega) (by omega) (by omega)
  · exact up_apart ltp ltw h.pw (by omega) (by omega) (by omega)
  · exact fun k h1 h2 => up_apart ltw ltr (fun k h1 h2 => h.rw_ k h2 h1) (by omega) (by omega) (by omega) k h2 h1
  · exact fun hk => by rcases hk with hk | hk; exact h.ns hk; omega
  · exact fun hk => by rcases hk with hk | hk; exact h.np hk; omega
  · exact fun hk => by rcases hk with hk | hk; exact h.nr hk; omega
  · exact fun hk => by rcases hk with hk | hk; exact h.nw hk; omega
  · rcases hk with hk | hk | hk | hk | hk
    · exact .inl (.inl hk)
    · rcases hk with hk | hk
      · exact .inl (.inr (.inl hk))
      · exact .inr ⟨hk.1, by omega⟩
    · rcases hk with hk | hk
      · exact .inl (.inr (.inr (.inl hk)))
      · exact .inr ⟨by omega, by omega⟩
    · rcases hk with hk | hk
      · exact .inl (.inr (.inr (.inr (.inl hk))))
      · exact .inr ⟨by omega, by omega⟩
    · rcases hk with hk | hk
      · exact .inl (.inr (.inr (.inr (.inr hk))))
      · exact .inr ⟨by omega, by omega⟩
  · rcases hk with hk | hk | hk | hk
    · exact .inl (.inl hk)
    · rcases hk with hk | hk
      · exact .inl (.inr (.inl hk))
      · exact .inr ⟨hk.1, by omega⟩
    · rcases hk with hk | hk
      · exact .inl (.inr (.inr (.inl hk)))
      · exact .inr ⟨by omega, by omega⟩
    · rcases hk with hk | hk
      · exact .inl (.inr (.inr (.inr hk)))
      · exact .inr ⟨by omega, by omega⟩
  · -- another one
    obtain ⟨t1, a1, a2⟩ := kin1 _ _ _ _ _ _ h0.st r.fs r.as_ r.as'
    have q1 : LnC w1 S'.Fp S'.Gp d'.D d'.mp d'.Mp d'.hp := h0.ln.keep z1 fun k hk => P0 k (by rw [← r.gp]; exact hk)
    obtain ⟨q2, a3, a4⟩ := LnC.other g2.kin g2.ch bx1 q1 r.fp r.ap r.ap'
    have lt0 := h0.lt
    have gl' := lt0 g' (.inl rfl)
    have lf1 : ∀ k, S'.Fs k → k < w.heap.size := fun k hk => lt0 k (h0.wra k (.inr (.inl hk)))
    have lf2 : ∀ k, S'.Fp k → k < w.heap.size := fun k hk => lt0 k (h0.wra k (.inr (.inr (.inl hk))))
    have lf3 : ∀ k, S'.Fr k → k < w.heap.size := fun k hk => lt0 k (h0.wra k (.inr (.inr (.inr hk))))
    have n1 : ¬ S.Gs g' := by rw [← r.gs]; exact h0.ns
    have n2 : ¬ S.Gp g' := by rw [← r.gp]; exact h0.np
    have n3 : ¬ S.Gr g' := by rw [← r.gr]; exact h0.nr
    have n4 : ¬ S.W g' := by rw [← r.gw]; exact h0.nw
    have eqb : (w5.setCell ⟨g, 0, none⟩ (valX h')).heap[g']? = w.heap[g']? := CH.block g' gl' fun hf => by
      rcases hf with hf | hf | hf | hf
      · exact hne hf
      · exact n1 (h.st.fG _ hf)
      · exact n2 (h.ln.fG _ hf)
      · exact n3 (h.frg _ hf)
    have ow4 : OldR w4 S'.Fr S.Gr S.W d'.old (recF es') := by
      have := h0.rl
      rw [r.gr, r.gw] at this
      exact this.kept (fun k hk => R4 k (.inl hk)) (fun k hk => R4 k (.inr hk))
    have ow6 : OldR (w5.setCell ⟨g, 0, none⟩ (valX h')) S'.Fr S.Gr S.W d'.old (recF es') := by
      rcases ow4 with ⟨hx, ex, rl⟩ | o
      · refine .inl ⟨hx, ex, RlR.kept (w := w5) ?_ (K6 _ (neg _ (.inr (.inr (.inl rl.gb))))) fun k hk => K6 k (neg k (.inr (.inr (.inr hk))))⟩
        rcases rp.how with ⟨ho, cur, cs, e1, e2, _, _, e5, e6, _, rfl⟩ | ⟨hb, _⟩
        · refine rl.put cs e5 e6 fun eb => ?_
          have := r.ar ho hx e1 ex e2 eb.symm
          omega
        · exact rl.kept (hb.block _ rl.blt) fun k hk => hb.block k (by have := ltw k hk; omega)
      · exact .inr o
    have lrd : ∀ hx, d'.old = some hx → hx.b < w4.heap.size ∧ (hx.n < hx.c → S'.Fr hx.b) := fun hx ex => by
      rcases ow4 with ⟨h2, e2, rl⟩ | ⟨e2, _⟩
      · rw [ex] at e2
        injection e2 with e2
        subst e2
        exact ⟨rl.blt, rl.own⟩
      · rw [ex] at e2
        cases e2
    refine ⟨⟨h0.bx.at_ eqb, (t1.keep (by omega) fun k hk => T1 k (.inl (by rw [← r.gs]; exact hk))).wide (fun _ hk => hk) (fun k hk => .inl (by rw [← r.gs]; exact hk)) (fun k hk => .inl (by rw [← r.gs]; exact h0.st.fG k hk)) (fun k hk => by have := up_lt lts z1 hk; omega),
      (q2.keep (by omega) fun k hk => T2 k (.inl (by rw [← r.gp]; exact hk))).wide (fun _ hk => hk) (fun k hk => .inl (by rw [← r.gp]; exact hk)) (fun k hk => .inl (by rw [← r.gp]; exact h0.ln.fG k hk)) (fun k hk => by rcases hk with hk | hk; (have := ltp k hk; omega); (have := hk.2; omega)), h0.dof,
      ow6.wide (fun _ hk => hk) (fun _ hk => .inl hk) (fun _ hk => .inl hk), fun k hk => .inl (by rw [← r.gr]; exact h0.frg k hk), fun k hk => by have := gr1 k hk; omega, fun k hk => by have := gw1 k hk; omega, ?_, ?_, ?_, ?_, ?_, ?_, ?_, ?_, ?_, ?_⟩,
      ⟨rfl, rfl, rfl, rfl, fun k hk hf => ?_, fun k hk hf => ?_, fun k hk hf => ?_, a1, a2, a3, a4, fun x x' e1 e2 hsp eb => ?_, fun x' x e2 e1 hsp eb => ?_⟩⟩
    · exact up_apart lts ltp h.sp (Nat.le_refl _) (by omega) (Nat.le_refl _)
    · exact up_apart lts ltr h.sr (Nat.le_refl _) (by omega) (by omega)
    · exact up_apart lts ltw h.sw (Nat.le_refl _) (by omega) (by omega)
    · exact up_apart ltp ltr h.pr (by omega) (by omega) (by omega)
    · exact up_apart ltp ltw h.pw (by omega) (by omega) (by omega)
    · exact fun k h1 h2 => up_apart ltw ltr (fun k h1 h2 => h.rw_ k h2 h1) (by omega) (by omega) (by omega) k h2 h1
    · exact fun hk => by rcases hk with hk | hk; exact n1 hk; omega
    · exact fun hk => by rcases hk with hk | hk; exact n2 hk; omega
    · exact fun hk => by rcases hk with hk | hk; exact n3 hk; omega
    · exact fun hk => by rcases hk with hk | hk; exact n4 hk; omega
    · rcases hk with hk | hk
      · exact r.fs k hk hf
      · have := lf1 k hf; omega
    · rcases hk with hk | hk
      · exact r.fp k hk hf
      · have := lf2 k hf; omega
    · rcases hk with hk | hk
      · exact r.fr k hk hf
      · have := lf3 k hf; omega
    · injection e1 with e1
      subst e1
      have hl := lrd x' e2
      rcases rp.how with ⟨ho, cur, cs, e3, e4, _, _, _, _, e7, _⟩ | ⟨_, hb⟩
      · rw [e7] at eb ⊢
        have := r.ar ho x' e3 e2 e4 eb
        simp only
        omega
      · omega
    · injection e1 with e1
      subst e1
      have hl := lrd x' e2
      rcases rp.how with ⟨ho, cur, cs, e3, e4, e5, _, _, _, e7, _⟩ | ⟨_, hb⟩
      · rw [e7] at eb
        exact absurd (hl.2 hsp) (by rw [← eb]; exact r.fr _ e5)
      · omega
end

end Go.Proofs.YtiplfhmimpkplaaGreat.IxWalk

/-
  Contracts of the landed index: add, which appends one event.
-/
namespace Go.Proofs.YtiplfhmimpkplaaGreat.IxWalk
open Go.RowKit Go.Maps Go.Proofs.YtiplfhmimpkplaaGreat.MemRow Go.Proofs.YtiplfhmimpkplaaGreat.Ev Go.Proofs.YtiplfhmimpkplaaGreat.NameMath Go.Proofs.YtiplfhmimpkplaaGreat.NameWalk Go.Proofs.YtiplfhmimpkplaaGreat.EvWalk Go.Proofs.YtiplfhmimpkplaaGreat.NumMem Go.Proofs.YtiplfhmimpkplaaGreat.Qu Go.Proofs.YtiplfhmimpkplaaGreat.QuWalk Go.Proofs.YtiplfhmimpkplaaGreat.BtWalk Go.Proofs.YtiplfhmimpkplaaGreat.DkWalk Go.Proofs.YtiplfhmimpkplaaGreat.InWalk Go.Proofs.YtiplfhmimpkplaaGreat.HeldAt
open Go.Proofs.YtiplfhmimpkplaaGreat.SmWalk (Tb seqT TOk addF lastP seq_last)
open Go.Proofs.YtiplfhmimpkplaaGreat.PnWalk (Dt DOf HdT KinC LnC GrewC mapAt LBx find14_any add14p_any clone14p_any)

set_option maxRecDepth 100000 in
theorem app_ready {wd w3 : World} {F G W : Nat → Prop} {old : Option Hx} {rs : List Rc} {r : Rc} {T3 Y3 : Option Addr} {n3 c3 m3 d3 : Nat} (ho : OldR wd F G W old rs) (hG : ∀ k, G k → k < wd.heap.size) (hW : ∀ k, W k → k < wd.heap.size) (b3 : Below wd.heap.size wd w3) (oT : OwnC 1 w3 wd.heap.size 9 T3 n3 c3 (MemRow.strs r.e.tags)) (oY : OwnC 2 w3 wd.heap.size 85 Y3 m3 d3 (flds r.e.fs)) :
    OldR (w3.alloc (.cells (rcV r T3 n3 c3 Y3 m3 d3).toArray 51)) F G (up W wd w3) old rs ∧
    (∀ j v, (rcV r T3 n3 c3 Y3 m3 d3)[j]? = some v → (w3.alloc (.cells (rcV r T3 n3 c3 Y3 m3 d3).toArray 51)).cell? ((⟨w3.heap.size, 0, none⟩ : Addr).add j) = some v) ∧
    RdS (w3.alloc (.cells (rcV r T3 n3 c3 Y3 m3 d3).toArray 51)) T3 n3 c3 r.e.tags ∧ RdF (w3.alloc (.cells (rcV r T3 n3 c3 Y3 m3 d3).toArray 51)) Y3 m3 d3 r.e.fs ∧
    Wr (w3.alloc (.cells (rcV r T3 n3 c3 Y3 m3 d3).toArray 51)) (up W wd w3) T3 n3 1 9 ∧ Wr (w3.alloc (.cells (rcV r T3 n3 c3 Y3 m3 d3).toArray 51)) (up W wd w3) Y3 m3 2 85 ∧
    (∀ k, up W wd w3 k → k < (w3.alloc (.cells (rcV r T3 n3 c3 Y3 m3 d3).toArray 51)).heap.size) := by
  have al : Below w3.heap.size w3 (w3.alloc (.cells (rcV r T3 n3 c3 Y3 m3 d3).toArray 51)) := (Below.refl _ _).alloc (Nat.le_refl _) _
  have b4 := below_chain b3 al
  have z3 := b3.size
  have z4 := al.size
  have hWk : ∀ k, up W wd w3 k → k < w3.heap.size := fun k hk => up_lt hW z3 hk
  refine ⟨(ho.kept (fun k hk => b4.block k (hG k hk)) (fun k hk => b4.block k (hW k hk))).wide (fun _ h => h) (fun _ h => h) (fun _ h => .inl h), fun j v hj => ?_, RdC.below (OwnC.rd oT) al, RdC.below (OwnC.rd oY) al,
    wr_ownX (OwnC.below oT al) fun a ha => .inr (OwnC.lt oT a ha), wr_ownX (OwnC.below oY al) fun a ha => .inr (OwnC.lt oY a ha), fun k hk => Nat.lt_of_lt_of_le (hWk k hk) z4⟩
  rw [add_plain, Nat.zero_add, cell_of_row _ w3.heap.size j _ _ _ (heap_alloc_new w3 _)]
  simpa using hj

set_option maxRecDepth 100000 in
theorem step_rapp {w : World} {F G W : Nat → Prop} {old : Option Hx} {rs : List Rc} {r : Rc} {T Y : Option Addr} {nT cT nY cY : Nat} {ops : Array Oper} {o : Oper} {ac : Act} {K : Act → World → Prop} {Q : Exit → Act → World → Prop} {E : Prop} (hw : Region.wanted o (yielded ops ac.tmps) = true) (s x : Operand)
    (ho : o.op = .call { callee := .builtin .append, args := #[s, x], argTypes := #[32, 32] })
    {sv : Value} (hs : ac.eval s = sv) (hsv : sv = mkX old) {a : Addr} {c : Nat} (hx : ac.eval x = .slice (some a) 1 c) (hold : OldR w F G W old rs) (hlen : rs.length ≤ 1000000) (hl : ∀ j v, (rcV r T nT cT Y nY cY)[j]? = some v → w.cell? (a.add j) = some v)
    (h6 : RdS w T nT cT r.e.tags) (h7 : RdF w Y nY cY r.e.fs) (h8 : Wr w W T nT 1 9) (h9 : Wr w W Y nY 2 85) (hWlt : ∀ k, W k → k < w.heap.size)
    (h : ∀ h' w', RapOut w w' F G W old rs r h' → K (ac.put o.dst (.slice (some ⟨h'.b, 0, none⟩) h'.n h'.c)) w') : if Region.wanted o (yielded ops ac.tmps) = true then Oper.wp Tryz.prog o ac w K Q else E := by
  rw [if_pos hw]
  obtain ⟨h', w', hrun, out⟩ := rapp_any hold hlen hl h6 h7 h8 h9 hWlt o.type
  unfold Oper.wp execOp
  simp only [ho, resolve, invoke, builtin, Sem.run_bind, Sem.run_pure, Result.andThen_ok, List.map_toArray, List.map_cons, List.map_nil, hs, hsv, hx]
  rw [hrun]
  exact h h' w' out
set_option maxRecDepth 100000 in
/-- Ahead of the store: the cell of the index, and what stands in a box. -/
theorem add_store {w4 w6 w7 : World} {F G W : Nat → Prop} {old : Option Hx} {rs : List Rc} {r : Rc} {h7 : Hx} {g b : Nat} {m lp a t y : Value} {cs : Array Value} (bx : XBx w4 g (mkX old) m lp a t y) (hb : w4.heap[b]? = some (.cells cs 42 (0, 0))) (b6 : Below w4.heap.size w4 w6) (rp : RapOut w6 w7 F G W old rs r h7) (nb : ¬ F b) (ng : ¬ F g) :
    w7.cell? ⟨g, 0, none⟩ = some (mkX old) ∧ w7.frozen? ⟨g, 0, none⟩ = false ∧ (∀ j v, cs[j]? = some v → w7.cell? ⟨b, j, none⟩ = some v) := by
  have x6 := bx.below b6
  have x7 : XBx w7 g (mkX old) m lp a t y := x6.at_ (rp.ch.block g x6.lt ng)
  have hb6 := (b6.block b (Array.getElem?_eq_some_iff.1 hb).1).trans hb
  have hb7 := (rp.ch.block b (Array.getElem?_eq_some_iff.1 hb6).1 nb).trans hb6
  exact ⟨x7.c0, x7.frozen 0, fun j v hj => by rw [cell_of_row w7 b j _ _ _ hb7]; exact hj⟩
section
variable {w w1 w2 : World} {g : Nat} {S : Sets} {d : Dat} {es : List Ev}
set_option maxRecDepth 100000 in
theorem IdR.ln1 (h : IdR w g S d es) (c : Ch (fun k => S.Fs k ∨ k = g) w w1) : LnC w1 S.Fp S.Gp d.D d.mp d.Mp d.hp :=
  h.ln.keep c.size fun k hk => c.block k (h.ln.lt k hk) fun hf => by
    rcases hf with hf | rfl
    · exact h.sp k (h.st.fG k hf) hk
    · exact h.np hk
set_option maxRecDepth 100000 in
theorem IdR.rl2 (h : IdR w g S d es) (c1 : Ch (fun k => S.Fs k ∨ k = g) w w1) (c2 : Ch (fun k => S.Fp k ∨ k = g) w1 w2) : OldR w2 S.Fr S.Gr S.W d.old (recF es) := by
  have z1 := c1.size
  refine h.rl.kept (fun k hk => (c2.block k (by have := h.ltr k hk; omega) fun hf => ?_).trans (c1.block k (h.ltr k hk) fun hf => ?_)) (fun k hk => (c2.block k (by have := h.ltw k hk; omega) fun hf => ?_).trans (c1.block k (h.ltw k hk) fun hf => ?_))
  all_goals rcases hf with hf | rfl
  · exact h.pr k (h.ln.fG k hf) hk
  · exact h.nr hk
  · exact h.sr k (h.st.fG k hf) hk
  · exact h.nr hk
  · exact h.pw k (h.ln.fG k hf) hk
  · exact h.nw hk
  · exact h.sw k (h.st.fG k hf) hk
  · exact h.nw hk
end
section
variable {w : World} {g : Nat} {S : Sets} {d : Dat} {es : List Ev}
set_option maxHeartbeats 8000000 in
set_option maxRecDepth 100000 in
theorem add1_any (h : IdR w g S d es) (hes : es.length < 400) (hsz : ∀ x ∈ es, x.s.size ≤ maxLen) {e : Ev} {T Y : Option Addr} {nT cT nY cY : Nat} (hev : ∀ w', Ch (S.wr g) w w' → RdS w' T nT cT e.tags ∧ RdF w' Y nY cY e.fs) (hok : EvOk e) (ht : e.tags.length ≤ 100) (hf : e.fs.length ≤ 100) :
    Calls Tryz.prog 17 #[.pointer (some ⟨g, 0, none⟩), .agg #[.string e.s, .string e.t, .slice T nT cT, .slice Y nY cY]] w fun r w' => r = .returned (.tuple #[]) ∧ ∃ S1 d1, Step w w' g S d es S1 d1 (es ++ [e]) := by
  have b1 : Below w.heap.size w (w.alloc (.cells #[.string e.s, .string e.t, .slice T nT cT, .slice Y nY cY] 42)) := (Below.refl _ _).alloc (Nat.le_refl _) _
  have x1 := heap_alloc_new w (.cells #[.string e.s, .string e.t, .slice T nT cT, .slice Y nY cY] 42)
  have hnT : nT ≤ 1000000 := by have := (hev w (Ch.refl _ _)).1.len; omega
  have hnY : nY ≤ 1000000 := by have := RdF.len (hev w (Ch.refl _ _)).2; omega
  have h1 := h.below b1
  have H := Go.Lib.hid h
  have HEV := Go.Lib.hid hev
  have HOK := Go.Lib.hid hok
  have HSZ := Go.Lib.hid hsz
  have LST := Go.Lib.hid (last14_any h1.bx h1.rl)
  have n1 : IntKind.i64.wrap ((es.length : Int) + 1) = (es.length : Int) + 1 := IntWalk.i64_in _ (by omega)
  clear h hev hok hsz
  go_enter Tryz.func17, Tryz.ntmps17
  go_upto_region 1 with (fail)
  generalize w.alloc (.cells #[.string e.s, .string e.t, .slice T nT cT, .slice Y nY cY] 42) = w1 at *
  have H1 := Go.Lib.hid h1
  have B1 := Go.Lib.hid b1
  have X1 := Go.Lib.hid x1
  clear h1 b1 x1
  go_upto_region 2 with (first | (go_at_call 8; refine (LST.out).mono ?_; rintro r w2 ⟨rfl, rfl⟩))
  have k0 : w2.cell? ⟨w.heap.size, 0, none⟩ = some (.string e.s) := by rw [cell_of_row w2 _ 0 _ _ _ X1.out]; rfl
  have CS := Go.Lib.hid (fun W (b : Below w2.heap.size w2 W) => add14s_any ((H1.out.below b).last) (H1.out.below b).st (tab_ok (by omega) HSZ.out) (by rw [SmWalk.seq_len, List.length_map]; exact hes) HOK.out.s (p := (es.length : Int) + 1) (by omega))
  rw [tab_add es e] at CS
  have bd : Below w2.heap.size w2 w2.drew := ⟨rfl, rfl, rfl, Nat.le_refl _, fun _ _ => rfl⟩
  have BD := Go.Lib.hid bd
  have hglt := H1.out.bx.lt
  have hgw : w.heap.size ≠ g := by have := H.out.bx.lt; omega
  have hbs : ∀ k, (S.wr g) k → k < w.heap.size := fun k hk => H.out.lt k (H.out.wra k hk)
  have HBS := Go.Lib.hid hbs
  have KEEP0 := Go.Lib.hid (fun (w3 : World) (c : Ch (fun k => S.Fs k ∨ k = g) w2.drew w3) => show w3.cell? ⟨w.heap.size, 0, none⟩ = some (.string e.s) from (World.cell?_of_block (w := w2) (a := ⟨w.heap.size, 0, none⟩) (c.block w.heap.size (Array.getElem?_eq_some_iff.1 X1.out).1 (fun hf => by rcases hf with hf | hf; (have := hbs _ (.inr (.inl hf)); omega); omega))).trans k0)
  clear LST bd hbs
  generalize hn : es.length = n at *
  have HN := Go.Lib.hid hn
  generalize hcv : SmWalk.cnt (strs es) e.s = cv at *
  have HCV := Go.Lib.hid hcv
  clear hn hcv
  refine wp_region_held_drew (S := (fun w' => w'.cell? ⟨w.heap.size, 0, none⟩ = some (.string e.s))) (by kernel_rfl) ?_ (fun hHeld => ?_)
  · exact k0
  refine take_at (i := 0) (d := 11) (v := ?_) rfl rfl (by kernel_rfl) (by kernel_rfl) (by kernel_rfl) (fun _ _ _ h => h) (Or.inl ⟨by rfl, ?hy⟩) (by assumption) ?_
  case hy => (intro wS hSw; (try dsimp only at hSw); first | (go_simp; done) | (go_simp; with_reducible rfl))
  simp only [Act.put, List.setIfInBounds_toArray, List.set_cons_zero, List.set_cons_succ]
  refine take_at (i := 1) (d := 12) (v := ?_) rfl rfl (by kernel_rfl) (by kernel_rfl) (by kernel_rfl) (fun _ _ _ h => h) (Or.inl ⟨by rfl, ?hy⟩) (by assumption) ?_
  case hy => (intro wS hSw; (try dsimp only at hSw); first | (go_simp; done) | (go_simp; with_reducible rfl))
  simp only [Act.put, List.setIfInBounds_toArray, List.set_cons_zero, List.set_cons_succ]
  refine take_at (i := 2) (d := 13) (v := ?_) rfl rfl (by kernel_rfl) (by kernel_rfl) (by kernel_rfl) (fun _ _ _ h => h) (Or.inl ⟨by rfl, ?hy⟩) (by assumption) ?_
  case hy => (intro wS hSw; (try dsimp only at hSw); first | (go_simp; done) | (go_simp; with_reducible rfl))
  simp only [Act.put, List.setIfInBounds_toArray, List.set_cons_zero, List.set_cons_succ]
  refine take_at (i := 3) (d := 14) (v := ?_) rfl rfl (by kernel_rfl) (by kernel_rfl) (by kernel_rfl) (fun _ _ _ h => h) (Or.inl ⟨by rfl, ?hy⟩) (by assumption) ?_
  case hy => (intro wS hSw; (try dsimp only at hSw); first | (go_simp; done) | (go_simp; with_reducible rfl))
  simp only [Act.put, List.setIfInBounds_toArray, List.set_cons_zero, List.set_cons_succ]
  refine take_at (i := 4) (d := 15) (v := ?_) rfl rfl (by kernel_rfl) (by kernel_rfl) (by kernel_rfl) (fun _ _ _ h => h) (Or.inl ⟨by rfl, ?hy⟩) (by assumption) ?_
  case hy => (intro wS hSw; (try dsimp only at hSw); first | (go_simp; done) | (go_simp; with_reducible rfl))
  simp only [Act.put, List.setIfInBounds_toArray, List.set_cons_zero, List.set_cons_succ]
  refine take_at (i := 5) (d := 16) (v := ?_) rfl rfl (by kernel_rfl) (by kernel_rfl) (by kernel_rfl) (fun _ _ _ h => h) (Or.inl ⟨by rfl, ?hy⟩) (by assumption) ?_
  case hy => (intro wS hSw; (try dsimp only at hSw); first | (go_simp; done) | (go_simp; with_reducible rfl))
  simp only [Act.put, List.setIfInBounds_toArray, List.set_cons_zero, List.set_cons_succ]
  refine wpAnyH_ready (rs := [6]) (by kernel_rfl) (by simp) ?_
  refine AllReadyH.cons rfl (fun K6 hK6 => ?_) AllReadyH.nil
  go_simp
  go_wp2_with (go_at_call 34; refine (CS.out _ BD.out).mono ?_; rintro r w3 ⟨rfl, mb1, M1, hd1, hx3, st3, ch3, kin3⟩; have q0 : w3.cell? ⟨w.heap.size, 0, none⟩ = some (.string e.s) := KEEP0.out w3 ch3; have HX3 := Go.Lib.hid (And.intro hx3 (And.intro st3 (And.intro ch3 kin3))); clear hx3 st3 ch3 kin3)
  refine hK6.out _ _ ?_ (fun hH6 => ?_)
  · exact q0
  clear hK6 K6 hHeld
  refine take_at (i := 7) (d := 10) (v := ?_) rfl rfl (by kernel_rfl) (by kernel_rfl) (by kernel_rfl) (fun _ _ _ h => h) (Or.inl ⟨by rfl, ?hy⟩) (by assumption) ?_
  case hy => (intro wS hSw; (try dsimp only at hSw); first | (go_simp; done) | (go_simp; with_reducible rfl))
  simp only [Act.put, List.setIfInBounds_toArray, List.set_cons_zero, List.set_cons_succ]
  refine take_at (i := 8) (d := 18) (v := ?_) rfl rfl (by kernel_rfl) (by kernel_rfl) (by kernel_rfl) (fun _ _ _ h => h) (Or.inl ⟨by rfl, ?hy⟩) (by assumption) ?_
  case hy => (intro wS hSw; (try dsimp only at hSw); first | (go_simp; done) | (go_simp; with_reducible rfl))
  simp only [Act.put, List.setIfInBounds_toArray, List.set_cons_zero, List.set_cons_succ]
  refine take_at (i := 9) (d := 19) (v := ?_) rfl rfl (by kernel_rfl) (by kernel_rfl) (by kernel_rfl) (fun _ _ _ h => h) (Or.inl ⟨by rfl, ?hy⟩) (by assumption) ?_
  case hy => (intro wS hSw; (try dsimp only at hSw); first | (go_simp; done) | (go_simp; with_reducible rfl))
  simp only [Act.put, List.setIfInBounds_toArray, List.set_cons_zero, List.set_cons_succ]
  refine take_at (i := 10) (d := 5) (v := ?_) rfl rfl (by kernel_rfl) (by kernel_rfl) (by kernel_rfl) (fun _ _ _ h => h) (Or.inl ⟨by rfl, ?hy⟩) (by assumption) ?_
  case hy => (intro wS hSw; (try dsimp only at hSw); first | (go_simp; done) | (go_simp; with_reducible rfl))
  simp only [Act.put, List.setIfInBounds_toArray, List.set_cons_zero, List.set_cons_succ]
  refine take_at (i := 11) (d := 6) (v := ?_) rfl rfl (by kernel_rfl) (by kernel_rfl) (by kernel_rfl) (fun _ _ _ h => h) (Or.inl ⟨by rfl, ?hy⟩) (by assumption) ?_
  case hy => (intro wS hSw; (try dsimp only at hSw); first | (go_simp; done) | (go_simp; with_reducible rfl))
  simp only [Act.put, List.setIfInBounds_toArray, List.set_cons_zero, List.set_cons_succ]
  refine wpAnyH_done (by kernel_rfl) ?_ _
  go_upto_region 3 with (fail)
  clear KEEP0 CS k0 q0
  have H2 := Go.Lib.hid (H1.out.below BD.out)
  have C3 := Go.Lib.hid (show Ch (S.wr g) w w3 from (Ch.of_below (B1.out.trans (BD.out.mono B1.out.size))).trans (HX3.out.2.2.1.wide fun k hk => .inl (by rcases hk with hk | hk; exact .inr (.inl hk); exact .inl hk)))
  have XE := Go.Lib.hid (fun (w4 : World) (c : Ch (S.wr g) w w4) (hs : w2.heap.size ≤ w4.heap.size) (hk : w4.heap[w.heap.size]? = w2.heap[w.heap.size]?) => show w4.heap[w.heap.size]? = some (.cells #[.string e.s, .string e.t, .slice T nT cT, .slice Y nY cY] 42 (0, 0)) from hk.trans X1.out)
  have x3 : w3.heap[w.heap.size]? = some (.cells #[.string e.s, .string e.t, .slice T nT cT, .slice Y nY cY] 42 (0, 0)) := ((HX3.out.2.2.1.block w.heap.size (Array.getElem?_eq_some_iff.1 X1.out).1 (fun hf => by rcases hf with hf | hf; (have := HBS.out _ (.inr (.inl hf)); omega); omega))).trans X1.out
  clear XE
  have X3 := Go.Lib.hid x3
  have bd3 : Below w3.heap.size w3 w3.drew := ⟨rfl, rfl, rfl, Nat.le_refl _, fun _ _ => rfl⟩
  have BD3 := Go.Lib.hid bd3
  have k0 : w3.drew.cell? ⟨w.heap.size, 0, none⟩ = some (.string e.s) := by show w3.cell? _ = _; rw [cell_of_row w3 _ 0 _ _ _ x3]; rfl
  have k1 : w3.drew.cell? ⟨w.heap.size, 1, none⟩ = some (.string e.t) := by show w3.cell? _ = _; rw [cell_of_row w3 _ 1 _ _ _ x3]; rfl
  have k2 : w3.drew.cell? ⟨w.heap.size, 2, none⟩ = some (.slice T nT cT) := by show w3.cell? _ = _; rw [cell_of_row w3 _ 2 _ _ _ x3]; rfl
  have k3 : w3.drew.cell? ⟨w.heap.size, 3, none⟩ = some (.slice Y nY cY) := by show w3.cell? _ = _; rw [cell_of_row w3 _ 3 _ _ _ x3]; rfl
  have CP := Go.Lib.hid (add14p_any (w := w3.drew) (L := logL es) (ev := e) (T := T) (nT := nT) (cT := cT) (Y := Y) (nY := nY) (cY := cY) (p := (n : Int) + 1) (HX3.out.1.below bd3) ((H2.out.ln1 HX3.out.2.2.1).below bd3) H2.out.dof (logL_ok (by rw [HN.out]; omega)) (by rw [logL_len, HN.out]; omega)
    (fun w' c => (HEV.out w' (C3.out.trans ((Ch.of_below bd3).trans (c.wide fun k hk => .inl (.inl (by rcases hk with hk | hk; exact .inr (.inr (.inl hk)); exact .inl hk)))))).1) HOK.out ht (by omega))
  rw [← HN.out, logL_add es e, HN.out] at CP
  have KEEP3 := Go.Lib.hid (fun (w4 : World) (c : Ch (fun k => S.Fp k ∨ k = g) w3.drew w4) => show w4.heap[w.heap.size]? = some (.cells #[.string e.s, .string e.t, .slice T nT cT, .slice Y nY cY] 42 (0, 0)) from (c.block w.heap.size (Array.getElem?_eq_some_iff.1 x3).1 (fun hf => by rcases hf with hf | hf; (have := HBS.out _ (.inr (.inr (.inl hf))); omega); omega)).trans x3)
  clear bd3 x3
  refine wp_region_held_drew (S := (fun w' => w'.cell? ⟨w.heap.size, 0, none⟩ = some (.string e.s) ∧ w'.cell? ⟨w.heap.size, 1, none⟩ = some (.string e.t) ∧ w'.cell? ⟨w.heap.size, 2, none⟩ = some (.slice T nT cT) ∧ w'.cell? ⟨w.heap.size, 3, none⟩ = some (.slice Y nY cY))) (by kernel_rfl) ?_ (fun hHeld => ?_)
  · exact ⟨k0, k1, k2, k3⟩
  refine take_at (i := 0) (d := 20) (v := ?_) rfl rfl (by kernel_rfl) (by kernel_rfl) (by kernel_rfl) (fun _ _ _ h => h) (Or.inl ⟨by rfl, ?hy⟩) (by assumption) ?_
  case hy => (intro wS hSw; (try dsimp only at hSw); first | (go_simp; done) | (go_simp; with_reducible rfl))
  simp only [Act.put, List.setIfInBounds_toArray, List.set_cons_zero, List.set_cons_succ]
  refine take_at (i := 1) (d := 21) (v := ?_) rfl rfl (by kernel_rfl) (by kernel_rfl) (by kernel_rfl) (fun _ _ _ h => h) (Or.inl ⟨by rfl, ?hy⟩) (by assumption) ?_
  case hy => (intro wS hSw; (try dsimp only at hSw); first | (go_simp; done) | (go_simp; with_reducible rfl))
  simp only [Act.put, List.setIfInBounds_toArray, List.set_cons_zero, List.set_cons_succ]
  refine take_at (i := 2) (d := 22) (v := ?_) rfl rfl (by kernel_rfl) (by kernel_rfl) (by kernel_rfl) (fun _ _ _ h => h) (Or.inl ⟨by rfl, ?hy⟩) (by assumption) ?_
  case hy => (intro wS hSw; (try dsimp only at hSw); first | (go_simp; done) | (go_simp; with_reducible rfl))
  simp only [Act.put, List.setIfInBounds_toArray, List.set_cons_zero, List.set_cons_succ]
  refine take_at (i := 3) (d := 23) (v := ?_) rfl rfl (by kernel_rfl) (by kernel_rfl) (by kernel_rfl) (fun _ _ _ h => h) (Or.inl ⟨by rfl, ?hy⟩) (by assumption) ?_
  case hy => (intro wS hSw; (try dsimp only at hSw); first | (go_simp; done) | (go_simp; with_reducible rfl))
  simp only [Act.put, List.setIfInBounds_toArray, List.set_cons_zero, List.set_cons_succ]
  refine take_at (i := 4) (d := 24) (v := ?_) rfl rfl (by kernel_rfl) (by kernel_rfl) (by kernel_rfl) (fun _ _ _ h => h) (Or.inl ⟨by rfl, ?hy⟩) (by assumption) ?_
  case hy => (intro wS hSw; (try dsimp only at hSw); first | (go_simp; done) | (go_simp; with_reducible rfl))
  simp only [Act.put, List.setIfInBounds_toArray, List.set_cons_zero, List.set_cons_succ]
  refine wpAnyH_ready (rs := [5]) (by kernel_rfl) (by simp) ?_
  refine AllReadyH.cons rfl (fun K5 hK5 => ?_) AllReadyH.nil
  go_simp
  go_wp2_with (go_at_call 35; refine (CP.out).mono ?_; rintro r w4 ⟨rfl, D1, mp1, Mp1, hp1, gr4, dof4⟩; have x4 := KEEP3.out w4 gr4.ch; have y0 : w4.cell? ⟨w.heap.size, 0, none⟩ = some (.string e.s) := (by rw [cell_of_row w4 _ 0 _ _ _ x4]; rfl); have y1 : w4.cell? ⟨w.heap.size, 1, none⟩ = some (.string e.t) := (by rw [cell_of_row w4 _ 1 _ _ _ x4]; rfl); have y2 : w4.cell? ⟨w.heap.size, 2, none⟩ = some (.slice T nT cT) := (by rw [cell_of_row w4 _ 2 _ _ _ x4]; rfl); have y3 : w4.cell? ⟨w.heap.size, 3, none⟩ = some (.slice Y nY cY) := (by rw [cell_of_row w4 _ 3 _ _ _ x4]; rfl); have GR4 := Go.Lib.hid (And.intro gr4 dof4); have X4 := Go.Lib.hid x4; clear gr4 dof4 x4)
  refine hK5.out _ _ ?_ (fun hH5 => ?_)
  · exact ⟨y0, y1, y2, y3⟩
  clear hK5 K5 hHeld
  refine wpAnyH_done (by kernel_rfl) ?_ _
  go_upto_region 4 with (fail)
  clear CP KEEP3 k0 k1 k2 k3
  have bd4 : Below w4.heap.size w4 w4.drew := ⟨rfl, rfl, rfl, Nat.le_refl _, fun _ _ => rfl⟩
  have C4 := Go.Lib.hid (show Ch (S.wr g) w w4 from C3.out.trans ((Ch.of_below BD3.out).trans (GR4.out.1.ch.wide fun k hk => .inl (.inl (by rcases hk with hk | hk; exact .inr (.inr (.inl hk)); exact .inl hk)))))
  have ow4 : OldR w4 S.Fr S.Gr S.W d.old (recF es) := H2.out.rl2 HX3.out.2.2.1 ((Ch.of_below BD3.out).trans (GR4.out.1.ch.wide fun k hk => .inl hk))
  have hev4 := HEV.out w4 C4.out
  have cc := copyOf_any ⟨(n : Int) + 1, (cv : Int) + 1, e⟩ T Y nT cT nY cY w4.drew hev4.1 hev4.2 hnT hnY
  have CC := Go.Lib.hid (Calls.mono cc (R' := fun r5 w5 => ∃ T3 n3 c3 Y3 m3 d3, r5 = .returned (.agg #[.int .i64 ((n : Int) + 1), .int .i64 ((cv : Int) + 1), .string e.s, .string e.t, .slice T3 n3 c3, .slice Y3 m3 d3]) ∧ OwnC 1 w5 w4.heap.size 9 T3 n3 c3 (MemRow.strs e.tags) ∧ OwnC 2 w5 w4.heap.size 85 Y3 m3 d3 (flds e.fs) ∧ Below w4.heap.size w4 w5) (fun r5 w5 h5 => by
    obtain ⟨T3, n3, c3, Y3, m3, d3, e5, oT, oY, b5⟩ := h5
    exact ⟨T3, n3, c3, Y3, m3, d3, e5, oT, oY, bd4.trans b5⟩))
  have ltr4 : ∀ k, S.Gr k → k < w4.heap.size := fun k hk => by have := H.out.ltr k hk; have := C4.out.size; omega
  have ltw4 : ∀ k, S.W k → k < w4.heap.size := fun k hk => by have := H.out.ltw k hk; have := C4.out.size; omega
  have READY := Go.Lib.hid (fun (w5 : World) (T3 : Option Addr) (n3 c3 : Nat) (Y3 : Option Addr) (m3 d3 : Nat) (oT : OwnC 1 w5 w4.heap.size 9 T3 n3 c3 (MemRow.strs e.tags)) (oY : OwnC 2 w5 w4.heap.size 85 Y3 m3 d3 (flds e.fs)) (b5 : Below w4.heap.size w4 w5) => app_ready (r := ⟨(n : Int) + 1, (cv : Int) + 1, e⟩) ow4 ltr4 ltw4 b5 oT oY)
  have STORE := Go.Lib.hid (fun (w5 w6 w7 : World) (h7 : Hx) (b5 : Below w4.heap.size w4 w5) (b6 : Below w5.heap.size w5 w6) (rp : RapOut w6 w7 S.Fr S.Gr (up S.W w4 w5) d.old (recF es) ⟨(n : Int) + 1, (cv : Int) + 1, e⟩ h7) => add_store (cs := #[.string e.s, .string e.t, .slice T nT cT, .slice Y nY cY]) GR4.out.1.bx X4.out (below_chain b5 b6) rp (fun hf => by have := HBS.out _ (.inr (.inr (.inr hf))); omega) (fun hf => H.out.nr (H.out.frg _ hf)))
  have FIN := Go.Lib.hid (fun (w5 w6 w7 : World) (h7 : Hx) (b5 : Below w4.heap.size w4 w5) (b6 : Below w5.heap.size w5 w6) (rp : RapOut w6 w7 S.Fr S.Gr (up S.W w4 w5) d.old (recF es) ⟨(n : Int) + 1, (cv : Int) + 1, e⟩ h7) => show ∃ S1 d1, Step w (w7.setCell ⟨g, 0, none⟩ (valX h7)) g S d es S1 d1 (es ++ [e]) by
    have rp' : RapOut w6 w7 S.Fr S.Gr (up S.W w4 w5) d.old (recF es) ⟨(es.length : Int) + 1, (SmWalk.cnt (strs es) e.s : Int) + 1, e⟩ h7 := by rw [HN.out, HCV.out]; exact rp
    exact ⟨_, _, (Step.below H.out (B1.out.trans (BD.out.mono B1.out.size))).trans (Step.of H2.out HX3.out.1 HX3.out.2.1 HX3.out.2.2.1 HX3.out.2.2.2 (GrewC.from BD3.out (H2.out.ln1 HX3.out.2.2.1) GR4.out.1) GR4.out.2 b5 b6 rp')⟩)
  have kE : w4.cell? ⟨g, 0, none⟩ = some (mkX d.old) := XBx.c0 GR4.out.1.bx
  clear hev4 cc ow4 ltr4 ltw4 bd4
  refine wp_region_held_drew (S := (fun w' => w'.cell? ⟨w.heap.size, 0, none⟩ = some (.string e.s) ∧ w'.cell? ⟨w.heap.size, 1, none⟩ = some (.string e.t) ∧ w'.cell? ⟨w.heap.size, 2, none⟩ = some (.slice T nT cT) ∧ w'.cell? ⟨w.heap.size, 3, none⟩ = some (.slice Y nY cY))) (by kernel_rfl) ?_ (fun hHeld => ?_)
  · exact ⟨y0, y1, y2, y3⟩
  refine take_at (i := 0) (d := 26) (v := ?_) rfl rfl (by kernel_rfl) (by kernel_rfl) (by kernel_rfl) (fun _ _ _ h => h) (Or.inl ⟨by rfl, ?hy⟩) (by assumption) ?_
  case hy => (intro wS hSw; (try dsimp only at hSw); first | (go_simp; done) | (go_simp; with_reducible rfl))
  simp only [Act.put, List.setIfInBounds_toArray, List.set_cons_zero, List.set_cons_succ]
  refine take_at (i := 1) (d := 27) (v := ?_) rfl rfl (by kernel_rfl) (by kernel_rfl) (by kernel_rfl) (fun _ _ _ h => h) (Or.inl ⟨by rfl, ?hy⟩) (by assumption) ?_
  case hy => (intro wS hSw; (try dsimp only at hSw); first | (go_simp; done) | (go_simp; with_reducible rfl))
  simp only [Act.put, List.setIfInBounds_toArray, List.set_cons_zero, List.set_cons_succ]
  refine take_at (i := 2) (d := 28) (v := ?_) rfl rfl (by kernel_rfl) (by kernel_rfl) (by kernel_rfl) (fun _ _ _ h => h) (Or.inl ⟨by rfl, ?hy⟩) (by assumption) ?_
  case hy => (intro wS hSw; (try dsimp only at hSw); first | (go_simp; done) | (go_simp; with_reducible rfl))
  simp only [Act.put, List.setIfInBounds_toArray, List.set_cons_zero, List.set_cons_succ]
  refine take_at (i := 3) (d := 29) (v := ?_) rfl rfl (by kernel_rfl) (by kernel_rfl) (by kernel_rfl) (fun _ _ _ h => h) (Or.inl ⟨by rfl, ?hy⟩) (by assumption) ?_
  case hy => (intro wS hSw; (try dsimp only at hSw); first | (go_simp; done) | (go_simp; with_reducible rfl))
  simp only [Act.put, List.setIfInBounds_toArray, List.set_cons_zero, List.set_cons_succ]
  refine take_at (i := 5) (d := 31) (v := ?_) rfl rfl (by kernel_rfl) (by kernel_rfl) (by kernel_rfl) (fun _ _ _ h => h) (Or.inl ⟨by rfl, ?hy⟩) (by assumption) ?_
  case hy => (intro wS hSw; (try dsimp only at hSw); first | (go_simp; done) | (go_simp; with_reducible rfl))
  simp only [Act.put, List.setIfInBounds_toArray, List.set_cons_zero, List.set_cons_succ]
  refine take_at (i := 6) (d := 32) (v := ?_) rfl rfl (by kernel_rfl) (by kernel_rfl) (by kernel_rfl) (fun _ _ _ h => h) (Or.inl ⟨by rfl, ?hy⟩) (by assumption) ?_
  case hy => (intro wS hSw; (try dsimp only at hSw); first | (go_simp; done) | (go_simp; with_reducible rfl))
  simp only [Act.put, List.setIfInBounds_toArray, List.set_cons_zero, List.set_cons_succ]
  refine take_at (i := 7) (d := 33) (v := ?_) rfl rfl (by kernel_rfl) (by kernel_rfl) (by kernel_rfl) (fun _ _ _ h => h) (Or.inl ⟨by rfl, ?hy⟩) (by assumption) ?_
  case hy => (intro wS hSw; (try dsimp only at hSw); first | (go_simp; done) | (go_simp; with_reducible rfl))
  simp only [Act.put, List.setIfInBounds_toArray, List.set_cons_zero, List.set_cons_succ]
  refine take_at (i := 8) (d := 34) (v := ?_) rfl rfl (by kernel_rfl) (by kernel_rfl) (by kernel_rfl) (fun _ _ _ h => h) (Or.inl ⟨by rfl, ?hy⟩) (by assumption) ?_
  case hy => (intro wS hSw; (try dsimp only at hSw); first | (go_simp; done) | (go_simp; with_reducible rfl))
  simp only [Act.put, List.setIfInBounds_toArray, List.set_cons_zero, List.set_cons_succ]
  -- THE WAYS
  refine wpAnyH_ready (rs := [4, 9]) (by kernel_rfl) (by simp) ?_
  refine AllReadyH.cons rfl (fun K0 hK0 => ?_) ?_
  · skip
    have kl := kE
    go_simp
    refine hK0.out _ _ ?_ (fun hH0 => ?_)
    · exact ⟨y0, y1, y2, y3⟩
    clear hK0 K0
    refine wpAnyH_ready (rs := [9]) (by kernel_rfl) (by simp) ?_
    refine AllReadyH.cons rfl (fun K1 hK1 => ?_) AllReadyH.nil
    go_simp
    go_wp2_with (first | (go_at_call 36; refine (CC.out).mono ?_; rintro r5 w5 ⟨T3, n3, c3, Y3, m3, d3, rfl, oT, oY, b5⟩))
    have yc0 := bcell b5 y0
    have yc1 := bcell b5 y1
    have yc2 := bcell b5 y2
    have yc3 := bcell b5 y3
    refine hK1.out _ _ ?_ (fun hH1 => ?_)
    · exact ⟨yc0, yc1, yc2, yc3⟩
    clear hK1 K1
    refine wpAnyH_ready (rs := [10]) (by kernel_rfl) (by simp) ?_
    refine AllReadyH.cons rfl (fun K2 hK2 => ?_) AllReadyH.nil
    have al := (Below.refl w5.heap.size w5).alloc (Nat.le_refl _) (.cells #[.int .i64 ((n : Int) + 1), .int .i64 ((cv : Int) + 1), .string e.s, .string e.t, .slice T3 n3 c3, .slice Y3 m3 d3] 51)
    have b6 := below_chain b5 al
    have rdy := READY.out w5 T3 n3 c3 Y3 m3 d3 oT oY b5
    have yd0 := bcell b6 y0
    have yd1 := bcell b6 y1
    have yd2 := bcell b6 y2
    have yd3 := bcell b6 y3
    go_simp
    refine hK2.out _ _ ?_ (fun hH2 => ?_)
    · exact ⟨yd0, yd1, yd2, yd3⟩
    clear hK2 K2
    refine wpAnyH_ready (rs := [11]) (by kernel_rfl) (by simp) ?_
    refine AllReadyH.cons rfl (fun K3 hK3 => ?_) AllReadyH.nil
    obtain ⟨q1, q2, q3, q4, q5, q6, q7⟩ := rdy
    refine step_rapp (by rfl) (.tmp 30) (.tmp 36) rfl rfl rfl rfl q1 (by rw [rec_len, HN.out]; omega) q2 q3 q4 q5 q6 q7 ?_
    intro h7 w7 rp
    obtain ⟨kx, fx, yes⟩ := STORE.out w5 _ w7 h7 b5 al rp
    have ye0 := yes 0 _ rfl
    have ye1 := yes 1 _ rfl
    have ye2 := yes 2 _ rfl
    have ye3 := yes 3 _ rfl
    clear yes
    (try go_simp)
    refine hK3.out _ _ ?_ (fun hH3 => ?_)
    · exact ⟨ye0, ye1, ye2, ye3⟩
    clear hK3 K3
    refine take_at (i := 12) (d := 38) (v := ?_) rfl rfl (by kernel_rfl) (by kernel_rfl) (by kernel_rfl) (fun _ _ _ h => h) (Or.inl ⟨by rfl, ?hy⟩) (by assumption) ?_
    case hy => (intro wS hSw; (try dsimp only at hSw); first | (go_simp; done) | (go_simp; with_reducible rfl))
    simp only [Act.put, List.setIfInBounds_toArray, List.set_cons_zero, List.set_cons_succ]
    refine take_at (i := 13) (d := 39) (v := ?_) rfl rfl (by kernel_rfl) (by kernel_rfl) (by kernel_rfl) (fun _ _ _ h => h) (Or.inl ⟨by rfl, ?hy⟩) (by assumption) ?_
    case hy => (intro wS hSw; (try dsimp only at hSw); first | (go_simp; done) | (go_simp; with_reducible rfl))
    simp only [Act.put, List.setIfInBounds_toArray, List.set_cons_zero, List.set_cons_succ]
    refine wpAnyH_ready (rs := [14]) (by kernel_rfl) (by simp) ?_
    refine AllReadyH.cons rfl (fun K4 hK4 => ?_) AllReadyH.nil
    go_simp
    refine hK4.out _ _ ?_ (fun hH4 => ?_)
    · exact ⟨(World.cell?_setCell_far _ _ _ _ hgw.symm).trans ye0, (World.cell?_setCell_far _ _ _ _ hgw.symm).trans ye1, (World.cell?_setCell_far _ _ _ _ hgw.symm).trans ye2, (World.cell?_setCell_far _ _ _ _ hgw.symm).trans ye3⟩
    clear hK4 K4
    refine wpAnyH_done (by kernel_rfl) ?_ _
    go_wp2_with fail
    go_end0
    exact ⟨rfl, FIN.out w5 _ w7 h7 b5 al rp⟩
  refine AllReadyH.cons rfl (fun K5 hK5 => ?_) AllReadyH.nil
  go_simp
  go_wp2_with (first | (go_at_call 36; refine (CC.out).mono ?_; rintro r5 w5 ⟨T3, n3, c3, Y3, m3, d3, rfl, oT, oY, b5⟩))
  have yc0 := bcell b5 y0
  have yc1 := bcell b5 y1
  have yc2 := bcell b5 y2
  have yc3 := bcell b5 y3
  refine hK5.out _ _ ?_ (fun hH5 => ?_)
  · exact ⟨yc0, yc1, yc2, yc3⟩
  clear hK5 K5
  refine wpAnyH_ready (rs := [4, 10]) (by kernel_rfl) (by simp) ?_
  refine AllReadyH.cons rfl (fun K6 hK6 => ?_) ?_
  · skip
    have kl := bcell b5 kE
    go_simp
    refine hK6.out _ _ ?_ (fun hH6 => ?_)
    · exact ⟨yc0, yc1, yc2, yc3⟩
    clear hK6 K6
    refine wpAnyH_ready (rs := [10]) (by kernel_rfl) (by simp) ?_
    refine AllReadyH.cons rfl (fun K7 hK7 => ?_) AllReadyH.nil
    have al := (Below.refl w5.heap.size w5).alloc (Nat.le_refl _) (.cells #[.int .i64 ((n : Int) + 1), .int .i64 ((cv : Int) + 1), .string e.s, .string e.t, .slice T3 n3 c3, .slice Y3 m3 d3] 51)
    have b6 := below_chain b5 al
    have rdy := READY.out w5 T3 n3 c3 Y3 m3 d3 oT oY b5
    have yd0 := bcell b6 y0
    have yd1 := bcell b6 y1
    have yd2 := bcell b6 y2
    have yd3 := bcell b6 y3
    go_simp
    refine hK7.out _ _ ?_ (fun hH7 => ?_)
    · exact ⟨yd0, yd1, yd2, yd3⟩
    clear hK7 K7
    refine wpAnyH_ready (rs := [11]) (by kernel_rfl) (by simp) ?_
    refine AllReadyH.cons rfl (fun K8 hK8 => ?_) AllReadyH.nil
    obtain ⟨q1, q2, q3, q4, q5, q6, q7⟩ := rdy
    refine step_rapp (by rfl) (.tmp 30) (.tmp 36) rfl rfl rfl rfl q1 (by rw [rec_len, HN.out]; omega) q2 q3 q4 q5 q6 q7 ?_
    intro h7 w7 rp
    obtain ⟨kx, fx, yes⟩ := STORE.out w5 _ w7 h7 b5 al rp
    have ye0 := yes 0 _ rfl
    have ye1 := yes 1 _ rfl
    have ye2 := yes 2 _ rfl
    have ye3 := yes 3 _ rfl
    clear yes
    (try go_simp)
    refine hK8.out _ _ ?_ (fun hH8 => ?_)
    · exact ⟨ye0, ye1, ye2, ye3⟩
    clear hK8 K8
    refine take_at (i := 12) (d := 38) (v := ?_) rfl rfl (by kernel_rfl) (by kernel_rfl) (by kernel_rfl) (fun _ _ _ h => h) (Or.inl ⟨by rfl, ?hy⟩) (by assumption) ?_
    case hy => (intro wS hSw; (try dsimp only at hSw); first | (go_simp; done) | (go_simp; with_reducible rfl))
    simp only [Act.put, List.setIfInBounds_toArray, List.set_cons_zero, List.set_cons_succ]
    refine take_at (i := 13) (d := 39) (v := ?_) rfl rfl (by kernel_rfl) (by kernel_rfl) (by kernel_rfl) (fun _ _ _ h => h) (Or.inl ⟨by rfl, ?hy⟩) (by assumption) ?_
    case hy => (intro wS hSw; (try dsimp only at hSw); first | (go_simp; done) | (go_simp; with_reducible rfl))
    simp only [Act.put, List.setIfInBounds_toArray, List.set_cons_zero, List.set_cons_succ]
    refine wpAnyH_ready (rs := [14]) (by kernel_rfl) (by simp) ?_
    refine AllReadyH.cons rfl (fun K9 hK9 => ?_) AllReadyH.nil
    go_simp
    refine hK9.out _ _ ?_ (fun hH9 => ?_)
    · exact ⟨(World.cell?_setCell_far _ _ _ _ hgw.symm).trans ye0, (World.cell?_setCell_far _ _ _ _ hgw.symm).trans ye1, (World.cell?_setCell_far _ _ _ _ hgw.symm).trans ye2, (World.cell?_setCell_far _ _ _ _ hgw.symm).trans ye3⟩
    clear hK9 K9
    refine wpAnyH_done (by kernel_rfl) ?_ _
    go_wp2_with fail
    go_end0
    exact ⟨rfl, FIN.out w5 _ w7 h7 b5 al rp⟩
  refine AllReadyH.cons rfl (fun K10 hK10 => ?_) AllReadyH.nil
  have al := (Below.refl w5.heap.size w5).alloc (Nat.le_refl _) (.cells #[.int .i64 ((n : Int) + 1), .int .i64 ((cv : Int) + 1), .string e.s, .string e.t, .slice T3 n3 c3, .slice Y3 m3 d3] 51)
  have b6 := below_chain b5 al
  have rdy := READY.out w5 T3 n3 c3 Y3 m3 d3 oT oY b5
  have yd0 := bcell b6 y0
  have yd1 := bcell b6 y1
  have yd2 := bcell b6 y2
  have yd3 := bcell b6 y3
  go_simp
  refine hK10.out _ _ ?_ (fun hH10 => ?_)
  · exact ⟨yd0, yd1, yd2, yd3⟩
  clear hK10 K10
  refine wpAnyH_ready (rs := [4]) (by kernel_rfl) (by simp) ?_
  refine AllReadyH.cons rfl (fun K11 hK11 => ?_) AllReadyH.nil
  have kl := bcell b6 kE
  go_simp
  refine hK11.out _ _ ?_ (fun hH11 => ?_)
  · exact ⟨yd0, yd1, yd2, yd3⟩
  clear hK11 K11
  refine wpAnyH_ready (rs := [11]) (by kernel_rfl) (by simp) ?_
  refine AllReadyH.cons rfl (fun K12 hK12 => ?_) AllReadyH.nil
  obtain ⟨q1, q2, q3, q4, q5, q6, q7⟩ := rdy
  refine step_rapp (by rfl) (.tmp 30) (.tmp 36) rfl rfl rfl rfl q1 (by rw [rec_len, HN.out]; omega) q2 q3 q4 q5 q6 q7 ?_
  intro h7 w7 rp
  obtain ⟨kx, fx, yes⟩ := STORE.out w5 _ w7 h7 b5 al rp
  have ye0 := yes 0 _ rfl
  have ye1 := yes 1 _ rfl
  have ye2 := yes 2 _ rfl
  have ye3 := yes 3 _ rfl
  clear yes
  (try go_simp)
  refine hK12.out _ _ ?_ (fun hH12 => ?_)
  · exact ⟨ye0, ye1, ye2, ye3⟩
  clear hK12 K12
  refine take_at (i := 12) (d := 38) (v := ?_) rfl rfl (by kernel_rfl) (by kernel_rfl) (by kernel_rfl) (fun _ _ _ h => h) (Or.inl ⟨by rfl, ?hy⟩) (by assumption) ?_
  case hy => (intro wS hSw; (try dsimp only at hSw); first | (go_simp; done) | (go_simp; with_reducible rfl))
  simp only [Act.put, List.setIfInBounds_toArray, List.set_cons_zero, List.set_cons_succ]
  refine take_at (i := 13) (d := 39) (v := ?_) rfl rfl (by kernel_rfl) (by kernel_rfl) (by kernel_rfl) (fun _ _ _ h => h) (Or.inl ⟨by rfl, ?hy⟩) (by assumption) ?_
  case hy => (intro wS hSw; (try dsimp only at hSw); first | (go_simp; done) | (go_simp; with_reducible rfl))
  simp only [Act.put, List.setIfInBounds_toArray, List.set_cons_zero, List.set_cons_succ]
  refine wpAnyH_ready (rs := [14]) (by kernel_rfl) (by simp) ?_
  refine AllReadyH.cons rfl (fun K13 hK13 => ?_) AllReadyH.nil
  go_simp
  refine hK13.out _ _ ?_ (fun hH13 => ?_)
  · exact ⟨(World.cell?_setCell_far _ _ _ _ hgw.symm).trans ye0, (World.cell?_setCell_far _ _ _ _ hgw.symm).trans ye1, (World.cell?_setCell_far _ _ _ _ hgw.symm).trans ye2, (World.cell?_setCell_far _ _ _ _ hgw.symm).trans ye3⟩
  clear hK13 K13
  refine wpAnyH_done (by kernel_rfl) ?_ _
  go_wp2_with fail
  go_end0
  exact ⟨rfl, FIN.out w5 _ w7 h7 b5 al rp⟩
end

end Go.Proofs.YtiplfhmimpkplaaGreat.IxWalk

/-
  Contract of layer 3: MayTag.
-/
namespace Go.Proofs.YtiplfhmimpkplaaGreat.NameWalk
open Go.RowKit Go.Proofs.YtiplfhmimpkplaaGreat.NameMath

set_option maxRecDepth 100000 in
theorem mayTag_any (s : ByteArray) (w : World) (hs : s.size ≤ 9223372036854775807) :
    Calls Tryz.prog 77 #[.string s] w fun e w' => e = .returned (.bool (parts s.data.toList).2.2) ∧ Below w.heap.size w w' := by
  have hc := parts_any s w hs
  generalize parts s.data.toList = p at *
  go_enter Tryz.func77, Tryz.ntmps77
  go_wp2_with (go_at_call 99; refine hc.mono ?_; rintro e w' ⟨rfl, b1⟩)
  go_ret
  exact ⟨rfl, b1⟩

end Go.Proofs.YtiplfhmimpkplaaGreat.NameWalk

/-
  Contracts of layer 4: May, and what it asks.
-/
namespace Go.Proofs.YtiplfhmimpkplaaGreat.EvWalk
open Go.RowKit Go.Proofs.YtiplfhmimpkplaaGreat.MemRow Go.Proofs.YtiplfhmimpkplaaGreat.Ev Go.Proofs.YtiplfhmimpkplaaGreat.NameMath Go.Proofs.YtiplfhmimpkplaaGreat.NameWalk

theorem any_not {α : Type} (l : List α) (p : α → Bool) : (!(l.any fun x => !p x)) = l.all p := by
  induction l with
  | nil => rfl
  | cons a l ih => simp only [List.any_cons, List.all_cons, ← ih, Bool.not_or, Bool.not_not]

theorem name_told {s : ByteArray} (hs : s.size ≤ maxLen) (w : World) :
    Calls Tryz.prog 48 #[.string s] w fun e w' => e = .returned (.bool (nameB s)) ∧ Below w.heap.size w w' := by
  unfold maxLen at hs
  exact may_any s w (by omega)

/-! ### Tags -/
set_option maxHeartbeats 2000000 in
set_option maxRecDepth 100000 in
theorem notTag_any (s : ByteArray) (w : World) (hs : s.size ≤ maxLen) :
    Calls Tryz.prog 76 #[.string s] w fun e w' => e = .returned (.bool (!tagB s)) ∧ Below w.heap.size w w' := by
  unfold maxLen at hs
  have c0 : Calls Tryz.prog 77 #[.string s] w fun e w' => e = .returned (.bool (tagB s)) ∧ Below w.heap.size w w' := mayTag_any s w (by omega)
  have c := Go.Lib.hid c0
  clear c0
  generalize tagB s = b at *
  go_enter Tryz.func76, Tryz.ntmps76
  go_wp2_with (refine (c.out).mono ?_; rintro e w' ⟨rfl, b1⟩)
  go_ret
  exact ⟨rfl, b1⟩

set_option maxHeartbeats 2000000 in
set_option maxRecDepth 100000 in
theorem areTags_any (A : Option Addr) (n ca : Nat) (ss : List ByteArray) (w : World) (ha : RdS w A n ca ss) (hz : ∀ x ∈ ss, x.size ≤ maxLen) :
    Calls Tryz.prog 49 #[.slice A n ca] w fun e w' => e = .returned (.bool (ss.all tagB)) ∧ Below w.heap.size w w' := by
  have c := Go.Lib.hid (hasFuncS_any A n ca ss 76 (fun s => !tagB s) w ha (enters_of Tryz.func76 (by kernel_rfl) rfl) (fun W _ x hx => notTag_any x W (hz x hx)))
  have h := any_not ss tagB
  rw [← h]
  clear ha hz h
  generalize ss.any (fun s => !tagB s) = R at c ⊢
  go_enter Tryz.func49, Tryz.ntmps49
  go_wp2_with (refine (c.out).mono ?_; rintro e w' ⟨rfl, b1⟩)
  go_ret
  exact ⟨rfl, b1⟩

/-! ### Names and numbers of fields -/
set_option maxHeartbeats 2000000 in
set_option maxRecDepth 100000 in
theorem notNamed_any (f : ByteArray × Int) (w : World) (hs : f.1.size ≤ maxLen) :
    Calls Tryz.prog 79 #[.agg #[.string f.1, .int .i64 f.2]] w fun e w' => e = .returned (.bool (!nameB f.1)) ∧ Below w.heap.size w w' := by
  obtain ⟨s, z⟩ := f
  simp only at hs ⊢
  have b0 : Below w.heap.size w (w.alloc (.cells #[.string s, .int .i64 z] 85)) := (Below.refl _ _).alloc (Nat.le_refl _) _
  have c := Go.Lib.hid (name_told hs (w.alloc (.cells #[.string s, .int .i64 z] 85)))
  generalize nameB s = b at *
  go_enter Tryz.func79, Tryz.ntmps79
  go_wp2_with (refine (c.out).mono ?_; rintro e w' ⟨rfl, b1⟩)
  go_ret
  exact ⟨rfl, below_chain b0 b1⟩

set_option maxHeartbeats 2000000 in
set_option maxRecDepth 100000 in
theorem areNamed_any (A : Option Addr) (n ca : Nat) (fs : List (ByteArray × Int)) (w : World) (ha : RdF w A n ca fs) (hz : ∀ x ∈ fs, x.1.size ≤ maxLen) :
    Calls Tryz.prog 50 #[.slice A n ca] w fun e w' => e = .returned (.bool (fs.all fun f => nameB f.1)) ∧ Below w.heap.size w w' := by
  have c := Go.Lib.hid (hasFuncF_any A n ca fs 79 (fun f => !nameB f.1) w ha (enters_of Tryz.func79 (by kernel_rfl) rfl) (fun W _ x hx => notNamed_any x W (hz x hx)))
  have h := any_not fs (fun f => nameB f.1)
  rw [← h]
  clear ha hz h
  generalize fs.any (fun f => !nameB f.1) = R at c ⊢
  go_enter Tryz.func50, Tryz.ntmps50
  go_wp2_with (refine (c.out).mono ?_; rintro e w' ⟨rfl, b1⟩)
  go_ret
  exact ⟨rfl, b1⟩

set_option maxHeartbeats 2000000 in
set_option maxRecDepth 100000 in
theorem notFit_any (f : ByteArray × Int) (w : World) :
    Calls Tryz.prog 83 #[.agg #[.string f.1, .int .i64 f.2]] w fun e w' => e = .returned (.bool (!fitB f)) ∧ Below w.heap.size w w' := by
  obtain ⟨s, z⟩ := f
  have b0 : Below w.heap.size w (w.alloc (.cells #[.string s, .int .i64 z] 85)) := (Below.refl _ _).alloc (Nat.le_refl _) _
  generalize hR : (!fitB (s, z)) = R
  unfold fitB at hR
  simp only at hR ⊢
  by_cases h1 : z < -1099511627776
  · have hR : R = true := by rw [← hR, decide_eq_false (by omega)]; rfl
    subst hR
    go_enter Tryz.func83, Tryz.ntmps83
    go_wp2_with fail
    go_ret
    exact ⟨rfl, b0⟩
  · by_cases h2 : 1099511627776 < z
    · have hR : R = true := by rw [← hR, decide_eq_false (by omega)]; rfl
      subst hR
      go_enter Tryz.func83, Tryz.ntmps83
      go_wp2_with fail
      go_ret
      exact ⟨rfl, b0⟩
    · have hR : R = false := by rw [← hR, decide_eq_true (by omega)]; rfl
      subst hR
      go_enter Tryz.func83, Tryz.ntmps83
      go_wp2_with fail
      go_ret
      exact ⟨rfl, b0⟩

set_option maxHeartbeats 2000000 in
set_option maxRecDepth 100000 in
theorem areFit_any (A : Option Addr) (n ca : Nat) (fs : List (ByteArray × Int)) (w : World) (ha : RdF w A n ca fs) :
    Calls Tryz.prog 53 #[.slice A n ca] w fun e w' => e = .returned (.bool (fs.all fitB)) ∧ Below w.heap.size w w' := by
  have c := Go.Lib.hid (hasFuncF_any A n ca fs 83 (fun f => !fitB f) w ha (enters_of Tryz.func83 (by kernel_rfl) rfl) (fun W _ x _ => notFit_any x W))
  have h := any_not fs fitB
  rw [← h]
  clear ha h
  generalize fs.any (fun f => !fitB f) = R at c ⊢
  go_enter Tryz.func53, Tryz.ntmps53
  go_wp2_with (refine (c.out).mono ?_; rintro e w' ⟨rfl, b1⟩)
  go_ret
  exact ⟨rfl, b1⟩

/-! ### Order -/
set_option maxHeartbeats 4000000 in
set_option maxRecDepth 100000 in
theorem rise_any (n : Nat) (ss : List ByteArray) (g : Nat) (p : Value) (w : World) (la : ss.length = n) (hn : n ≤ maxLen) (eg : ∀ args w, (callFunc g args).run Tryz.prog w = .ok (.enter g args) w)
    (hk : ∀ W, Below w.heap.size w W → ∀ i : Nat, i < n → Calls Tryz.prog g #[.int .i64 (i : Int), p] W fun e W' => e = .returned (.string (ss.getD i ByteArray.empty)) ∧ Below W.heap.size W W') :
    Calls Tryz.prog 80 #[.int .i64 (n : Int), .func (.func g) #[] #[p]] w fun e w' => e = .returned (.bool (riseB ss)) ∧ Below w.heap.size w w' := by
  unfold maxLen at hn
  generalize hR : riseB ss = R
  have HR := Go.Lib.hid hR
  have LA := Go.Lib.hid la
  have HK := Go.Lib.hid hk
  clear hR la hk
  go_enter Tryz.func80, Tryz.ntmps80
  go_wp2_with fail
  go_loopw [5] (fun i wr => ∃ j : Nat, j + 1 ≤ max n 1 ∧ i = .int .i64 ((j + 1 : Nat) : Int) ∧ riseB (ss.take (j + 1)) = true ∧ Below w.heap.size w wr) (fun i _ => n - (intOf i).toNat)
  case atStart =>
    refine ⟨0, by omega, rfl, ?_, Below.refl _ _⟩
    cases ss with
    | nil => rfl
    | cons a l => simp [riseB]
  case round =>
    obtain ⟨j, hj, rfl, hq, hb⟩ := hrel
    have HQ := Go.Lib.hid hq
    clear hq
    have e1 : ((j + 1 : Nat) : Int) = (j : Int) + 1 := by omega
    by_cases hlt : j + 1 < n
    · have i1 : (j : Int) + 1 < n := by omega
      have c1 := HK.out wr hb j (by omega)
      have c2 : ∀ W, Below w.heap.size w W → Calls Tryz.prog g #[.int .i64 ((j : Int) + 1), p] W fun e W' => e = .returned (.string (ss.getD (j + 1) ByteArray.empty)) ∧ Below W.heap.size W W' := fun W h => by
        have := HK.out W h (j + 1) hlt
        rwa [e1] at this
      have ta := take_two ss j (by rw [LA.out]; exact hlt)
      have tb := take_get ss j (by rw [LA.out]; omega)
      have TA := Go.Lib.hid ta
      have TB := Go.Lib.hid tb
      clear ta tb
      generalize hx : ss.getD j ByteArray.empty = x at *
      generalize hy : ss.getD (j + 1) ByteArray.empty = y at *
      have C1 := Go.Lib.hid c1
      have C2 := Go.Lib.hid c2
      clear hx hy c1 c2
      have ts := rise_snoc (ss.take j) x y
      have TS := Go.Lib.hid ts
      clear ts
      by_cases hl : less x y = true
      · have hbl : Op.bytesLess x.toList y.toList = true := hl
        go_wp2_with (first | (refine (C1.out).mono ?_; rintro e w1 ⟨rfl, b1⟩) | (refine (C2.out _ (below_chain hb b1)).mono ?_; rintro e w2 ⟨rfl, b2⟩))
        go_roundw
        case rel => exact ⟨j + 1, by omega, by go_num, by rw [TA.out, TS.out, ← TB.out, HQ.out, hl]; rfl, below_chain (below_chain hb b1) b2⟩
        case measure => simp [intOf]; omega
      · have hbl : Op.bytesLess x.toList y.toList = false := by simpa [less] using hl
        have hR : R = false := by
          rw [← HR.out]
          cases h : riseB ss with
          | false => rfl
          | true =>
            exfalso
            rw [← List.take_append_drop (j + 2) ss] at h
            have h2 := rise_prefix _ _ h
            rw [TA.out, TS.out, Bool.and_eq_true] at h2
            exact hl h2.2
        subst hR
        go_wp2_with (first | (refine (C1.out).mono ?_; rintro e w1 ⟨rfl, b1⟩) | (refine (C2.out _ (below_chain hb b1)).mono ?_; rintro e w2 ⟨rfl, b2⟩))
        go_ret
        exact ⟨rfl, below_chain (below_chain hb b1) b2⟩
    · have hR : R = true := by
        rw [← HR.out]
        have h1 := HQ.out
        rwa [List.take_of_length_le (by rw [LA.out]; omega)] at h1
      subst hR
      have i1 : ¬ (j : Int) + 1 < n := by omega
      go_wp2_with fail
      go_ret
      exact ⟨rfl, hb⟩

set_option maxHeartbeats 2000000 in
set_option maxRecDepth 100000 in
theorem tagKey_any (B : Nat) (A : Option Addr) (n ca : Nat) (ss : List ByteArray) (i : Nat) (w : World) (hc : w.cell? ⟨B, 0, none⟩ = some (.slice A n ca)) (ha : RdS w A n ca ss) (hi : i < n) :
    Calls Tryz.prog 81 #[.int .i64 (i : Int), .pointer (some ⟨B, 0, none⟩)] w fun e w' => e = .returned (.string (ss.getD i ByteArray.empty)) ∧ Below w.heap.size w w' := by
  obtain ⟨ba, oa, rfl, _, ka⟩ := RdS.at_ ha (by omega)
  have ka1 := ka i hi
  have i1 : (i : Int) < n := by omega
  clear ka ha
  generalize ss.getD i ByteArray.empty = x at *
  go_enter Tryz.func81, Tryz.ntmps81
  go_wp2_with fail
  go_ret
  exact ⟨rfl, Below.refl _ _⟩

set_option maxHeartbeats 2000000 in
set_option maxRecDepth 100000 in
theorem fieldKey_any (B : Nat) (A : Option Addr) (n ca : Nat) (fs : List (ByteArray × Int)) (i : Nat) (w : World) (hc : w.cell? ⟨B, 0, none⟩ = some (.slice A n ca)) (ha : RdF w A n ca fs) (hi : i < n) :
    Calls Tryz.prog 82 #[.int .i64 (i : Int), .pointer (some ⟨B, 0, none⟩)] w fun e w' => e = .returned (.string (fs.getD i (ByteArray.empty, 0)).1) ∧ Below w.heap.size w w' := by
  obtain ⟨ba, oa, rfl, _, ka⟩ := RdF.at_ ha (by omega)
  obtain ⟨ka1, ka2⟩ := ka i hi
  have i1 : (i : Int) < n := by omega
  clear ka ha
  generalize fs.getD i (ByteArray.empty, 0) = x at *
  obtain ⟨x, z⟩ := x
  simp only at ka1 ka2 ⊢
  go_enter Tryz.func82, Tryz.ntmps82
  go_wp2_with fail
  go_ret
  exact ⟨rfl, Below.refl _ _⟩

theorem box_cell (w : World) (v : Value) (t : TypeId) : (w.alloc (.cells #[v] t)).cell? ⟨w.heap.size, 0, none⟩ = some v := by
  rw [cell_of_row _ w.heap.size 0 _ _ _ (heap_alloc_new w _)]
  rfl

set_option maxHeartbeats 2000000 in
set_option maxRecDepth 100000 in
theorem tagsRise_any (A : Option Addr) (n ca : Nat) (ss : List ByteArray) (w : World) (ha : RdS w A n ca ss) :
    Calls Tryz.prog 51 #[.slice A n ca] w fun e w' => e = .returned (.bool (riseB ss)) ∧ Below w.heap.size w w' := by
  have b0 : Below w.heap.size w (w.alloc (.cells #[.slice A n ca] 39)) := (Below.refl _ _).alloc (Nat.le_refl _) _
  have k0 := box_cell w (.slice A n ca) 39
  have a0 := RdC.below ha b0
  have c := Go.Lib.hid (rise_any n ss 81 (.pointer (some ⟨w.heap.size, 0, none⟩)) (w.alloc (.cells #[.slice A n ca] 39)) ha.len (RdC.le ha) (enters_of Tryz.func81 (by kernel_rfl) rfl)
    (fun W hW i hi => tagKey_any w.heap.size A n ca ss i W (bcell hW k0) (RdC.below a0 hW) hi))
  clear ha a0
  generalize riseB ss = R at c ⊢
  go_enter Tryz.func51, Tryz.ntmps51
  go_wp2_with (refine (c.out).mono ?_; rintro e w' ⟨rfl, b1⟩)
  go_ret
  exact ⟨rfl, below_chain b0 b1⟩

set_option maxHeartbeats 2000000 in
set_option maxRecDepth 100000 in
theorem fieldsRise_any (A : Option Addr) (n ca : Nat) (fs : List (ByteArray × Int)) (w : World) (ha : RdF w A n ca fs) :
    Calls Tryz.prog 52 #[.slice A n ca] w fun e w' => e = .returned (.bool (riseB (fs.map (·.1)))) ∧ Below w.heap.size w w' := by
  have b0 : Below w.heap.size w (w.alloc (.cells #[.slice A n ca] 40)) := (Below.refl _ _).alloc (Nat.le_refl _) _
  have k0 := box_cell w (.slice A n ca) 40
  have a0 := RdC.below ha b0
  have hl := ha.len
  have c := Go.Lib.hid (rise_any n (fs.map (·.1)) 82 (.pointer (some ⟨w.heap.size, 0, none⟩)) (w.alloc (.cells #[.slice A n ca] 40)) (by rw [List.length_map, hl]) (RdC.le ha) (enters_of Tryz.func82 (by kernel_rfl) rfl)
    (fun W hW i hi => by
      have h := fieldKey_any w.heap.size A n ca fs i W (bcell hW k0) (RdC.below a0 hW) hi
      have e : (fs.map (·.1)).getD i ByteArray.empty = (fs.getD i (ByteArray.empty, 0)).1 := by
        have hi' : i < fs.length := by omega
        simp [List.getD, List.getElem?_eq_getElem hi']
      rw [e]
      exact h))
  clear ha a0 hl
  generalize riseB (fs.map (·.1)) = R at c ⊢
  go_enter Tryz.func52, Tryz.ntmps52
  go_wp2_with (refine (c.out).mono ?_; rintro e w' ⟨rfl, b1⟩)
  go_ret
  exact ⟨rfl, below_chain b0 b1⟩

set_option maxHeartbeats 8000000 in
set_option maxRecDepth 100000 in
theorem evMay_any (v : Value) (ev : Ev) (w : World) (hv : IsEv w v ev) (hok : EvOk ev) :
    Calls Tryz.prog 33 #[v] w fun e w' => e = .returned (.int .i64 (mayE ev)) ∧ Below w.heap.size w w' := by
  obtain ⟨A, n, ca, B, m, cb, rfl, ha, hb⟩ := hv
  obtain ⟨s, t, ts, fs⟩ := ev
  obtain ⟨ks, kt, ktags, knames, knums⟩ := hok
  simp only at ha hb ks kt ktags knames knums
  have hn := RdC.le ha
  have hm := RdC.le hb
  unfold maxLen at hn hm
  have la := ha.len
  have lb := hb.len
  generalize hR : mayE ⟨s, t, ts, fs⟩ = R
  unfold mayE at hR
  simp only at hR
  rw [la, lb] at hR
  have HR := Go.Lib.hid hR
  clear hR la lb
  have KT := Go.Lib.hid ktags
  have KN := Go.Lib.hid knames
  clear ktags knames knums
  have B1 : Below w.heap.size w (w.alloc (.cells #[.string s, .string t, .slice A n ca, .slice B m cb] 42)) := (Below.refl _ _).alloc (Nat.le_refl _) _
  have E1 := EvAt.new w (.string s) (.string t) (.slice A n ca) (.slice B m cb)
  have a1 := RdC.below ha B1
  have r1 := RdC.below hb B1
  have p0 := E1.c0
  go_enter Tryz.func33, Tryz.ntmps33
  go_wp2_with fail
  generalize w.alloc (.cells #[.string s, .string t, .slice A n ca, .slice B m cb] 42) = w1 at *
  clear ha hb
  refine (name_told (s := s) ks _).mono ?_
  rintro e w2 ⟨rfl, b2⟩
  have E2 := E1.below b2 E1.lt
  have a2 := RdC.below a1 b2
  have r2 := RdC.below r1 b2
  have B2 := below_chain B1 b2
  have p1 := E2.c1
  clear E1 a1 r1 B1 b2 p0
  cases hs : nameB s
  · have hR : R = 5 := by rw [← HR.out, hs, Bool.false_and, if_pos rfl]
    subst hR
    go_wp2_with fail
    go_ret
    exact ⟨rfl, B2⟩
  go_wp2_with fail
  refine (name_told (s := t) kt _).mono ?_
  rintro e w3 ⟨rfl, b3⟩
  have E3 := E2.below b3 E2.lt
  have a3 := RdC.below a2 b3
  have r3 := RdC.below r2 b3
  have B3 := below_chain B2 b3
  have p2 := E3.c2
  have p3 := E3.c3
  clear E2 a2 r2 B2 b3 p1
  cases ht : nameB t
  · have hR : R = 5 := by rw [← HR.out, ht, Bool.and_false, if_pos rfl]
    subst hR
    go_wp2_with fail
    go_ret
    exact ⟨rfl, B3⟩
  by_cases h6 : 6 < n
  · have hR : R = 3 := by rw [← HR.out, hs, ht, if_neg (by decide), if_pos (.inl h6)]
    subst hR
    have i1 : (6 : Int) < n := by omega
    go_wp2_with fail
    go_ret
    exact ⟨rfl, B3⟩
  by_cases h4 : 4 < m
  · have hR : R = 3 := by rw [← HR.out, hs, ht, if_neg (by decide), if_pos (.inr h4)]
    subst hR
    have i1 : ¬ (6 : Int) < n := by omega
    have i2 : (4 : Int) < m := by omega
    go_wp2_with fail
    go_ret
    exact ⟨rfl, B3⟩
  have hr2 : (if ((fs.all fun f => nameB f.1) && ts.all tagB) = false then 5 else if (fs.all fitB && (riseB ts && riseB (fs.map (·.1)))) = false then 1 else 0 : Int) = R := by
    have := HR.out
    rwa [hs, ht, if_neg (by decide), if_neg (by omega)] at this
  have HR2 := Go.Lib.hid hr2
  clear HR hs ht hr2
  have i1 : ¬ (6 : Int) < n := by omega
  have i2 : ¬ (4 : Int) < m := by omega
  go_wp2_with fail
  refine (areTags_any A n ca ts _ a3 KT.out).mono ?_
  rintro e w4 ⟨rfl, b4⟩
  have E4 := E3.below b4 E3.lt
  have a4 := RdC.below a3 b4
  have r4 := RdC.below r3 b4
  have B4 := below_chain B3 b4
  have q2 := E4.c2
  have q3 := E4.c3
  clear E3 a3 r3 B3 b4 p2 p3
  cases h5 : ts.all tagB
  · have hR : R = 5 := by rw [← HR2.out, h5, Bool.and_false, if_pos rfl]
    subst hR
    go_wp2_with fail
    go_ret
    exact ⟨rfl, B4⟩
  go_wp2_with fail
  refine (areNamed_any B m cb fs _ r4 KN.out).mono ?_
  rintro e w5 ⟨rfl, b5⟩
  have E5 := E4.below b5 E4.lt
  have a5 := RdC.below a4 b5
  have r5 := RdC.below r4 b5
  have B5 := below_chain B4 b5
  have p2 := E5.c2
  have p3 := E5.c3
  clear E4 a4 r4 B4 b5 q2 q3
  cases h7 : fs.all fun f => nameB f.1
  · have hR : R = 5 := by rw [← HR2.out, h7, Bool.false_and, if_pos rfl]
    subst hR
    go_wp2_with fail
    go_ret
    exact ⟨rfl, B5⟩
  have hr3 : (if (fs.all fitB && (riseB ts && riseB (fs.map (·.1)))) = false then 1 else 0 : Int) = R := by
    have := HR2.out
    rwa [h5, h7, if_neg (by decide)] at this
  have HR3 := Go.Lib.hid hr3
  clear HR2 h5 h7 hr3
  go_wp2_with fail
  refine (tagsRise_any A n ca ts _ a5).mono ?_
  rintro e w6 ⟨rfl, b6⟩
  have E6 := E5.below b6 E5.lt
  have r6 := RdC.below r5 b6
  have B6 := below_chain B5 b6
  have q3 := E6.c3
  clear E5 a5 r5 B5 b6 p2 p3
  cases h8 : riseB ts
  · have hR : R = 1 := by rw [← HR3.out, h8, Bool.false_and, Bool.and_false, if_pos rfl]
    subst hR
    go_wp2_with fail
    go_ret
    exact ⟨rfl, B6⟩
  go_wp2_with fail
  refine (fieldsRise_any B m cb fs _ r6).mono ?_
  rintro e w7 ⟨rfl, b7⟩
  have E7 := E6.below b7 E6.lt
  have r7 := RdC.below r6 b7
  have B7 := below_chain B6 b7
  have p3 := E7.c3
  clear E6 r6 B6 b7 q3
  cases h9 : riseB (fs.map (·.1))
  · have hR : R = 1 := by rw [← HR3.out, h9, Bool.and_false, Bool.and_false, if_pos rfl]
    subst hR
    go_wp2_with fail
    go_ret
    exact ⟨rfl, B7⟩
  go_wp2_with fail
  refine (areFit_any B m cb fs _ r7).mono ?_
  rintro e w8 ⟨rfl, b8⟩
  have B8 := below_chain B7 b8
  clear E7 r7 B7 b8 p3
  cases h0 : fs.all fitB
  · have hR : R = 1 := by rw [← HR3.out, h0, Bool.false_and, if_pos rfl]
    subst hR
    go_wp2_with fail
    go_ret
    exact ⟨rfl, B8⟩
  have hR : R = 0 := by rw [← HR3.out, h0, h8, h9, if_neg (by decide)]
  subst hR
  go_wp2_with fail
  go_ret
  exact ⟨rfl, B8⟩

end Go.Proofs.YtiplfhmimpkplaaGreat.EvWalk

/-
  Contracts of layer 10: May.
-/
namespace Go.Proofs.YtiplfhmimpkplaaGreat.BtWalk
open Go.RowKit Go.Proofs.YtiplfhmimpkplaaGreat.MemRow Go.Proofs.YtiplfhmimpkplaaGreat.Ev Go.Proofs.YtiplfhmimpkplaaGreat.NameMath Go.Proofs.YtiplfhmimpkplaaGreat.NameWalk Go.Proofs.YtiplfhmimpkplaaGreat.EvWalk Go.Proofs.YtiplfhmimpkplaaGreat.NumMem
set_option maxHeartbeats 4000000 in
set_option maxRecDepth 100000 in
theorem may10_any (v : Value) (x : Bat) (w : World) (hv : IsB w v x) (hok : BOk x) :
    Calls Tryz.prog 16 #[v] w fun e w' => e = .returned (.int .i64 (mayX x)) ∧ Below w.heap.size w w' := by
  obtain ⟨A, n, ca, rfl, rE⟩ := hv
  obtain ⟨a, es⟩ := x
  simp only at rE
  have oke := hok.evs
  have oka := hok.a
  simp only at oke oka
  have LE := Go.Lib.hid rE.len
  have hn := rE.le
  unfold maxLen at hn
  have s1 := BoxB.new w (.int .i64 a) (.slice A n ca)
  have H1 := Go.Lib.hid (fun h => mayX_none (a := a) (es := es) h)
  have H2 := Go.Lib.hid (fun h => mayX_big (a := a) (es := es) h)
  have HX := Go.Lib.hid (fun h0 h16 hm => mayX_pos (a := a) LE.out h0 h16 hm)
  have HE := Go.Lib.hid (fun h0 h16 hm => mayX_ev (a := a) (es := es) h0 h16 hm)
  clear hok
  generalize mayX ⟨a, es⟩ = M at *
  go_enter Tryz.func16, Tryz.ntmps16
  go_upto_region 1 with (fail)
  generalize w.alloc (.cells #[.int .i64 a, .slice A n ca] 45) = w1 at *
  have k1 := s1.eq.c1
  by_cases h0 : n = 0
  · subst h0
    obtain rfl : M = 22 := H1.out LE.out
    clear H1 H2 HX HE
    go_wp2_with fail
    go_ret
    exact ⟨rfl, s1.bel⟩
  have i0 : ((n : Int) == 0) = false := by rw [beq_eq_false_iff_ne]; omega
  by_cases h16 : 16 < n
  · obtain rfl : M = 3 := H2.out (by rw [LE.out]; exact h16)
    clear H1 H2 HX HE
    have i1 : (16 : Int) < n := by omega
    go_wp2_with fail
    go_ret
    exact ⟨rfl, s1.bel⟩
  have i1 : ¬ (16 : Int) < n := by omega
  have H0 := Go.Lib.hid h0
  replace HX := Go.Lib.hid (fun hm => HX.out h0 h16 hm)
  replace HE := Go.Lib.hid (fun hm => HE.out (by rw [LE.out]; exact h0) (by rw [LE.out]; exact h16) hm)
  clear h0 H1 H2
  go_wp2_with fail
  go_loopw [5, 6, 19] (fun _ _ i wr => ∃ j : Nat, j ≤ n ∧ i = .int .i64 j ∧ Hid (mayEs (es.take j) = 0) ∧ BoxB wr w (.int .i64 a) (.slice A n ca)) (fun _ _ i _ => n - (intOf i).toNat)
  case atStart => exact ⟨0, Nat.zero_le _, rfl, Go.Lib.hid (by simp [mayEs]), s1⟩
  case round =>
    obtain ⟨j, hj, rfl, HJ, sr⟩ := hrel
    clear s1 k1
    have k0 := sr.eq.c0
    by_cases hlt : j < n
    · obtain ⟨b, o, rfl, _, kt⟩ := rE.at_ (by omega)
      obtain ⟨A1, n1, c1, B1, m1, d1, x0, x1, x2, x3, r1, r2⟩ := (kt j hlt).below sr.bel
      have i2 : (j : Int) < n := by omega
      have hjl : j < es.length := by rw [LE.out]; exact hlt
      have hoe := oke _ (evsGet hjl)
      have HA := Go.Lib.hid (mayEs_at es j HJ.out hjl)
      have HT := Go.Lib.hid (mayEs_take es j HJ.out hjl)
      clear kt hjl
      generalize es.getD j noEv = ev at *
      go_upto_region 9 with (fail)
      have al : Below wr.heap.size wr (wr.alloc (.cells #[.string ev.s, .string ev.t, .slice A1 n1 c1, .slice B1 m1 d1] 42)) := (Below.refl _ _).alloc (Nat.le_refl _) _
      have e3 := EvAt.new wr (.string ev.s) (.string ev.t) (.slice A1 n1 c1) (.slice B1 m1 d1)
      have s3 := sr.below al
      have iv : IsEv (wr.alloc (.cells #[.string ev.s, .string ev.t, .slice A1 n1 c1, .slice B1 m1 d1] 42)) (.agg #[.string ev.s, .string ev.t, .slice A1 n1 c1, .slice B1 m1 d1]) ev := ⟨_, _, _, _, _, _, rfl, RdC.below r1 al, RdC.below r2 al⟩
      generalize wr.alloc (.cells #[.string ev.s, .string ev.t, .slice A1 n1 c1, .slice B1 m1 d1] 42) = w3 at *
      have q0 := e3.c0
      have q1 := e3.c1
      have q2 := e3.c2
      have q3 := e3.c3
      clear x0 x1 x2 x3 r1 r2 k0 sr al e3
      go_wp2_with fail
      refine (evMay_any _ ev w3 iv hoe).mono ?_
      rintro e w6 ⟨rfl, b6⟩
      have s6 := s3.below b6
      clear q0 q1 q2 q3 iv s3 b6
      by_cases he : mayE ev = 0
      · have HT2 := Go.Lib.hid (HT.out he)
        rw [he]
        clear he HT HA
        go_wp2_with fail
        go_roundw
        case rel => exact ⟨j + 1, by omega, by go_num, HT2, s6⟩
        case measure => simp [intOf]; omega
      · have hb : (mayE ev != 0) = true := by rw [bne_iff_ne]; exact he
        have hme := HA.out he
        have hM : M = mayE ev := by rw [HE.out (by rw [hme]; exact he), hme]
        rw [← hM] at hb ⊢
        clear HA HT HE HX hme he hM
        go_wp2_with fail
        go_ret
        exact ⟨rfl, s6.bel⟩
    · obtain rfl : n = j := by omega
      have hes : es.take n = es := List.take_of_length_le (by rw [LE.out]; exact Nat.le_refl _)
      have HM := Go.Lib.hid (HX.out (by rw [← hes]; exact HJ.out))
      clear hes HX HE HJ
      by_cases ha : a < 0
      · obtain rfl : M = 1 := by rw [HM.out, if_pos (.inl ha)]
        clear HM
        go_wp2_with fail
        go_ret
        exact ⟨rfl, sr.bel⟩
      · by_cases hb : 1048576 - (n : Int) < a
        · obtain rfl : M = 1 := by rw [HM.out, if_pos (.inr hb)]
          clear HM
          go_wp2_with fail
          go_ret
          exact ⟨rfl, sr.bel⟩
        · obtain rfl : M = 0 := by rw [HM.out, if_neg (by omega)]
          clear HM
          go_wp2_with fail
          go_ret
          exact ⟨rfl, sr.bel⟩


end Go.Proofs.YtiplfhmimpkplaaGreat.BtWalk

/-
  Contracts of the landed index: Add.
-/
namespace Go.Proofs.YtiplfhmimpkplaaGreat.IxWalk
open Go.RowKit Go.Maps Go.Proofs.YtiplfhmimpkplaaGreat.MemRow Go.Proofs.YtiplfhmimpkplaaGreat.Ev Go.Proofs.YtiplfhmimpkplaaGreat.NameMath Go.Proofs.YtiplfhmimpkplaaGreat.NameWalk Go.Proofs.YtiplfhmimpkplaaGreat.EvWalk Go.Proofs.YtiplfhmimpkplaaGreat.NumMem Go.Proofs.YtiplfhmimpkplaaGreat.Qu Go.Proofs.YtiplfhmimpkplaaGreat.QuWalk Go.Proofs.YtiplfhmimpkplaaGreat.BtWalk Go.Proofs.YtiplfhmimpkplaaGreat.DkWalk Go.Proofs.YtiplfhmimpkplaaGreat.InWalk
open Go.Proofs.YtiplfhmimpkplaaGreat.PnWalk (LnC GrewC mapAt LBx find14_any add14p_any clone14p_any)

/-! ### What may be is of a size that a machine has -/
set_option maxRecDepth 100000 in
theorem may_fit {e : Ev} (h : mayE e = 0) : e.s.size ≤ maxLen ∧ e.tags.length ≤ 6 ∧ e.fs.length ≤ 4 := by
  obtain ⟨h1, _, h2, h3, _⟩ := (mayE_zero e).1 h
  refine ⟨?_, h2, h3⟩
  unfold nameB may at h1
  simp only [Bool.and_eq_true, decide_eq_true_eq] at h1
  have h4 : e.s.data.toList.length ≤ 24 := h1.1.2
  have h5 : e.s.size = e.s.data.toList.length := by
    show e.s.data.size = _
    rw [Array.length_toList]
  unfold maxLen
  omega
set_option maxRecDepth 100000 in
theorem logOk_fit {es : List Ev} (h : LogOk es) : RcsFit (recF es) := fun r hr => by
  have hm : r.e ∈ es := by
    unfold recF at hr
    obtain ⟨i, hi, e⟩ := List.mem_mapIdx.1 hr
    rw [← e]
    exact List.getElem_mem hi
  have := may_fit (h.2 r.e hm)
  exact ⟨by omega, by omega⟩
theorem logOk_size {es : List Ev} (h : LogOk es) : ∀ x ∈ es, x.s.size ≤ maxLen := fun x hx => (may_fit (h.2 x hx)).1

section
variable {w w' : World} {F : Nat → Prop} {n ca : Nat} {l : List Ev}
set_option maxRecDepth 100000 in
/-- What reads the same whatever is done to the blocks of F lies in none of them. -/
theorem not_wr {b o : Nat} (hb : b < w.heap.size) (hv : ∀ w', Ch F w w' → RdE w' (some ⟨b, o, none⟩) n ca l) (hn : 0 < n) : ¬ F b := fun hF => by
  have hc : Ch F w { w with heap := w.heap.setIfInBounds b (.map #[] 0) } := ⟨rfl, rfl, rfl, by simp, fun k _ hk => by
    have : b ≠ k := fun e => hk (by rw [← e]; exact hF)
    simp [this]⟩
  obtain ⟨b2, o2, e, _, kc⟩ := (hv _ hc).at_ hn
  injection e with e
  injection e with e1 e2
  subst e1 e2
  obtain ⟨A, nA, cA, B, m, cb, x0, _⟩ := kc 0 hn
  have hz : ({ w with heap := w.heap.setIfInBounds b (.map #[] 0) } : World).heap[b]? = some (.map #[] 0) := by simp [hb]
  simp [World.cell?, hz] at x0
set_option maxRecDepth 100000 in
/-- The rows of an event that lies in memory, whatever is done to the blocks of F. -/
theorem ev_all {b o j : Nat} {T Y : Option Addr} {nT cT nY cY : Nat} (hv : ∀ w', Ch F w w' → RdE w' (some ⟨b, o, none⟩) n ca l) (hlt : b < w.heap.size) (hj : j < n) (x2 : w.cell? ⟨b, o + j * 4 + 2, none⟩ = some (.slice T nT cT)) (x3 : w.cell? ⟨b, o + j * 4 + 3, none⟩ = some (.slice Y nY cY)) :
    ∀ w', Ch F w w' → RdS w' T nT cT (l.getD j noEv).tags ∧ RdF w' Y nY cY (l.getD j noEv).fs := fun w' c => by
  have nF := not_wr hlt hv (by omega)
  obtain ⟨b2, o2, e, _, kc⟩ := (hv w' c).at_ (by omega)
  injection e with e
  injection e with e1 e2
  subst e1 e2
  obtain ⟨A, nA, cA, B, m, cb, _, _, y2, y3, rA, rB⟩ := kc j hj
  have hb := c.block b hlt nF
  have z2 := (World.cell?_of_block (w := w) (a := ⟨b, o + j * 4 + 2, none⟩) hb).trans x2
  have z3 := (World.cell?_of_block (w := w) (a := ⟨b, o + j * 4 + 3, none⟩) hb).trans x3
  rw [y2] at z2
  rw [y3] at z3
  injection z2 with z2
  injection z2 with a1 a2 a3
  injection z3 with z3
  injection z3 with b1 b2 b3
  subst a1 a2 a3 b1 b2 b3
  exact ⟨rA, rB⟩
end

section
variable {w : World} {g : Nat} {S : Sets} {d : Dat} {es : List Ev}
/-- What Add comes to: the log behind it, then the records for the caller. -/
def AddOut (w w' : World) (g : Nat) (S : Sets) (d : Dat) (es : List Ev) (x : Bat) (r : Ending) : Prop :=
  ∃ B m c wm S1 d1, r = .returned (.tuple #[.slice B m c, .int .i64 (addB es x).1]) ∧ Step w wm g S d es S1 d1 (addB es x).2.2 ∧ Below wm.heap.size wm w' ∧ RoT B m c (addB es x).2.1 w' (fun k => wm.heap.size ≤ k ∧ k < w'.heap.size)
theorem roT_none (w : World) {G : Nat → Prop} (h : ∀ k, G k → k < w.heap.size) : RoT none 0 0 [] w G := ⟨fun _ => False, fun _ => False, ⟨rfl, Nat.le_refl _, Nat.zero_le _, fun h => absurd h (Nat.lt_irrefl _)⟩, fun _ h => h.elim, fun _ h => h.elim, fun _ h => h.elim, h⟩
set_option maxHeartbeats 8000000 in
set_option maxRecDepth 100000 in
theorem addX_any (h : IdR w g S d es) (lo : LogOk es) {v : Value} {x : Bat} (hl : es.length + x.es.length ≤ 400) (hv : ∀ w', Ch (S.wr g) w w' → IsB w' v x) (hok : BOk x) :
    Calls Tryz.prog 7 #[.pointer (some ⟨g, 0, none⟩), v] w fun r w' => AddOut w w' g S d es x r := by
  obtain ⟨A, n, ca, rfl, _⟩ := hv w (Ch.refl _ _)
  have hv : ∀ w', Ch (S.wr g) w w' → RdE w' A n ca x.es := fun w' c => by
    obtain ⟨A2, n2, ca2, e, r⟩ := hv w' c
    injection e with e
    simp only [Array.mk.injEq, List.cons.injEq, Value.slice.injEq, and_true, true_and] at e
    obtain ⟨rfl, rfl, rfl⟩ := e
    exact r
  obtain ⟨xa, bes⟩ := x
  simp only at hl hv
  have b1 : Below w.heap.size w (w.alloc (.cells #[.int .i64 xa, .slice A n ca] 45)) := (Below.refl _ _).alloc (Nat.le_refl _) _
  have x1 := BxAt.new w (.int .i64 xa) (.slice A n ca)
  have r1 := hv _ (Ch.of_below b1)
  have hn := r1.le
  unfold maxLen at hn
  have HLN := Go.Lib.hid r1.len
  have H := Go.Lib.hid h
  have LO := Go.Lib.hid lo
  have HV := Go.Lib.hid hv
  have HOK := Go.Lib.hid hok
  have MY := Go.Lib.hid (may10_any (.agg #[.int .i64 xa, .slice A n ca]) ⟨xa, bes⟩ _ ⟨A, n, ca, rfl, r1⟩ hok)
  have k0 := x1.c0
  have k1 := x1.c1
  clear h lo hv hok r1
  go_enter Tryz.func7, Tryz.ntmps7
  go_upto_region 1 with (fail)
  generalize w.alloc (.cells #[.int .i64 xa, .slice A n ca] 45) = w1 at *
  have X1 := Go.Lib.hid x1
  have B1 := Go.Lib.hid b1
  clear x1 b1
  go_upto_region 2 with (first | (go_at_call 16; refine (MY.out).mono ?_; rintro r w2 ⟨rfl, b2⟩))
  have B2 := Go.Lib.hid (B1.out.trans (b2.mono B1.out.size))
  have x2 := X1.out.below b2
  have X2 := Go.Lib.hid x2
  have ST0 := Go.Lib.hid (Step.below H.out B2.out)
  clear MY k0 k1 b2
  by_cases hm : mayX ⟨xa, bes⟩ = 0
  · rw [hm]
    have k0 := x2.c0
    have k1 := x2.c1
    have bd : ∀ q, Below w2.heap.size w2 (w2.drewN q) := fun q => ⟨rfl, rfl, rfl, Nat.le_refl _, fun _ _ => rfl⟩
    have hlq : ∀ q, Calls Tryz.prog 8 #[.pointer (some ⟨g, 0, none⟩)] (w2.drewN q) fun e w' => e = .returned (.int .i64 (es.length : Nat)) ∧ ∃ k, w' = w2.drewN k := fun q => (last14_any (w := w2.drewN q) (ST0.out.id.below (bd q)).bx (ST0.out.id.below (bd q)).rl).mono fun e w' h => ⟨h.1, q, h.2⟩
    clear x2
    by_cases ha : xa = es.length
    · have HY := Go.Lib.hid (addB_yes hm ha)
      have HM := Go.Lib.hid hm
      subst ha
      have i1 : ((es.length : Int) != (es.length : Int)) = false := by simp
      clear hm
      go_upto_region 4 with (fail)
      go_cut [18] (fun v wx => v = .bool false ∧ ∃ q, wx = w2.drewN q)
      case first =>
        generalize es.length = ne at *
        go_quiet (first | (go_at_call 8; exact hlq _))
        go_wp2_with fail
        go_meet
        exact ⟨rfl, _, rfl⟩
      case rest =>
        obtain ⟨rfl, q, rfl⟩ := hcut
        have x3 := X2.out.below (bd q)
        have B3 := Go.Lib.hid (B2.out.trans ((bd q).mono B2.out.size))
        have hgt : w.heap.size < (w2.drewN q).heap.size := x3.lt
        have HNW := Go.Lib.hid (show ¬ S.wr g w.heap.size from fun hf => Nat.lt_irrefl _ (H.out.lt _ (H.out.wra _ hf)))
        clear hlq bd k0 k1 i1 ST0 X2 X1 B1
        generalize w2.drewN q = w3 at *
        have k1 := x3.c1
        have X3 := Go.Lib.hid x3
        have H3 := Go.Lib.hid (H.out.below B3.out)
        have HV3 := Go.Lib.hid (fun w' (c : Ch (S.wr g) w3 w') => HV.out w' ((Ch.of_below B3.out).trans (c.wide fun _ hk => .inl hk)))
        have S0 := Go.Lib.hid (show ∃ Sj dj, Step w3 w3 g S d es Sj dj (es ++ bes.take 0) from ⟨S, d, by rw [List.take_zero, List.append_nil]; exact Step.below H3.out (Below.refl _ _)⟩)
        clear x3 hv
        go_upto_region 6 with (fail)
        go_wp2_with fail
        go_loopw [22] (fun i wr => ∃ j : Nat, i = .int .i64 (j : Int) ∧ j ≤ n ∧ Hid (∃ Sj dj, Step w3 wr g S d es Sj dj (es ++ bes.take j))) (fun i _ => n - (intOf i).toNat)
        case atStart => exact ⟨0, rfl, Nat.zero_le _, S0⟩
        case round =>
          obtain ⟨j, rfl, hj, HS⟩ := hrel
          clear S0 k1
          obtain ⟨Sj, dj, st⟩ := HS.out
          have ST := Go.Lib.hid st
          clear HS
          by_cases hlt : j < n
          · have hj2 : j < bes.length := by rw [HLN.out]; exact hlt
            obtain ⟨b, o, rfl, hltb, kc⟩ := (HV3.out wr st.ch).at_ (by omega)
            obtain ⟨T, nT, cT, Y, nY, cY, x0, x1, x2, x3, rT, rY⟩ := kc j hlt
            have hev := ev_all (fun w' (c : Ch (Sj.wr g) wr w') => HV3.out w' (st.ch.trans (c.wide fun k hk => st.fw k hk))) hltb hlt x2 x3
            have hmem := evsGet hj2
            have he0 := (mayEs_zero bes).1 (by
              have := (mayX_zero _).1 HM.out
              exact (mayEs_zero bes).2 this.2.2.1) _ hmem
            have hfit := may_fit he0
            have heo := HOK.out.evs _ hmem
            have htk := evsTake bes j hj2
            have hle2 : (es ++ bes.take j).length < 400 := by rw [List.length_append, List.length_take]; omega
            have hsz : ∀ x ∈ es ++ bes.take j, x.s.size ≤ maxLen := fun x hx => by
              rcases List.mem_append.1 hx with hx | hx
              · exact logOk_size LO.out x hx
              · exact (may_fit ((mayEs_zero bes).1 ((mayEs_zero bes).2 ((mayX_zero _).1 HM.out).2.2.1) x (List.mem_of_mem_take hx))).1
            generalize bes.getD j noEv = ev at *
            have al : Below wr.heap.size wr (wr.alloc (.cells #[.string ev.s, .string ev.t, .slice T nT cT, .slice Y nY cY] 42)) := (Below.refl _ _).alloc (Nat.le_refl _) _
            have x4 := EvAt.new wr (.string ev.s) (.string ev.t) (.slice T nT cT) (.slice Y nY cY)
            have i1 : (j : Int) < n := by omega
            have CA := Go.Lib.hid (add1_any (st.id.below al) hle2 hsz (fun w' c => hev w' ((Ch.of_below al).trans (c.wide fun _ hk => .inl hk))) heo (by omega) (by omega))
            have AL := Go.Lib.hid al
            have HTK := Go.Lib.hid htk
            clear kc rT rY hev hmem he0 hfit heo htk hle2 hsz al st
            go_upto_region 9 with (fail)
            generalize wr.alloc (.cells #[.string ev.s, .string ev.t, .slice T nT cT, .slice Y nY cY] 42) = w4 at *
            have y0 := x4.c0
            have y1 := x4.c1
            have y2 := x4.c2
            have y3 := x4.c3
            clear x0 x1 x2 x3 x4
            go_wp2_with (first | (go_at_call 17; refine (CA.out).mono ?_; rintro r w5 ⟨rfl, S5, d5, st5⟩; have ST5 := Go.Lib.hid st5; clear st5))
            go_roundw
            case rel => exact ⟨j + 1, by go_num, by omega, Go.Lib.hid ⟨S5, d5, by rw [HTK.out, ← List.append_assoc]; exact ST.out.trans ((Step.below ST.out.id AL.out).trans ST5.out)⟩⟩
            case measure => simp [intOf]; omega
          · obtain rfl : n = j := by omega
            have i1 : ¬ (n : Int) < n := by omega
            have he : bes.take n = bes := List.take_of_length_le (by rw [HLN.out]; exact Nat.le_refl _)
            rw [he] at st ST
            have hlen : (es ++ bes).length = es.length + bes.length := List.length_append
            have x5 := (st.ch.block _ hgt HNW.out).trans X3.out
            obtain ⟨A2, n2, c2, e2, r2, _⟩ := st.id.rl.rd
            have hn2 := st.id.rl.len e2
            have bx := st.id.bx
            rw [e2] at bx
            have hle : es.length ≤ n2 := by omega
            have qs := slice_loR A2 (c := c2) hle
            have r3 := r2.cut hle
            have hdrop : (recF (es ++ bes)).drop es.length = newR es bes := by
              rw [rec_more, ← rec_len es, List.drop_left]
            rw [hdrop] at r3
            have hmz := (mayX_zero _).1 HM.out
            have hfit : RcsFit (newR es bes) := fun r hr => by
              have hlo : LogOk (es ++ bes) := ⟨by omega, fun x hx => by
                rcases List.mem_append.1 hx with hx | hx
                · exact LO.out.2 x hx
                · exact hmz.2.2.1 x hx⟩
              exact logOk_fit hlo r (by rw [rec_more]; exact List.mem_append_right _ hr)
            have hb16 : n2 - es.length ≤ 1000 := by have := hmz.2.1; simp only at this; omega
            have bq : ∀ q, Below wr.heap.size wr (wr.drewN q) := fun q => ⟨rfl, rfl, rfl, Nat.le_refl _, fun _ _ => rfl⟩
            have CC := Go.Lib.hid (fun q => copies_any _ (n2 - es.length) (c2 - es.length) (newR es bes) (wr.drewN q) (r3.drewN q) hb16 hfit)
            have BQ := Go.Lib.hid bq
            have kR := bx.c0
            have kQ : ∀ q, (wr.drewN q).cell? ⟨g, 0, none⟩ = some (.slice A2 n2 c2) := fun q => bx.c0
            have kA : wr.cell? ⟨w.heap.size, 0, none⟩ = some (.int .i64 (es.length : Nat)) := by rw [cell_of_row wr _ 0 _ _ _ x5]; rfl
            have kB : ∀ q, (wr.drewN q).cell? ⟨w.heap.size, 0, none⟩ = some (.int .i64 (es.length : Nat)) := fun q => kA
            have HX := Go.Lib.hid bx
            have X5 := Go.Lib.hid x5
            clear bx x5 e2 r2 hn2 r3 hdrop hfit hb16 bq hlen st hlt hj he
            generalize (if c2 = es.length then A2 else A2.map (·.add (es.length * 6))) = A3 at *
            have HES := Go.Lib.hid (show ∃ z, z = es.length from ⟨_, rfl⟩)
            go_wp2_with fail
            go_upto_region 11 with (fail)
            go_region_held (fun w' => w'.cell? ⟨g, 0, none⟩ = some (.slice A2 n2 c2) ∧ w'.cell? ⟨w.heap.size, 0, none⟩ = some (.int .i64 (es.length : Nat)))
              (first | exact ⟨kR, kA⟩ | exact ⟨kQ _, kB _⟩ | exact ⟨y6, z6⟩)
              (first | (go_at_call 18; refine (CC.out _).mono ?_; rintro e w6 HE; obtain ⟨g6, n6, rfl, h6⟩ := id HE; have b7 := (BQ.out _).trans h6.2.2.2; have y6 := (HX.out.below b7).c0; have z6 := bcell b7 kA; have HEH := Go.Lib.hid HE; have B7 := Go.Lib.hid b7; clear h6 HE b7))
            all_goals
              go_wp2_with fail
              go_ret2
              obtain ⟨B, m, c, e1, th, _⟩ := HEH.out.thing
              injection e1 with e1
              injection e1 with a1 a2 a3
              subst a1 a2 a3
              exact ⟨_, _, _, wr, Sj, dj, by rw [HY.out]; rfl, by rw [HY.out]; exact (Step.below H.out B3.out).trans ST.out, B7.out, by rw [HY.out]; exact th⟩
    · have HY := Go.Lib.hid (addB_no hm ha)
      have i1 : (xa != (es.length : Int)) = true := by rw [bne_iff_ne]; exact ha
      have HE := Go.Lib.hid (fun q => show AddOut w (w2.drewN q) g S d es ⟨xa, bes⟩ (.returned (.tuple #[.slice none 0 0, .int .i64 1])) by
        refine ⟨none, 0, 0, w2, S, d, by rw [HY.out], by rw [HY.out]; exact ST0.out, bd q, by rw [HY.out]; exact roT_none _ fun k hk => hk.2⟩)
      clear HY hm ha bd
      generalize es.length = ne at *
      go_upto_region 4 with (fail)
      go_quiet (first | (go_at_call 8; exact hlq _))
      go_wp2_with fail
      go_ret2
      exact HE.out _
  · have HY := Go.Lib.hid (addB_bad (es := es) hm)
    have HE := Go.Lib.hid (show AddOut w w2 g S d es ⟨xa, bes⟩ (.returned (.tuple #[.slice none 0 0, .int .i64 (mayX ⟨xa, bes⟩)])) by
      refine ⟨none, 0, 0, w2, S, d, by rw [HY.out], by rw [HY.out]; exact ST0.out, Below.refl _ _, by rw [HY.out]; exact roT_none _ fun k hk => hk.2⟩)
    clear HY x2
    generalize mayX ⟨xa, bes⟩ = M at *
    go_wp2_with fail
    go_ret2
    exact HE.out
end

end Go.Proofs.YtiplfhmimpkplaaGreat.IxWalk

/-
  Contracts of the landed index: New, Stream, Query, Version.
-/
namespace Go.Proofs.YtiplfhmimpkplaaGreat.IxWalk
open Go.RowKit Go.Maps Go.Proofs.YtiplfhmimpkplaaGreat.MemRow Go.Proofs.YtiplfhmimpkplaaGreat.Ev Go.Proofs.YtiplfhmimpkplaaGreat.NameMath Go.Proofs.YtiplfhmimpkplaaGreat.NameWalk Go.Proofs.YtiplfhmimpkplaaGreat.EvWalk Go.Proofs.YtiplfhmimpkplaaGreat.NumMem Go.Proofs.YtiplfhmimpkplaaGreat.Qu Go.Proofs.YtiplfhmimpkplaaGreat.QuWalk Go.Proofs.YtiplfhmimpkplaaGreat.BtWalk Go.Proofs.YtiplfhmimpkplaaGreat.DkWalk Go.Proofs.YtiplfhmimpkplaaGreat.InWalk
open Go.Proofs.YtiplfhmimpkplaaGreat.SmWalk (Tb seqT TOk addF lastP seq_last posF RdI nums allP verN posF_ver)
open Go.Proofs.YtiplfhmimpkplaaGreat.PnWalk (Dt DOf HdT KinC LnC GrewC mapAt LBx find14_any add14p_any clone14p_any)
open Go.Proofs.YtiplfhmimpkplaaGreat.PoWalk (findP)

theorem CopOut.from {w w1 w' : World} {rs : List Rc} {e : Ending} (h : CopOut w1 w' rs e) (hb : Below w.heap.size w w1) : CopOut w w' rs e := by
  obtain ⟨g, n, rfl, h1, h2, h3, h4⟩ := h
  exact ⟨g, n, rfl, Nat.le_trans hb.size h1, h2, h3, below_chain hb h4⟩
def noSets : Sets := ⟨fun _ => False, fun _ => False, fun _ => False, fun _ => False, fun _ => False, fun _ => False, fun _ => False⟩
def noDat : Dat := ⟨none, .map [], fun _ => ⟨0, 0, 0⟩, ⟨[], fun _ => []⟩, none, fun _ => .map [], fun _ => none, none⟩
set_option maxHeartbeats 2000000 in
set_option maxRecDepth 100000 in
theorem new14_any (w : World) : Calls Tryz.prog 5 #[] w fun e w' => e = .returned (.pointer (some ⟨w.heap.size, 0, none⟩)) ∧ IdR w' w.heap.size noSets noDat [] ∧ Below w.heap.size w w' := by
  have b1 : Below w.heap.size w (w.alloc (.cells #[.slice none 0 0, .map none, .int .i64 0, .slice none 0 0, .map none, .map none] 62)) := (Below.refl _ _).alloc (Nat.le_refl _) _
  have x1 := XBx.new w (.slice none 0 0) (.map none) (.int .i64 0) (.slice none 0 0) (.map none) (.map none)
  have HI := Go.Lib.hid (show IdR (w.alloc (.cells #[.slice none 0 0, .map none, .int .i64 0, .slice none 0 0, .map none, .map none] 62)) w.heap.size noSets noDat [] from
    ⟨x1, TbC.empty _ _, LnC.empty _, DOf.nil, .inr ⟨rfl, rfl⟩, fun _ h => h, fun _ h => h.elim, fun _ h => h.elim, fun _ h => h.elim, fun _ h => h.elim, fun _ h => h.elim, fun _ h => h.elim, fun _ h => h.elim, fun _ h => h.elim, fun h => h, fun h => h, fun h => h, fun h => h⟩)
  have B1 := Go.Lib.hid b1
  clear b1 x1
  go_enter Tryz.func5, Tryz.ntmps5
  go_wp2_with fail
  go_ret
  exact ⟨rfl, HI.out, B1.out⟩
section
variable {w : World} {g : Nat} {S : Sets} {d : Dat} {es : List Ev}
set_option maxHeartbeats 4000000 in
set_option maxRecDepth 100000 in
theorem ver14_any (h : IdR w g S d es) (lo : LogOk es) {s : ByteArray} (hs : s.size ≤ maxLen) (u : Int) :
    Calls Tryz.prog 13 #[.pointer (some ⟨g, 0, none⟩), .string s, .int .i64 u] w fun e w' => e = .returned (.int .i64 ((strF es s u).length : Nat)) ∧ ∃ q, w' = w.drewN q := by
  have ok := tab_ok lo.1 (logOk_size lo)
  have CV := Go.Lib.hid (ver14s_any h.bx h.st ok hs u)
  have HL := Go.Lib.hid (show verN (allP (seqT (strs es)) s) u = (strF es s u).length by rw [str_len, posF_ver ok.rise])
  clear h lo ok
  generalize verN (allP (seqT (strs es)) s) u = a at *
  generalize (strF es s u).length = b at *
  obtain rfl := HL.out
  go_enter Tryz.func13, Tryz.ntmps13
  go_wp2_with (first | (go_at_call 30; refine (CV.out).mono ?_; rintro e w2 ⟨rfl, q, rfl⟩))
  go_ret
  exact ⟨rfl, _, rfl⟩
set_option maxHeartbeats 4000000 in
set_option maxRecDepth 100000 in
theorem str14_any (h : IdR w g S d es) (lo : LogOk es) {s : ByteArray} (hs : s.size ≤ maxLen) (u : Int) :
    Calls Tryz.prog 25 #[.pointer (some ⟨g, 0, none⟩), .string s, .int .i64 u] w fun e w' => CopOut w w' (strF es s u) e := by
  have ok := tab_ok lo.1 (logOk_size lo)
  have CP := Go.Lib.hid (pos14s_any h.bx h.st ok hs u)
  have hlen : (posF (seqT (strs es)) s u).length ≤ 400 := by rw [← str_len]; exact Nat.le_trans (tell_len _ _ _) lo.1
  have CA := Go.Lib.hid (fun (w2 : World) (B : Option Addr) (m c : Nat) (b2 : Below w.heap.size w w2) (r : RdI w2 B m c (posF (seqT (strs es)) s u)) => at_any B m c _ w2 (h.below b2).bx (h.below b2).rl r (fun p hp => str_in hp) (by have := RdI.len r; omega) (Nat.le_trans lo.1 (by decide)) (logOk_fit lo))
  rw [← str_by] at CA
  clear h lo ok hlen
  go_enter Tryz.func25, Tryz.ntmps25
  go_wp2_with (first
    | (go_at_call 41; refine (CP.out).mono ?_; rintro e w2 ⟨B, m, c, rfl, r2, _, b2⟩; have CA2 := Go.Lib.hid (CA.out w2 B m c b2 r2); clear r2)
    | (go_at_call 40; refine (CA2.out).mono ?_; rintro e w3 HE; obtain ⟨g6, n6, rfl, h6⟩ := id HE; have HEH := Go.Lib.hid HE; clear h6 HE))
  go_ret
  exact HEH.out.from b2
set_option maxHeartbeats 4000000 in
set_option maxRecDepth 100000 in
theorem qry14_any (h : IdR w g S d es) (lo : LogOk es) {v : Value} {q : List Cl} (hq : IsQ w v q) (hf : QFew q) (u : Int) :
    Calls Tryz.prog 26 #[.pointer (some ⟨g, 0, none⟩), v, .int .i64 u] w fun e w' => CopOut w w' (qryF es q u) e := by
  obtain ⟨C, nq, cq, rfl, rq⟩ := hq
  have b1 : Below w.heap.size w (w.alloc (.cells #[.slice C nq cq] 25)) := (Below.refl _ _).alloc (Nat.le_refl _) _
  have x1 := heap_alloc_new w (.cells #[.slice C nq cq] 25)
  have h1 := h.below b1
  have rq1 := rq.below b1
  have k0 : (w.alloc (.cells #[.slice C nq cq] 25)).cell? ⟨w.heap.size, 0, none⟩ = some (.slice C nq cq) := by rw [cell_of_row _ _ 0 _ _ _ x1]; rfl
  have B1 := Go.Lib.hid b1
  clear h rq b1 x1
  go_enter Tryz.func26, Tryz.ntmps26
  go_upto_region 1 with (fail)
  generalize w.alloc (.cells #[.slice C nq cq] 25) = w1 at *
  have bq : ∀ k, Below w1.heap.size w1 (w1.drewN k) := fun k => ⟨rfl, rfl, rfl, Nat.le_refl _, fun _ _ => rfl⟩
  have hlen : (findP (logL es) q u).length ≤ 400 := by rw [← qry_pos, List.length_map]; exact Nat.le_trans (tell_len _ _ _) lo.1
  have CF := Go.Lib.hid (fun k => find14_any (h1.below (bq k)).bx (h1.below (bq k)).ln h1.dof (logL_ok lo.1) (v := .agg #[.slice C nq cq]) ⟨C, nq, cq, rfl, rq1.below (bq k)⟩ hf.1 hf.2.2 u)
  have CA := Go.Lib.hid (fun (w2 : World) (B : Option Addr) (m c : Nat) (b2 : Below w1.heap.size w1 w2) (r : RdI w2 B m c (findP (logL es) q u)) => at_any B m c _ w2 (h1.below b2).bx (h1.below b2).rl r (fun p hp => qry_in hp) (by have := RdI.len r; omega) (Nat.le_trans lo.1 (by decide)) (logOk_fit lo))
  rw [← qry_by] at CA
  have kq : ∀ k, (w1.drewN k).cell? ⟨w.heap.size, 0, none⟩ = some (.slice C nq cq) := fun k => k0
  have BQ := Go.Lib.hid bq
  clear h1 rq1 bq hlen
  go_region_held (fun w' => w'.cell? ⟨w.heap.size, 0, none⟩ = some (.slice C nq cq))
    (first | exact k0 | exact kq _ | exact y2 | exact y3)
    (first
      | (go_at_call 42; refine (CF.out _).mono ?_; rintro e w2 ⟨B, m, c, rfl, o2, b2⟩; have b3 := (BQ.out _).trans b2; have y2 := bcell b3 k0; have CA2 := Go.Lib.hid (CA.out w2 B m c b3 (OwnC.rd o2)); have B3 := Go.Lib.hid b3; clear o2 b2 b3)
      | (go_at_call 40; refine (CA2.out).mono ?_; rintro e w3 HE; obtain ⟨g6, n6, rfl, h6⟩ := id HE; have y3 := bcell h6.2.2.2 y2; have HEH := Go.Lib.hid HE; clear h6 HE))
  all_goals
    go_wp2_with fail
    go_ret
    exact HEH.out.from (below_chain B1.out B3.out)
end

end Go.Proofs.YtiplfhmimpkplaaGreat.IxWalk

/-
  Contracts of the landed index: Clone.
-/
namespace Go.Proofs.YtiplfhmimpkplaaGreat.IxWalk
open Go.RowKit Go.Maps Go.Proofs.YtiplfhmimpkplaaGreat.MemRow Go.Proofs.YtiplfhmimpkplaaGreat.Ev Go.Proofs.YtiplfhmimpkplaaGreat.NameMath Go.Proofs.YtiplfhmimpkplaaGreat.NameWalk Go.Proofs.YtiplfhmimpkplaaGreat.EvWalk Go.Proofs.YtiplfhmimpkplaaGreat.NumMem Go.Proofs.YtiplfhmimpkplaaGreat.Qu Go.Proofs.YtiplfhmimpkplaaGreat.QuWalk Go.Proofs.YtiplfhmimpkplaaGreat.BtWalk Go.Proofs.YtiplfhmimpkplaaGreat.DkWalk Go.Proofs.YtiplfhmimpkplaaGreat.InWalk Go.Proofs.YtiplfhmimpkplaaGreat.HeldAt
open Go.Proofs.YtiplfhmimpkplaaGreat.SmWalk (Tb seqT TOk addF lastP seq_last fullH)
open Go.Proofs.YtiplfhmimpkplaaGreat.PnWalk (Dt DOf HdT KinC fullO full_room LnC GrewC mapAt LBx find14_any add14p_any clone14p_any)

/-- A list without room. -/
def fullX : Option Hx → Option Hx
  | some h => some ⟨h.b, h.n, h.n⟩
  | none => none
set_option maxRecDepth 100000 in
/-- v[:n:n] -/
theorem slice_fullX (A : Option Addr) (n c : Nat) (hc : n ≤ c) (hA : A = none → n = 0) (h0 : ∀ a, A = some a → a = ⟨a.block, 0, none⟩) (W : World) : (Instr.slice 32 (.slice A n c) none (some (.int .i64 (n : Int))) (some (.int .i64 (n : Int)))).run Tryz.prog W = .ok (.slice A n n) W := by
  have hu : Tryz.prog.underlying 32 = some (.slice (Tryz.prog.elem 32)) := by rw [elem_recs]; exact Tryz.underlying32
  rw [run_slice_hm (P := Tryz.prog) W 32 _ n c hu .i64 .i64 (n : Int) (n : Int) (by omega) (by omega) (by omega), elem_recs, run_size (k := 6) (by kernel_rfl)]
  simp only [Result.andThen, sliced, Int.toNat_natCast, Nat.zero_mul, Nat.sub_zero]
  cases A with
  | none => simp
  | some a =>
    have e := h0 a rfl
    rw [e]
    simp only [Option.map_some, Addr.add]
    congr 2
    split <;> rfl
set_option maxRecDepth 100000 in
theorem OldR.full {w : World} {F G W : Nat → Prop} {old : Option Hx} {rs : List Rc} (o : OldR w F G W old rs) : ∃ A n c, mkX old = .slice A n c ∧ mkX (fullX old) = .slice A n n ∧ n ≤ c ∧ (A = none → n = 0) ∧ (∀ a, A = some a → a = ⟨a.block, 0, none⟩) := by
  rcases o with ⟨h, rfl, r⟩ | ⟨rfl, rfl⟩
  · exact ⟨_, _, _, rfl, rfl, r.le, (fun e => by cases e), (fun a e => by injection e with e; rw [← e])⟩
  · exact ⟨none, 0, 0, rfl, rfl, Nat.le_refl _, (fun _ => rfl), (fun a e => by cases e)⟩
set_option maxRecDepth 100000 in
theorem OldR.fullr {w : World} {F F' G W : Nat → Prop} {old : Option Hx} {rs : List Rc} (o : OldR w F G W old rs) : OldR w F' G W (fullX old) rs := by
  rcases o with ⟨h, rfl, r⟩ | ⟨rfl, rfl⟩
  · obtain ⟨cur, e1, e2⟩ := r.ex
    have := r.le
    have := r.cap
    exact .inl ⟨_, rfl, ⟨⟨cur, e1, by simp only; omega⟩, r.rc, r.len, r.pos, Nat.le_refl _, by simp only; omega, fun hx => absurd hx (Nat.lt_irrefl _), r.gb⟩⟩
  · exact .inr ⟨rfl, rfl⟩
set_option maxRecDepth 100000 in
theorem dof_les {D : Dt} {es : List Ev} (d : DOf D (logL es)) (h : es.length ≤ 400) (b : Bool) : (D.t b).length ≤ 1000000 := by
  have hl := logL_len es
  cases b
  · have := d.tl
    omega
  · have := d.yl
    omega
/-- The blocks that came between two worlds. -/
abbrev btw (a b : World) (k : Nat) : Prop := a.heap.size ≤ k ∧ k < b.heap.size
/-- An index and its copy. -/
def CloneOut (w w' : World) (g : Nat) (S : Sets) (d : Dat) (es : List Ev) (e : Ending) : Prop :=
  ∃ g2 S1 S2 d2, e = .returned (.pointer (some ⟨g2, 0, none⟩)) ∧ Below w.heap.size w w' ∧ w.heap.size ≤ g2 ∧ IdR w' g S1 d es ∧ IdR w' g2 S2 d2 es ∧ Rel S1 d es S2 d2 es ∧ (∀ k, S1.all g k → up (S.all g) w w' k) ∧ (∀ k, S2.all g2 k → up (S.all g) w w' k)
section
variable {w wa wb wc wd wf : World} {g g2 mb2 : Nat} {S : Sets} {d : Dat} {es : List Ev} {M2 : DataW SmWalk.Hr} {f2 : Bool → Nat} {Mp2 : Bool → DataW PnWalk.Hr}
set_option maxRecDepth 100000 in
set_option maxHeartbeats 2000000 in
theorem clone_of (h : IdR w g S d es) (ba : Below w.heap.size w wa) (bab : Below wa.heap.size wa wb) (bbf : Below wb.heap.size wb wf) (bc : Below w.heap.size w wc) (bcd : Below wc.heap.size wc wd) (bdf : Below wd.heap.size wd wf) (dis : wb.heap.size ≤ wc.heap.size ∨ wd.heap.size ≤ wa.heap.size)
    (st : TbC wb (btw wa wb) (up S.Gs wa wb) (seqT (strs es)) (some mb2) M2 (fullH d.hd)) (ln : LnC wd (btw wc wd) (up S.Gp wc wd) d.D (some f2) Mp2 (fun k => fullO (d.hp k)))
    (hg1 : wb.heap.size ≤ g2) (hg2 : wd.heap.size ≤ g2) (bx : XBx wf g2 (mkX (fullX d.old)) (.map (some mb2)) (.int .i64 (es.length : Nat)) (PnWalk.mkL (fullO (d.hp none))) (.map (some (f2 false))) (.map (some (f2 true)))) :
    CloneOut w wf g S d es (.returned (.pointer (some ⟨g2, 0, none⟩))) := by
  have hb := (ba.trans (bab.mono ba.size)).trans (bbf.mono (Nat.le_trans ba.size bab.size))
  have z1 := ba.size
  have z2 := bab.size
  have z3 := bbf.size
  have z4 := bc.size
  have z5 := bcd.size
  have z6 := bdf.size
  have hw := h.below hb
  have lts := h.st.lt
  have ltp := h.ln.lt
  have ltr := h.ltr
  have ltw := h.ltw
  have gl := h.bx.lt
  have g2l := bx.lt
  have sp : ∀ k, up S.Gs wa wb k → ¬ up S.Gp wc wd k := fun k hk hk2 => by
    rcases hk with hk | hk <;> rcases hk2 with hk2 | hk2
    · exact h.sp k hk hk2
    · have := lts k hk; omega
    · have := ltp k hk2; omega
    · omega
  have sr : ∀ k, up S.Gs wa wb k → ¬ S.Gr k := fun k hk hk2 => by
    rcases hk with hk | hk
    · exact h.sr k hk hk2
    · have := ltr k hk2; omega
  have sw : ∀ k, up S.Gs wa wb k → ¬ S.W k := fun k hk hk2 => by
    rcases hk with hk | hk
    · exact h.sw k hk hk2
    · have := ltw k hk2; omega
  have pr : ∀ k, up S.Gp wc wd k → ¬ S.Gr k := fun k hk hk2 => by
    rcases hk with hk | hk
    · exact h.pr k hk hk2
    · have := ltr k hk2; omega
  have pw : ∀ k, up S.Gp wc wd k → ¬ S.W k := fun k hk hk2 => by
    rcases hk with hk | hk
    · exact h.pw k hk hk2
    · have := ltw k hk2; omega
  have gsl : ∀ k, up S.Gs wa wb k → k < wf.heap.size := fun k hk => by rcases hk with hk | hk; (have := lts k hk; omega); (have := hk.2; omega)
  have gpl : ∀ k, up S.Gp wc wd k → k < wf.heap.size := fun k hk => by rcases hk with hk | hk; (have := ltp k hk; omega); (have := hk.2; omega)
  refine ⟨g2, ⟨S.Fs, up S.Gs wa wb, S.Fp, up S.Gp wc wd, S.Fr, S.Gr, S.W⟩, ⟨btw wa wb, up S.Gs wa wb, btw wc wd, up S.Gp wc wd, fun _ => False, S.Gr, S.W⟩, ⟨some mb2, M2, fullH d.hd, d.D, some f2, Mp2, fun k => fullO (d.hp k), fullX d.old⟩, rfl, hb, by omega, ?_, ?_, ?_, fun k hk => ?_, fun k hk => ?_⟩
  · exact ⟨hw.bx, hw.st.wide (fun _ h => h) (fun _ h => .inl h) (fun k hk => .inl (h.st.fG k hk)) gsl, hw.ln.wide (fun _ h => h) (fun _ h => .inl h) (fun k hk => .inl (h.ln.fG k hk)) gpl, h.dof, hw.rl, h.frg, hw.ltr, hw.ltw, sp, sr, sw, pr, pw, h.rw_,
      fun hk => by rcases hk with hk | hk; exact h.ns hk; omega, fun hk => by rcases hk with hk | hk; exact h.np hk; omega, h.nr, h.nw⟩
  · exact ⟨bx, st.below bbf, ln.below bdf, h.dof, hw.rl.fullr, fun _ h => h.elim, hw.ltr, hw.ltw, sp, sr, sw, pr, pw, h.rw_,
      fun hk => by rcases hk with hk | hk; (have := lts _ hk; omega); omega, fun hk => by rcases hk with hk | hk; (have := ltp _ hk; omega); omega, fun hk => by have := ltr _ hk; omega, fun hk => by have := ltw _ hk; omega⟩
  · refine ⟨rfl, rfl, rfl, rfl, fun k hk hf => by have := lts k (h.st.fG k hk); have := hf.1; omega, fun k hk hf => by have := ltp k (h.ln.fG k hk); have := hf.1; omega, fun _ _ hf => hf, fun s hs t ht hsp e => ?_, fun s hs t ht hsp e => absurd hsp (Nat.lt_irrefl _), fun k k' x x' e1 e2 hsp e => ?_, fun k k' x x' e1 _ hsp _ => absurd hsp (full_room e1), fun x x' e1 e2 hsp e => ?_, fun x x' e1 e2 hsp e => ?_⟩
    · by_cases est : t = s
      · subst est
        exact Nat.le_refl _
      · exact absurd e (h.st.apart s hs t ht est hsp)
    · have e2 : fullO (d.hp k') = some x' := e2
      cases hk' : d.hp k' with
      | none => rw [hk'] at e2; cases e2
      | some y =>
        rw [hk'] at e2
        injection e2 with e2
        subst e2
        by_cases ek : k' = k
        · subst ek
          rw [hk'] at e1
          injection e1 with e1
          subst e1
          exact Nat.le_refl _
        · exact absurd e (h.ln.co.apart k k' x y ek e1 hk' hsp)
    · have e2 : fullX d.old = some x' := e2
      have e1 : d.old = some x := e1
      rw [e1] at e2
      injection e2 with e2
      subst e2
      exact Nat.le_refl _
    · have e1 : fullX d.old = some x := e1
      cases hk' : d.old with
      | none => rw [hk'] at e1; cases e1
      | some y =>
        rw [hk'] at e1
        injection e1 with e1
        subst e1
        exact absurd hsp (Nat.lt_irrefl _)
  · rcases hk with hk | hk | hk | hk | hk
    · exact .inl (.inl hk)
    · rcases hk with hk | hk
      · exact .inl (.inr (.inl hk))
      · exact .inr ⟨by omega, by have := hk.2; omega⟩
    · rcases hk with hk | hk
      · exact .inl (.inr (.inr (.inl hk)))
      · exact .inr ⟨by omega, by have := hk.2; omega⟩
    · exact .inl (.inr (.inr (.inr (.inl hk))))
    · exact .inl (.inr (.inr (.inr (.inr hk))))
  · rcases hk with hk | hk | hk | hk | hk
    · exact .inr ⟨by omega, by omega⟩
    · rcases hk with hk | hk
      · exact .inl (.inr (.inl hk))
      · exact .inr ⟨by omega, by have := hk.2; omega⟩
    · rcases hk with hk | hk
      · exact .inl (.inr (.inr (.inl hk)))
      · exact .inr ⟨by omega, by have := hk.2; omega⟩
    · exact .inl (.inr (.inr (.inr (.inl hk))))
    · exact .inl (.inr (.inr (.inr (.inr hk))))
end

section
variable {w : World} {g : Nat} {S : Sets} {d : Dat} {es : List Ev}
set_option maxHeartbeats 8000000 in
set_option maxRecDepth 100000 in
theorem clone14_any (h : IdR w g S d es) (lo : LogOk es) :
    Calls Tryz.prog 6 #[.pointer (some ⟨g, 0, none⟩)] w fun e w' => CloneOut w w' g S d es e := by
  obtain ⟨A2, n2, c2, e2, e3, hle, hA, h0⟩ := h.rl.full
  have qs := slice_fullX A2 n2 c2 hle hA h0
  have ok := tab_ok lo.1 (logOk_size lo)
  have CS := Go.Lib.hid (fun W (b : Below w.heap.size w W) => clone14s_any (h.below b).last (h.below b).st ok)
  have CP := Go.Lib.hid (fun W (b : Below w.heap.size w W) => clone14p_any (h.below b).bx (h.below b).ln (dof_les h.dof lo.1))
  have hlast : lastP (seqT (strs es)) = (es.length : Int) := by rw [seq_last, List.length_map]
  rw [hlast] at CS
  have hx := h.bx
  rw [e2] at hx
  have k0 := hx.c0
  have bd : Below w.heap.size w w.drew := ⟨rfl, rfl, rfl, Nat.le_refl _, fun _ _ => rfl⟩
  have FIN := Go.Lib.hid (fun (wa wb wc wd wf : World) (g2 mb2 : Nat) (M2 : DataW SmWalk.Hr) (f2 : Bool → Nat) (Mp2 : Bool → DataW PnWalk.Hr) (ba : Below w.heap.size w wa) (bab : Below wa.heap.size wa wb) (bbf : Below wb.heap.size wb wf) (bc : Below w.heap.size w wc) (bcd : Below wc.heap.size wc wd) (bdf : Below wd.heap.size wd wf) (dis : wb.heap.size ≤ wc.heap.size ∨ wd.heap.size ≤ wa.heap.size) st ln hg1 hg2 (bx : XBx wf g2 (.slice A2 n2 n2) (.map (some mb2)) (.int .i64 (es.length : Nat)) (PnWalk.mkL (fullO (d.hp none))) (.map (some (f2 false))) (.map (some (f2 true)))) => clone_of (g2 := g2) (mb2 := mb2) (M2 := M2) (f2 := f2) (Mp2 := Mp2) h ba bab bbf bc bcd bdf dis st ln hg1 hg2 (by rw [e3]; exact bx))
  have BD := Go.Lib.hid bd
  clear h lo ok hlast hx e2 e3 hle hA h0 bd
  generalize hvl : PnWalk.mkL (fullO (d.hp none)) = vl at *
  generalize es.length = ne at *
  go_enter Tryz.func6, Tryz.ntmps6
  go_upto_region 2 with (fail)
  refine wp_region_held_drew (S := (fun w' => w'.cell? ⟨g, 0, none⟩ = some (.slice A2 n2 c2))) (by kernel_rfl) ?_ (fun hHeld => ?_)
  · exact k0
  refine take_at (i := 0) (d := 9) (v := ?_) rfl rfl (by kernel_rfl) (by kernel_rfl) (by kernel_rfl) (fun _ _ _ h => h) (Or.inl ⟨by rfl, ?hy⟩) (by assumption) ?_
  case hy => (intro wS hSw; (try dsimp only at hSw); first | (go_simp; done) | (go_simp; with_reducible rfl))
  simp only [Act.put, List.setIfInBounds_toArray, List.set_cons_zero, List.set_cons_succ]
  refine take_at (i := 1) (d := 10) (v := ?_) rfl rfl (by kernel_rfl) (by kernel_rfl) (by kernel_rfl) (fun _ _ _ h => h) (Or.inl ⟨by rfl, ?hy⟩) (by assumption) ?_
  case hy => (intro wS hSw; (try dsimp only at hSw); first | (go_simp; done) | (go_simp; with_reducible rfl))
  simp only [Act.put, List.setIfInBounds_toArray, List.set_cons_zero, List.set_cons_succ]
  refine take_at (i := 2) (d := 11) (v := ?_) rfl rfl (by kernel_rfl) (by kernel_rfl) (by kernel_rfl) (fun _ _ _ h => h) (Or.inl ⟨by rfl, ?hy⟩) (by assumption) ?_
  case hy => (intro wS hSw; (try dsimp only at hSw); first | (go_simp; done) | (go_simp; with_reducible rfl))
  simp only [Act.put, List.setIfInBounds_toArray, List.set_cons_zero, List.set_cons_succ]
  refine take_at (i := 3) (d := 12) (v := ?_) rfl rfl (by kernel_rfl) (by kernel_rfl) (by kernel_rfl) (fun _ _ _ h => h) (Or.inl ⟨by rfl, ?hy⟩) (by assumption) ?_
  case hy => (intro wS hSw; (try dsimp only at hSw); first | (go_simp; done) | (go_simp; with_reducible rfl))
  simp only [Act.put, List.setIfInBounds_toArray, List.set_cons_zero, List.set_cons_succ]
  refine take_at (i := 4) (d := 13) (v := ?_) rfl rfl (by kernel_rfl) (by kernel_rfl) (by kernel_rfl) (fun _ _ _ h => h) (Or.inl ⟨by rfl, ?hy⟩) (by assumption) ?_
  case hy => (intro wS hSw; (try dsimp only at hSw); first | (go_simp; done) | (go_simp; with_reducible rfl))
  simp only [Act.put, List.setIfInBounds_toArray, List.set_cons_zero, List.set_cons_succ]
  refine take_at (i := 5) (d := 14) (v := ?_) rfl rfl (by kernel_rfl) (by kernel_rfl) (by kernel_rfl) (fun _ _ _ h => h) (Or.inl ⟨by rfl, ?hy⟩) (by assumption) ?_
  case hy => (intro wS hSw; (try dsimp only at hSw); first | (go_simp; done) | (go_simp; with_reducible rfl))
  simp only [Act.put, List.setIfInBounds_toArray, List.set_cons_zero, List.set_cons_succ]
  refine take_at (i := 6) (d := 15) (v := ?_) rfl rfl (by kernel_rfl) (by kernel_rfl) (by kernel_rfl) (fun _ _ _ h => h) (Or.inl ⟨by rfl, ?hy⟩) (by assumption) ?_
  case hy => (intro wS hSw; (try dsimp only at hSw); first | (go_simp; done) | (go_simp; with_reducible rfl))
  simp only [Act.put, List.setIfInBounds_toArray, List.set_cons_zero, List.set_cons_succ]
  refine take_at (i := 7) (d := 16) (v := ?_) rfl rfl (by kernel_rfl) (by kernel_rfl) (by kernel_rfl) (fun _ _ _ h => h) (Or.inl ⟨by rfl, ?hy⟩) (by assumption) ?_
  case hy => (intro wS hSw; (try dsimp only at hSw); first | (go_simp; done) | (go_simp; with_reducible rfl))
  simp only [Act.put, List.setIfInBounds_toArray, List.set_cons_zero, List.set_cons_succ]
  refine take_at (i := 8) (d := 17) (v := ?_) rfl rfl (by kernel_rfl) (by kernel_rfl) (by kernel_rfl) (fun _ _ _ h => h) (Or.inl ⟨by rfl, ?hy⟩) (by assumption) ?_
  case hy => (intro wS hSw; (try dsimp only at hSw); first | (go_simp; done) | (go_simp; with_reducible rfl))
  simp only [Act.put, List.setIfInBounds_toArray, List.set_cons_zero, List.set_cons_succ]
  refine take_at (i := 9) (d := 18) (v := ?_) rfl rfl (by kernel_rfl) (by kernel_rfl) (by kernel_rfl) (fun _ _ _ h => h) (Or.inl ⟨by rfl, ?hy⟩) (by assumption) ?_
  case hy => (intro wS hSw; (try dsimp only at hSw); first | (go_simp; done) | (go_simp; with_reducible rfl))
  simp only [Act.put, List.setIfInBounds_toArray, List.set_cons_zero, List.set_cons_succ]
  refine take_at (i := 13) (d := 22) (v := ?_) rfl rfl (by kernel_rfl) (by kernel_rfl) (by kernel_rfl) (fun _ _ _ h => h) (Or.inl ⟨by rfl, ?hy⟩) (by assumption) ?_
  case hy => (intro wS hSw; (try dsimp only at hSw); first | (go_simp; done) | (go_simp; with_reducible rfl))
  simp only [Act.put, List.setIfInBounds_toArray, List.set_cons_zero, List.set_cons_succ]
  refine take_at (i := 14) (d := 23) (v := ?_) rfl rfl (by kernel_rfl) (by kernel_rfl) (by kernel_rfl) (fun _ _ _ h => h) (Or.inl ⟨by rfl, ?hy⟩) (by assumption) ?_
  case hy => (intro wS hSw; (try dsimp only at hSw); first | (go_simp; done) | (go_simp; with_reducible rfl))
  simp only [Act.put, List.setIfInBounds_toArray, List.set_cons_zero, List.set_cons_succ]
  refine take_at (i := 15) (d := 24) (v := ?_) rfl rfl (by kernel_rfl) (by kernel_rfl) (by kernel_rfl) (fun _ _ _ h => h) (Or.inl ⟨by rfl, ?hy⟩) (by assumption) ?_
  case hy => (intro wS hSw; (try dsimp only at hSw); first | (go_simp; done) | (go_simp; with_reducible rfl))
  simp only [Act.put, List.setIfInBounds_toArray, List.set_cons_zero, List.set_cons_succ]
  -- THE WAYS
  refine wpAnyH_ready (rs := [10]) (by kernel_rfl) (by simp) ?_
  refine AllReadyH.cons rfl (fun Ks hKs => ?_) AllReadyH.nil
  go_simp
  go_wp2_with (first | (go_at_call 14; refine (CS.out _ BD.out).mono ?_; rintro e w5 ⟨gs, rfl, b5, mb2, M2, hgs, st5⟩))
  have BS := Go.Lib.hid (below_chain BD.out b5)
  have ys := bcell BS.out k0
  have s0 : w5.cell? ⟨gs, 0, none⟩ = some (.map (some mb2)) := by rw [cell_of_row w5 gs 0 _ _ _ hgs]; rfl
  have s1 : w5.cell? ⟨gs, 1, none⟩ = some (.int .i64 (ne : Nat)) := by rw [cell_of_row w5 gs 1 _ _ _ hgs]; rfl
  have ST5 := Go.Lib.hid (And.intro b5 st5)
  refine hKs.out _ _ ?_ (fun hH => ?_)
  · exact ys
  clear hKs Ks st5 hH
  refine wpAnyH_more (S' := (fun (w' : World) => (w'.cell? ⟨g, 0, none⟩ = some (.slice A2 n2 c2)) ∧ w'.cell? ⟨gs, 0, none⟩ = some (.map (some mb2)) ∧ w'.cell? ⟨gs, 1, none⟩ = some (.int .i64 (ne : Nat)))) (fun _ h => h.1) ?_
  have hStrs : (fun (w' : World) => (w'.cell? ⟨g, 0, none⟩ = some (.slice A2 n2 c2)) ∧ w'.cell? ⟨gs, 0, none⟩ = some (.map (some mb2)) ∧ w'.cell? ⟨gs, 1, none⟩ = some (.int .i64 (ne : Nat))) w5 := ⟨ys, s0, s1⟩
  refine take_at (i := 11) (d := 20) (v := ?_) rfl rfl (by kernel_rfl) (by kernel_rfl) (by kernel_rfl) (fun _ _ _ h => h) (Or.inl ⟨by rfl, ?hy⟩) (by assumption) ?_
  case hy => (intro wS hSw; (try dsimp only at hSw); first | (go_simp; done) | (go_simp; with_reducible rfl))
  simp only [Act.put, List.setIfInBounds_toArray, List.set_cons_zero, List.set_cons_succ]
  refine take_at (i := 12) (d := 21) (v := ?_) rfl rfl (by kernel_rfl) (by kernel_rfl) (by kernel_rfl) (fun _ _ _ h => h) (Or.inl ⟨by rfl, ?hy⟩) (by assumption) ?_
  case hy => (intro wS hSw; (try dsimp only at hSw); first | (go_simp; done) | (go_simp; with_reducible rfl))
  simp only [Act.put, List.setIfInBounds_toArray, List.set_cons_zero, List.set_cons_succ]
  refine wpAnyH_ready (rs := [16]) (by kernel_rfl) (by simp) ?_
  refine AllReadyH.cons rfl (fun Kp hKp => ?_) AllReadyH.nil
  go_simp
  go_wp2_with (first | (go_at_call 15; refine (CP.out _ BS.out).mono ?_; rintro e w6 ⟨gp, rfl, b6, f2, Mp2, hgp, ln6⟩))
  have BP := Go.Lib.hid (below_chain BS.out b6)
  have yp := bcell BP.out k0
  have p0 : w6.cell? ⟨gp, 0, none⟩ = some vl := by rw [cell_of_row w6 gp 0 _ _ _ hgp]; rfl
  have p1 : w6.cell? ⟨gp, 1, none⟩ = some (.map (some (f2 false))) := by rw [cell_of_row w6 gp 1 _ _ _ hgp]; rfl
  have p2 : w6.cell? ⟨gp, 2, none⟩ = some (.map (some (f2 true))) := by rw [cell_of_row w6 gp 2 _ _ _ hgp]; rfl
  have LN6 := Go.Lib.hid (And.intro b6 ln6)
  refine hKp.out _ _ ?_ (fun hH => ?_)
  · exact ⟨yp, bcell b6 s0, bcell b6 s1⟩
  clear hKp Kp ln6 hH
  refine wpAnyH_more (S' := (fun (w' : World) => (w'.cell? ⟨g, 0, none⟩ = some (.slice A2 n2 c2) ∧ w'.cell? ⟨gs, 0, none⟩ = some (.map (some mb2)) ∧ w'.cell? ⟨gs, 1, none⟩ = some (.int .i64 (ne : Nat))) ∧ w'.cell? ⟨gp, 0, none⟩ = some vl ∧ w'.cell? ⟨gp, 1, none⟩ = some (.map (some (f2 false))) ∧ w'.cell? ⟨gp, 2, none⟩ = some (.map (some (f2 true))))) (fun _ h => h.1) ?_
  have hStrp : (fun (w' : World) => (w'.cell? ⟨g, 0, none⟩ = some (.slice A2 n2 c2) ∧ w'.cell? ⟨gs, 0, none⟩ = some (.map (some mb2)) ∧ w'.cell? ⟨gs, 1, none⟩ = some (.int .i64 (ne : Nat))) ∧ w'.cell? ⟨gp, 0, none⟩ = some vl ∧ w'.cell? ⟨gp, 1, none⟩ = some (.map (some (f2 false))) ∧ w'.cell? ⟨gp, 2, none⟩ = some (.map (some (f2 true)))) w6 := ⟨⟨yp, bcell b6 s0, bcell b6 s1⟩, p0, p1, p2⟩
  refine take_at (i := 17) (d := 26) (v := ?_) rfl rfl (by kernel_rfl) (by kernel_rfl) (by kernel_rfl) (fun _ _ _ h => h) (Or.inl ⟨by rfl, ?hy⟩) (by assumption) ?_
  case hy => (intro wS hSw; (try dsimp only at hSw); first | (go_simp; done) | (go_simp; with_reducible rfl))
  simp only [Act.put, List.setIfInBounds_toArray, List.set_cons_zero, List.set_cons_succ]
  refine take_at (i := 18) (d := 27) (v := ?_) rfl rfl (by kernel_rfl) (by kernel_rfl) (by kernel_rfl) (fun _ _ _ h => h) (Or.inl ⟨by rfl, ?hy⟩) (by assumption) ?_
  case hy => (intro wS hSw; (try dsimp only at hSw); first | (go_simp; done) | (go_simp; with_reducible rfl))
  simp only [Act.put, List.setIfInBounds_toArray, List.set_cons_zero, List.set_cons_succ]
  refine take_at (i := 19) (d := 28) (v := ?_) rfl rfl (by kernel_rfl) (by kernel_rfl) (by kernel_rfl) (fun _ _ _ h => h) (Or.inl ⟨by rfl, ?hy⟩) (by assumption) ?_
  case hy => (intro wS hSw; (try dsimp only at hSw); first | (go_simp; done) | (go_simp; with_reducible rfl))
  simp only [Act.put, List.setIfInBounds_toArray, List.set_cons_zero, List.set_cons_succ]
  have al := (Below.refl w6.heap.size w6).alloc (Nat.le_refl _) (.cells #[.slice A2 n2 n2, .map (some mb2), .int .i64 (ne : Nat), vl, .map (some (f2 false)), .map (some (f2 true))] 62)
  have xn := XBx.new w6 (.slice A2 n2 n2) (.map (some mb2)) (.int .i64 (ne : Nat)) vl (.map (some (f2 false))) (.map (some (f2 true)))
  refine wpAnyH_ready (rs := [20]) (by kernel_rfl) (by simp) ?_
  refine AllReadyH.cons rfl (fun KB hKB => ?_) AllReadyH.nil
  go_simp
  refine hKB.out _ _ ?_ (fun hHB => ?_)
  · exact ⟨⟨bcell al yp, bcell al (bcell b6 s0), bcell al (bcell b6 s1)⟩, bcell al p0, bcell al p1, bcell al p2⟩
  clear hKB KB
  refine take_at (i := 21) (d := 2) (v := ?_) rfl rfl (by kernel_rfl) (by kernel_rfl) (by kernel_rfl) (fun _ _ _ h => h) (Or.inl ⟨by rfl, ?hy⟩) (by assumption) ?_
  case hy => (intro wS hSw; (try dsimp only at hSw); first | (go_simp; done) | (go_simp; with_reducible rfl))
  simp only [Act.put, List.setIfInBounds_toArray, List.set_cons_zero, List.set_cons_succ]
  refine wpAnyH_done (by kernel_rfl) ?_ _
  go_wp2_with fail
  go_ret
  exact FIN.out w.drew w5 w5 w6 _ _ _ M2 f2 Mp2 BD.out b5 (below_chain b6 al) BS.out b6 al (.inl (Nat.le_refl _)) ST5.out.2 LN6.out.2 b6.size (Nat.le_refl _) xn
end

end Go.Proofs.YtiplfhmimpkplaaGreat.IxWalk

/-
  The landed index is as it is asked to be.
-/
namespace Go.Proofs.YtiplfhmimpkplaaGreat.IxWalk
open Go.RowKit Go.Maps Go.Proofs.YtiplfhmimpkplaaGreat.MemRow Go.Proofs.YtiplfhmimpkplaaGreat.Ev Go.Proofs.YtiplfhmimpkplaaGreat.NameMath Go.Proofs.YtiplfhmimpkplaaGreat.NameWalk Go.Proofs.YtiplfhmimpkplaaGreat.EvWalk Go.Proofs.YtiplfhmimpkplaaGreat.NumMem Go.Proofs.YtiplfhmimpkplaaGreat.Qu Go.Proofs.YtiplfhmimpkplaaGreat.QuWalk Go.Proofs.YtiplfhmimpkplaaGreat.BtWalk Go.Proofs.YtiplfhmimpkplaaGreat.DkWalk Go.Proofs.YtiplfhmimpkplaaGreat.InWalk

def IxT (g : Nat) (es : List Ev) : Thing := fun w G => ∃ S d, IdR w g S d es ∧ (∀ k, S.all g k → G k) ∧ ∀ k, G k → k < w.heap.size
/-- Two that may share lists. -/
def ItT (g : Nat) (es : List Ev) (g' : Nat) (es' : List Ev) : Thing := fun w G => ∃ S d S' d', IdR w g S d es ∧ IdR w g' S' d' es' ∧ g' ≠ g ∧ Rel S d es S' d' es' ∧ (∀ k, S.all g k → G k) ∧ (∀ k, S'.all g' k → G k) ∧ ∀ k, G k → k < w.heap.size
theorem ixT_keeps (g : Nat) (es : List Ev) : Keeps (IxT g es) := ⟨fun ⟨S, d, h, i, l⟩ hs hk => ⟨S, d, h.keep hs fun k hk2 => hk k (i k hk2), i, fun k hg => Nat.lt_of_lt_of_le (l k hg) hs⟩, fun ⟨_, _, _, _, l⟩ => l⟩
theorem itT_keeps (g : Nat) (es : List Ev) (g' : Nat) (es' : List Ev) : Keeps (ItT g es g' es') := ⟨fun ⟨S, d, S', d', h, h', hne, r, i, i', l⟩ hs hk => ⟨S, d, S', d', h.keep hs fun k hk2 => hk k (i k hk2), h'.keep hs fun k hk2 => hk k (i' k hk2), hne, r, i, i', fun k hg => Nat.lt_of_lt_of_le (l k hg) hs⟩, fun ⟨_, _, _, _, _, _, _, _, _, _, l⟩ => l⟩
theorem itT_swap (g : Nat) (es : List Ev) (g' : Nat) (es' : List Ev) : Imp (ItT g es g' es') (ItT g' es' g es) := fun _ _ ⟨S, d, S', d', h, h', hne, r, i, i', l⟩ => ⟨S', d', S, d, h', h, hne.symm, r.swap, i', i, l⟩
theorem itT_fst (g : Nat) (es : List Ev) (g' : Nat) (es' : List Ev) : Imp (ItT g es g' es') (IxT g es) := fun _ _ ⟨S, d, _, _, h, _, _, _, i, _, l⟩ => ⟨S, d, h, i, l⟩
theorem dn_below (w : World) (q : Nat) : Below w.heap.size w (w.drewN q) := ⟨rfl, rfl, rfl, Nat.le_refl _, fun _ _ => rfl⟩
section
variable {base : Nat} {w : World} {g : Nat} {es : List Ev} {P Q : Thing}
set_option maxRecDepth 100000 in
/-- The index that a thing holds. -/
theorem of_ix (pr : Pair base w P Q) (i : Imp P (IxT g es)) : ∃ S d, IdR w g S d es := by
  obtain ⟨F, _, hp, _⟩ := pr
  obtain ⟨S, d, h, _⟩ := i w F hp
  exact ⟨S, d, h⟩
set_option maxRecDepth 100000 in
/-- What a call that tells gives. -/
theorem told14 {w' : World} {rs : List Rc} {e : Ending} (pr : Pair base w P Q) (kp : Keeps P) (kq : Keeps Q) (hb : base ≤ w.heap.size) (h : CopOut w w' rs e) : ∃ B m c, e = .returned (.slice B m c) ∧ Pair base w' P (With Q (RoT B m c rs)) ∧ Below w.heap.size w w' := by
  obtain ⟨B, m, c, rfl, th, b⟩ := h.thing
  exact ⟨B, m, c, rfl, pair_more pr kp kq hb b th, b⟩
set_option maxRecDepth 100000 in
/-- Add, beside another thing. -/
theorem add_in {v : Value} {x : Bat} {F G : Nat → Prop} {S : Sets} {d : Dat} (h : IdR w g S d es) (hF : ∀ k, S.all g k → F k) (hq : Q w G) (kq : Keeps Q) (h1 : ∀ k, F k → base ≤ k) (h3 : ∀ k, F k → ¬ G k) (hb : base ≤ w.heap.size) (lo : LogOk es) (hl : es.length + x.es.length ≤ 400)
    (hv : ∀ (w' : World) (G : Nat → Prop), Q w' G → Below base w w' → IsB w' v x) (hok : BOk x) :
    Calls Tryz.prog 7 #[.pointer (some ⟨g, 0, none⟩), v] w fun r w' => AddOut w w' g S d es x r :=
  addX_any h lo hl (fun w' c => hv w' G (kq.keep hq c.size fun k hk => c.block k (kq.lt hq k hk) fun hf => h3 k (hF k (h.wra k hf)) hk) (ch_below (Below.refl _ _) c (fun k hk => h1 k (hF k (h.wra k hk))) hb)) hok
end
set_option maxRecDepth 100000 in
set_option maxRecDepth 100000 in
theorem iApi : IApi IxT where
  keeps := ixT_keeps
  new := fun {base w G Q} hq kq hG hb => by
    refine (new14_any w).mono ?_
    rintro e w' ⟨rfl, h, b⟩
    exact ⟨_, rfl, Pair.fresh hq kq hG hb ⟨_, _, h, fun k hk => by
      rcases hk with rfl | hk | hk | hk | hk
      · exact ⟨Nat.le_refl _, h.bx.lt⟩
      · exact hk.elim
      · exact hk.elim
      · exact hk.elim
      · exact hk.elim, fun k hk => hk.2⟩ b, b⟩
  add := fun {base w g es Q v x} pr kq hb lo hl hv hok => by
    obtain ⟨F, G, ⟨S, d, h, hF, hlt⟩, hq, h1, h2, h3⟩ := pr
    refine (add_in h hF hq kq h1 h3 hb lo hl hv hok).mono ?_
    rintro r w' ⟨B, m, c, wm, S1, d1, rfl, st, bm, th⟩
    have hc : Ch F w wm := st.ch.wide fun k hk => hF k (h.wra k hk)
    have pm : Pair base wm (IxT g (addB es x).2.2) Q := Pair.left hq kq h1 h2 h3 hb ⟨S1, d1, st.id, fun k hk => by
      rcases st.gr k hk with hk | hk
      · exact .inl (hF k hk)
      · exact .inr hk, fun k hk => up_lt hlt hc.size hk⟩ hc
    exact ⟨B, m, c, rfl, pair_more pm (ixT_keeps _ _) kq (Nat.le_trans hb hc.size) bm th, (ch_below (Below.refl _ _) hc h1 hb).trans (bm.mono (Nat.le_trans hb hc.size))⟩
  last := fun {base w g es Q} pr kq lo => by
    obtain ⟨S, d, h⟩ := of_ix pr fun _ _ h => h
    refine (last14_any h.bx h.rl).mono ?_
    rintro e w' ⟨rfl, rfl⟩
    exact ⟨rfl, pr, Below.refl _ _⟩
  all := fun {base w g es Q u} pr kq hb lo hu => by
    obtain ⟨S, d, h⟩ := of_ix pr fun _ _ h => h
    exact (all14_any h.bx h.rl (Nat.le_trans lo.1 (by decide)) (logOk_fit lo) u).mono fun e w' hc => told14 pr (ixT_keeps _ _) kq hb hc
  str := fun {base w g es Q s u} pr kq hb lo hs hu => by
    obtain ⟨S, d, h⟩ := of_ix pr fun _ _ h => h
    exact (str14_any h lo hs u).mono fun e w' hc => told14 pr (ixT_keeps _ _) kq hb hc
  qry := fun {base w g es Q v q u} pr kq hb lo hq hf hu => by
    obtain ⟨S, d, h⟩ := of_ix pr fun _ _ h => h
    exact (qry14_any h lo hq hf u).mono fun e w' hc => told14 pr (ixT_keeps _ _) kq hb hc
  ver := fun {base w g es Q s u} pr kq lo hs hu => by
    obtain ⟨S, d, h⟩ := of_ix pr fun _ _ h => h
    refine (ver14_any h lo hs u).mono ?_
    rintro e w' ⟨rfl, q, rfl⟩
    exact ⟨rfl, pr.below (ixT_keeps _ _) kq (dn_below w q), dn_below w q⟩
  since := fun {base w g es Q v q a} pr kq lo hq hf ha => by
    obtain ⟨S, d, h⟩ := of_ix pr fun _ _ h => h
    refine (since14_any h.bx h.rl hq a).mono ?_
    rintro e w' ⟨rfl, b⟩
    exact ⟨rfl, pr.below (ixT_keeps _ _) kq b, b⟩
set_option maxRecDepth 100000 in
set_option maxRecDepth 100000 in
theorem iTwo : ITwo IxT ItT where
  toIApi := iApi
  tkeeps := itT_keeps
  swap := itT_swap
  fst := itT_fst
  clone := fun {base w g es Q} pr kq hb lo => by
    obtain ⟨F, G, ⟨S, d, h, hF, hlt⟩, hq, h1, h2, h3⟩ := pr
    refine (clone14_any h lo).mono ?_
    rintro e w' ⟨g2, S1, S2, d2, rfl, b, hg2, i1, i2, r, u1, u2⟩
    have lift : ∀ k, up (S.all g) w w' k → up F w w' k := fun k hk => by
      rcases hk with hk | hk
      · exact .inl (hF k hk)
      · exact .inr hk
    exact ⟨g2, rfl, Pair.left hq kq h1 h2 h3 hb ⟨S1, d, S2, d2, i1, i2, by have := h.bx.lt; omega, r, fun k hk => lift k (u1 k hk), fun k hk => lift k (u2 k hk), fun k hk => up_lt hlt b.size hk⟩ (Ch.of_below b), b⟩
  tadd := fun {base w g g' es es' Q v x} pr kq hb lo hl hv hok => by
    obtain ⟨F, G, ⟨S, d, S', d', h, h', hne, r, hF, hF', hlt⟩, hq, h1, h2, h3⟩ := pr
    refine (add_in h hF hq kq h1 h3 hb lo hl hv hok).mono ?_
    rintro rr w' ⟨B, m, c, wm, S1, d1, rfl, st, bm, th⟩
    have hc : Ch F w wm := st.ch.wide fun k hk => hF k (h.wra k hk)
    obtain ⟨k1, k2⟩ := st.kin g' S' d' es' h' hne r
    have lift : ∀ k, up (S.all g) w wm k → up F w wm k := fun k hk => by
      rcases hk with hk | hk
      · exact .inl (hF k hk)
      · exact .inr hk
    have pm : Pair base wm (ItT g (addB es x).2.2 g' es') Q := Pair.left hq kq h1 h2 h3 hb ⟨S1, d1, _, d', st.id, k1, hne, k2, fun k hk => lift k (st.gr k hk), fun k hk => by
      rcases hk with rfl | hk | hk | hk | hk
      · exact .inl (hF' _ (.inl rfl))
      · exact lift k (st.gr k (.inr (.inl hk)))
      · exact lift k (st.gr k (.inr (.inr (.inl hk))))
      · exact lift k (st.gr k (.inr (.inr (.inr (.inl hk)))))
      · exact lift k (st.gr k (.inr (.inr (.inr (.inr hk))))), fun k hk => up_lt hlt hc.size hk⟩ hc
    exact ⟨B, m, c, rfl, pair_more pm (itT_keeps _ _ _ _) kq (Nat.le_trans hb hc.size) bm th, (ch_below (Below.refl _ _) hc h1 hb).trans (bm.mono (Nat.le_trans hb hc.size))⟩
  tlast := fun {base w g g' es es' Q} pr kq lo => by
    obtain ⟨S, d, h⟩ := of_ix pr (itT_fst _ _ _ _)
    refine (last14_any h.bx h.rl).mono ?_
    rintro e w' ⟨rfl, rfl⟩
    exact ⟨rfl, pr, Below.refl _ _⟩
  tall := fun {base w g g' es es' Q u} pr kq hb lo hu => by
    obtain ⟨S, d, h⟩ := of_ix pr (itT_fst _ _ _ _)
    exact (all14_any h.bx h.rl (Nat.le_trans lo.1 (by decide)) (logOk_fit lo) u).mono fun e w' hc => told14 pr (itT_keeps _ _ _ _) kq hb hc

end Go.Proofs.YtiplfhmimpkplaaGreat.IxWalk

