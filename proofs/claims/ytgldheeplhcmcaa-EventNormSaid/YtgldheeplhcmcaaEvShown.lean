/-
  The laws' words of layer 4: few, shown. (evMay_any, evNorm_any: the contracts of event.)
-/
import Derived.Test.YtgldheeplhcmcaaEvApi
namespace Go.Proofs.Ytgldheeplhcmcaa.EvWalk
open Go.RowKit Go.Proofs.Ytgldheeplhcmcaa.MemRow Go.Proofs.Ytgldheeplhcmcaa.Ev Go.Proofs.Ytgldheeplhcmcaa.NameMath Go.Proofs.Ytgldheeplhcmcaa.NameWalk

theorem field_size : (Try.prog.info? 38).map (·.size) = some 2 := by kernel_rfl
theorem elem_flds : Try.prog.elem 23 = 38 := by kernel_rfl

/-- At most twelve tags and fields. -/
def fewE (e : Ev) : Ev := ⟨e.s, e.t, e.tags.take 12, e.fs.take 12⟩
theorem fewE_ok {e : Ev} (h : EvOk e) : EvOk (fewE e) :=
  ⟨h.s, h.t, fun x hx => h.tags x (List.mem_of_mem_take hx), fun f hf => h.names f (List.mem_of_mem_take hf), fun f hf => h.nums f (List.mem_of_mem_take hf)⟩
theorem fewE_tags (e : Ev) : (fewE e).tags.length ≤ 12 := by simp only [fewE, List.length_take]; omega
theorem fewE_fs (e : Ev) : (fewE e).fs.length ≤ 12 := by simp only [fewE, List.length_take]; omega

theorem EvAt.set2' {w : World} {g : Nat} {v0 v1 v2 v3 : Value} (h : EvAt w g v0 v1 v2 v3) (x : Value) : EvAt (w.setCell ⟨g, 2, none⟩ x) g v0 v1 x v3 := h.set2 x

set_option maxHeartbeats 8000000 in
set_option maxRecDepth 100000 in
theorem few_any (v : Value) (ev : Ev) (w0 w : World) (hv : IsEv w0 v ev) :
    Calls Try.prog 10 #[v] w fun e w' => ∃ u, e = .returned u ∧ IsEv w0 u (fewE ev) ∧ Below w.heap.size w w' := by
  obtain ⟨A, n, ca, B, m, cb, rfl, ha, hb⟩ := hv
  obtain ⟨s, t, ts, fs⟩ := ev
  simp only at ha hb
  have hn := RdC.le ha
  have hm := RdC.le hb
  unfold maxLen at hn hm
  have la := ha.len
  have lb := hb.len
  have LA := Go.Lib.hid la
  have LB := Go.Lib.hid lb
  clear la lb
  by_cases hA : 12 < n
  · by_cases hB : 12 < m
    · obtain ⟨q1, d1⟩ := slice_hi (P := Try.prog) 22 9 Try.underlying22 elem_strs string_size ha (m := 12) (by omega)
      rw [strs_take] at d1
      have q1' : ∀ W, (Instr.slice 22 (.slice A n ca) none (some (.int .i64 12)) none).run Try.prog W = .ok (.slice A 12 ca) W := q1
      clear q1
      have i1 : (12 : Int) < n := by omega
      obtain ⟨q2, d2⟩ := slice_hi (P := Try.prog) 23 38 Try.underlying23 elem_flds field_size hb (m := 12) (by omega)
      rw [flds_take] at d2
      have q2' : ∀ W, (Instr.slice 23 (.slice B m cb) none (some (.int .i64 12)) none).run Try.prog W = .ok (.slice B 12 cb) W := q2
      clear q2
      have i2 : (12 : Int) < m := by omega
      go_enter Try.func10, Try.ntmps10
      go_wp2_with fail
      have bel : Below w.heap.size w ((w.alloc (.cells #[.string s, .string t, .slice A 12 ca, .slice B 12 cb] 25)).alloc (.cells #[.string s, .string t, .slice A 12 ca, .slice B 12 cb] 25)) := ((Below.refl _ _).alloc (Nat.le_refl _) _).alloc (by simp) _
      exact bodyPost_ret (v := .agg #[.string s, .string t, .slice A 12 ca, .slice B 12 cb]) (by simp [results, Try.results10, go_sem]) rfl ⟨_, rfl, ⟨_, _, _, _, _, _, rfl, d1, d2⟩, bel⟩
    · obtain ⟨q1, d1⟩ := slice_hi (P := Try.prog) 22 9 Try.underlying22 elem_strs string_size ha (m := 12) (by omega)
      rw [strs_take] at d1
      have q1' : ∀ W, (Instr.slice 22 (.slice A n ca) none (some (.int .i64 12)) none).run Try.prog W = .ok (.slice A 12 ca) W := q1
      clear q1
      have i1 : (12 : Int) < n := by omega
      have d2 : RdF w0 B m cb (fs.take 12) := by rw [List.take_of_length_le (by rw [LB.out]; omega)]; exact hb
      have i2 : ¬ (12 : Int) < m := by omega
      go_enter Try.func10, Try.ntmps10
      go_wp2_with fail
      have bel : Below w.heap.size w ((w.alloc (.cells #[.string s, .string t, .slice A 12 ca, .slice B m cb] 25)).alloc (.cells #[.string s, .string t, .slice A 12 ca, .slice B m cb] 25)) := ((Below.refl _ _).alloc (Nat.le_refl _) _).alloc (by simp) _
      exact bodyPost_ret (v := .agg #[.string s, .string t, .slice A 12 ca, .slice B m cb]) (by simp [results, Try.results10, go_sem]) rfl ⟨_, rfl, ⟨_, _, _, _, _, _, rfl, d1, d2⟩, bel⟩
  · by_cases hB : 12 < m
    · have d1 : RdS w0 A n ca (ts.take 12) := by rw [List.take_of_length_le (by rw [LA.out]; omega)]; exact ha
      have i1 : ¬ (12 : Int) < n := by omega
      obtain ⟨q2, d2⟩ := slice_hi (P := Try.prog) 23 38 Try.underlying23 elem_flds field_size hb (m := 12) (by omega)
      rw [flds_take] at d2
      have q2' : ∀ W, (Instr.slice 23 (.slice B m cb) none (some (.int .i64 12)) none).run Try.prog W = .ok (.slice B 12 cb) W := q2
      clear q2
      have i2 : (12 : Int) < m := by omega
      go_enter Try.func10, Try.ntmps10
      go_wp2_with fail
      have bel : Below w.heap.size w ((w.alloc (.cells #[.string s, .string t, .slice A n ca, .slice B 12 cb] 25)).alloc (.cells #[.string s, .string t, .slice A n ca, .slice B 12 cb] 25)) := ((Below.refl _ _).alloc (Nat.le_refl _) _).alloc (by simp) _
      exact bodyPost_ret (v := .agg #[.string s, .string t, .slice A n ca, .slice B 12 cb]) (by simp [results, Try.results10, go_sem]) rfl ⟨_, rfl, ⟨_, _, _, _, _, _, rfl, d1, d2⟩, bel⟩
    · have d1 : RdS w0 A n ca (ts.take 12) := by rw [List.take_of_length_le (by rw [LA.out]; omega)]; exact ha
      have i1 : ¬ (12 : Int) < n := by omega
      have d2 : RdF w0 B m cb (fs.take 12) := by rw [List.take_of_length_le (by rw [LB.out]; omega)]; exact hb
      have i2 : ¬ (12 : Int) < m := by omega
      go_enter Try.func10, Try.ntmps10
      go_wp2_with fail
      have bel : Below w.heap.size w ((w.alloc (.cells #[.string s, .string t, .slice A n ca, .slice B m cb] 25)).alloc (.cells #[.string s, .string t, .slice A n ca, .slice B m cb] 25)) := ((Below.refl _ _).alloc (Nat.le_refl _) _).alloc (by simp) _
      exact bodyPost_ret (v := .agg #[.string s, .string t, .slice A n ca, .slice B m cb]) (by simp [results, Try.results10, go_sem]) rfl ⟨_, rfl, ⟨_, _, _, _, _, _, rfl, d1, d2⟩, bel⟩

/-- The document's example, and what comes of it. -/
def exA : Ev := ⟨⟨#[115]⟩, ⟨#[116]⟩, [⟨#[98, 58, 120]⟩, ⟨#[97, 58, 121]⟩, ⟨#[98, 58, 120]⟩], [(⟨#[110]⟩, 1), (⟨#[109]⟩, 2), (⟨#[110]⟩, 3)]⟩
def exB : Ev := ⟨⟨#[115]⟩, ⟨#[116]⟩, [⟨#[97, 58, 121]⟩, ⟨#[98, 58, 120]⟩], [(⟨#[109]⟩, 2), (⟨#[110]⟩, 3)]⟩
theorem exAB : normE exA = exB := by kernel_rfl
theorem exB_may : mayE exB = 0 := by kernel_rfl
theorem small_ok {e : Ev} (h1 : e.s.size ≤ 100) (h2 : e.t.size ≤ 100) (h3 : ∀ x ∈ e.tags, x.size ≤ 100) (h4 : ∀ f ∈ e.fs, f.1.size ≤ 100) (h5 : ∀ f ∈ e.fs, 0 ≤ f.2 ∧ f.2 ≤ 100) : EvOk e := by
  have hm : 100 ≤ maxLen := by unfold maxLen; omega
  exact ⟨Nat.le_trans h1 hm, Nat.le_trans h2 hm, fun x hx => Nat.le_trans (h3 x hx) hm, fun f hf => Nat.le_trans (h4 f hf) hm, fun f hf => by have := h5 f hf; omega⟩
theorem exA_ok : EvOk exA := small_ok (by decide) (by decide) (by decide) (by decide) (by decide)
theorem exB_ok : EvOk exB := small_ok (by decide) (by decide) (by decide) (by decide) (by decide)

set_option maxHeartbeats 8000000 in
set_option maxRecDepth 100000 in
theorem shown_any (w : World) :
    Calls Try.prog 9 #[] w fun e w' => e = .returned (.bool true) ∧ Below w.heap.size w w' := by
  have b1 : Below w.heap.size w (w.alloc (.cells #[.string ⟨#[98, 58, 120]⟩, .string ⟨#[97, 58, 121]⟩, .string ⟨#[98, 58, 120]⟩] 9)) := (Below.refl _ _).alloc (Nat.le_refl _) _
  have r1 : RdS (w.alloc (.cells #[.string ⟨#[98, 58, 120]⟩, .string ⟨#[97, 58, 121]⟩, .string ⟨#[98, 58, 120]⟩] 9)) (some ⟨w.heap.size, 0, none⟩) 3 3 exA.tags := RdC.new w 9 (strs exA.tags) rfl (by decide)
  have s1 : (w.alloc (.cells #[.string ⟨#[98, 58, 120]⟩, .string ⟨#[97, 58, 121]⟩, .string ⟨#[98, 58, 120]⟩] 9)).heap.size = w.heap.size + 1 := by simp
  go_enter Try.func9, Try.ntmps9
  go_wp2_with fail
  generalize w.alloc (.cells #[.string ⟨#[98, 58, 120]⟩, .string ⟨#[97, 58, 121]⟩, .string ⟨#[98, 58, 120]⟩] 9) = w1 at *
  have b2 : Below w1.heap.size w1 (w1.alloc (.cells #[.string ⟨#[110]⟩, .int .i64 1, .string ⟨#[109]⟩, .int .i64 2, .string ⟨#[110]⟩, .int .i64 3] 38)) := (Below.refl _ _).alloc (Nat.le_refl _) _
  have r2 : RdF (w1.alloc (.cells #[.string ⟨#[110]⟩, .int .i64 1, .string ⟨#[109]⟩, .int .i64 2, .string ⟨#[110]⟩, .int .i64 3] 38)) (some ⟨w.heap.size + 1, 0, none⟩) 3 3 exA.fs := by
    rw [← s1]
    exact RdC.new w1 38 (flds exA.fs) rfl (by decide)
  have r3 := RdC.below r1 b2
  have B2 := below_chain b1 b2
  generalize w1.alloc (.cells #[.string ⟨#[110]⟩, .int .i64 1, .string ⟨#[109]⟩, .int .i64 2, .string ⟨#[110]⟩, .int .i64 3] 38) = w2 at *
  refine (evNorm_any _ exA w2 ⟨_, 3, 3, _, 3, 3, rfl, r3, r2⟩ exA_ok (by decide) (by decide)).mono ?_
  rintro e w3 ⟨u, rfl, hu, b3⟩
  rw [exAB] at hu
  have B3 := below_chain B2 b3
  clear b1 r1 s1 b2 r2 r3 B2 b3
  obtain ⟨A, n, ca, B, m, cb, rfl, ha, hb⟩ := hu
  obtain rfl : 2 = n := ha.len
  obtain rfl : 2 = m := hb.len
  have E4 := EvAt.new w3 (.string exB.s) (.string exB.t) (.slice A 2 ca) (.slice B 2 cb)
  have b4 : Below w3.heap.size w3 (w3.alloc (.cells #[.string exB.s, .string exB.t, .slice A 2 ca, .slice B 2 cb] 25)) := (Below.refl _ _).alloc (Nat.le_refl _) _
  have ha4 : RdS _ _ _ _ _ := RdC.below ha b4
  have hb4 : RdF _ _ _ _ _ := RdC.below hb b4
  have B4 := below_chain B3 b4
  obtain ⟨ba, oa, rfl, _, ka⟩ := RdS.at_ ha (by omega)
  obtain ⟨bb, ob, rfl, _, kb⟩ := RdF.at_ hb (by omega)
  have x0 := RdS.get ha4 (i := 0) (by omega)
  have x1 := (RdF.get hb4 (i := 1) (by omega)).2
  have x0' : (w3.alloc (.cells #[.string exB.s, .string exB.t, .slice (some ⟨ba, oa, none⟩) 2 ca, .slice (some ⟨bb, ob, none⟩) 2 cb] 25)).cell? ⟨ba, oa, none⟩ = some (.string ⟨#[97, 58, 121]⟩) := x0
  have x1' : (w3.alloc (.cells #[.string exB.s, .string exB.t, .slice (some ⟨ba, oa, none⟩) 2 ca, .slice (some ⟨bb, ob, none⟩) 2 cb] 25)).cell? ⟨bb, ob + 2 + 1, none⟩ = some (.int .i64 3) := x1
  have k2 := E4.c2
  have k3 := E4.c3
  have k0 : (w3.alloc (.cells #[.string exB.s, .string exB.t, .slice (some ⟨ba, oa, none⟩) 2 ca, .slice (some ⟨bb, ob, none⟩) 2 cb] 25)).cell? ⟨w3.heap.size, 0, none⟩ = some (.string ⟨#[115]⟩) := E4.c0
  have k1 : (w3.alloc (.cells #[.string exB.s, .string exB.t, .slice (some ⟨ba, oa, none⟩) 2 ca, .slice (some ⟨bb, ob, none⟩) 2 cb] 25)).cell? ⟨w3.heap.size, 1, none⟩ = some (.string ⟨#[116]⟩) := E4.c1
  clear x0 x1 ka kb ha hb b4 E4
  rw [show exB.s = (⟨#[115]⟩ : ByteArray) from rfl, show exB.t = (⟨#[116]⟩ : ByteArray) from rfl] at *
  have cM := fun w => fun h => evMay_any (.agg #[.string ⟨#[115]⟩, .string ⟨#[116]⟩, .slice (some ⟨ba, oa, none⟩) 2 ca, .slice (some ⟨bb, ob, none⟩) 2 cb]) exB w h exB_ok
  rw [exB_may] at cM
  have CM := Go.Lib.hid cM
  clear cM
  go_wp2_with fail
  refine (CM.out _ ⟨_, _, _, _, _, _, rfl, ha4, hb4⟩).mono ?_
  rintro e w5 ⟨rfl, b5⟩
  have B5 := below_chain B4 b5
  go_wp2_with fail
  go_ret
  exact ⟨rfl, B5⟩

end Go.Proofs.Ytgldheeplhcmcaa.EvWalk
