/-
  The laws' words of layer 5: few, shown.
-/
import Derived.Test.YtjglpmakjampjaaEdPutE
namespace Go.Proofs.Ytjglpmakjampjaa.EdWalk
open Go.RowKit Go.Proofs.Ytjglpmakjampjaa.MemRow Go.Proofs.Ytjglpmakjampjaa.Ev Go.Proofs.Ytjglpmakjampjaa.NameMath Go.Proofs.Ytjglpmakjampjaa.NameWalk Go.Proofs.Ytjglpmakjampjaa.EvWalk Go.Proofs.Ytjglpmakjampjaa.NumMath Go.Proofs.Ytjglpmakjampjaa.NumMem Go.Proofs.Ytjglpmakjampjaa.NumWalk Go.Proofs.Ytjglpmakjampjaa.EcWalk

theorem field_size : (Try.prog.info? 52).map (·.size) = some 2 := by kernel_rfl
theorem elem_flds : Try.prog.elem 24 = 52 := by kernel_rfl

/-- At most twelve tags and fields. -/
def fewE (e : Ev) : Ev := ⟨e.s, e.t, e.tags.take 12, e.fs.take 12⟩
theorem fewE_ok {e : Ev} (h : EvOk e) : EvOk (fewE e) :=
  ⟨h.s, h.t, fun x hx => h.tags x (List.mem_of_mem_take hx), fun f hf => h.names f (List.mem_of_mem_take hf), fun f hf => h.nums f (List.mem_of_mem_take hf)⟩
theorem fewE_tags (e : Ev) : (fewE e).tags.length ≤ 12 := by simp only [fewE, List.length_take]; omega
theorem fewE_fs (e : Ev) : (fewE e).fs.length ≤ 12 := by simp only [fewE, List.length_take]; omega

set_option maxHeartbeats 8000000 in
set_option maxRecDepth 100000 in
theorem few_any (v : Value) (ev : Ev) (w0 w : World) (hv : IsEv w0 v ev) :
    Calls Try.prog 11 #[v] w fun e w' => ∃ u, e = .returned u ∧ IsEv w0 u (fewE ev) ∧ Below w.heap.size w w' := by
  obtain ⟨A, n, ca, B, m, cb, rfl, ha, hb⟩ := hv
  obtain ⟨s, t, ts, fs⟩ := ev
  simp only at ha hb
  have hn := RdC.le ha
  have hm := RdC.le hb
  unfold maxLen at hn hm
  have la := ha.len
  have lb := hb.len
  have LA := Go.Lib.hid la
  have LB := Go.Lib.hid lb
  clear la lb
  by_cases hA : 12 < n
  · by_cases hB : 12 < m
    · obtain ⟨q1, d1⟩ := slice_hi (P := Try.prog) 23 9 Try.underlying23 elem_strs string_size ha (m := 12) (by omega)
      rw [strs_take] at d1
      have q1' : ∀ W, (Instr.slice 23 (.slice A n ca) none (some (.int .i64 12)) none).run Try.prog W = .ok (.slice A 12 ca) W := q1
      clear q1
      have i1 : (12 : Int) < n := by omega
      obtain ⟨q2, d2⟩ := slice_hi (P := Try.prog) 24 52 Try.underlying24 elem_flds field_size hb (m := 12) (by omega)
      rw [flds_take] at d2
      have q2' : ∀ W, (Instr.slice 24 (.slice B m cb) none (some (.int .i64 12)) none).run Try.prog W = .ok (.slice B 12 cb) W := q2
      clear q2
      have i2 : (12 : Int) < m := by omega
      go_enter Try.func11, Try.ntmps11
      go_wp2_with fail
      have bel : Below w.heap.size w ((w.alloc (.cells #[.string s, .string t, .slice A 12 ca, .slice B 12 cb] 26)).alloc (.cells #[.string s, .string t, .slice A 12 ca, .slice B 12 cb] 26)) := ((Below.refl _ _).alloc (Nat.le_refl _) _).alloc (by simp) _
      exact bodyPost_ret (v := .agg #[.string s, .string t, .slice A 12 ca, .slice B 12 cb]) (by simp [results, Try.results11, go_sem]) rfl ⟨_, rfl, ⟨_, _, _, _, _, _, rfl, d1, d2⟩, bel⟩
    · obtain ⟨q1, d1⟩ := slice_hi (P := Try.prog) 23 9 Try.underlying23 elem_strs string_size ha (m := 12) (by omega)
      rw [strs_take] at d1
      have q1' : ∀ W, (Instr.slice 23 (.slice A n ca) none (some (.int .i64 12)) none).run Try.prog W = .ok (.slice A 12 ca) W := q1
      clear q1
      have i1 : (12 : Int) < n := by omega
      have d2 : RdF w0 B m cb (fs.take 12) := by rw [List.take_of_length_le (by rw [LB.out]; omega)]; exact hb
      have i2 : ¬ (12 : Int) < m := by omega
      go_enter Try.func11, Try.ntmps11
      go_wp2_with fail
      have bel : Below w.heap.size w ((w.alloc (.cells #[.string s, .string t, .slice A 12 ca, .slice B m cb] 26)).alloc (.cells #[.string s, .string t, .slice A 12 ca, .slice B m cb] 26)) := ((Below.refl _ _).alloc (Nat.le_refl _) _).alloc (by simp) _
      exact bodyPost_ret (v := .agg #[.string s, .string t, .slice A 12 ca, .slice B m cb]) (by simp [results, Try.results11, go_sem]) rfl ⟨_, rfl, ⟨_, _, _, _, _, _, rfl, d1, d2⟩, bel⟩
  · by_cases hB : 12 < m
    · have d1 : RdS w0 A n ca (ts.take 12) := by rw [List.take_of_length_le (by rw [LA.out]; omega)]; exact ha
      have i1 : ¬ (12 : Int) < n := by omega
      obtain ⟨q2, d2⟩ := slice_hi (P := Try.prog) 24 52 Try.underlying24 elem_flds field_size hb (m := 12) (by omega)
      rw [flds_take] at d2
      have q2' : ∀ W, (Instr.slice 24 (.slice B m cb) none (some (.int .i64 12)) none).run Try.prog W = .ok (.slice B 12 cb) W := q2
      clear q2
      have i2 : (12 : Int) < m := by omega
      go_enter Try.func11, Try.ntmps11
      go_wp2_with fail
      have bel : Below w.heap.size w ((w.alloc (.cells #[.string s, .string t, .slice A n ca, .slice B 12 cb] 26)).alloc (.cells #[.string s, .string t, .slice A n ca, .slice B 12 cb] 26)) := ((Below.refl _ _).alloc (Nat.le_refl _) _).alloc (by simp) _
      exact bodyPost_ret (v := .agg #[.string s, .string t, .slice A n ca, .slice B 12 cb]) (by simp [results, Try.results11, go_sem]) rfl ⟨_, rfl, ⟨_, _, _, _, _, _, rfl, d1, d2⟩, bel⟩
    · have d1 : RdS w0 A n ca (ts.take 12) := by rw [List.take_of_length_le (by rw [LA.out]; omega)]; exact ha
      have i1 : ¬ (12 : Int) < n := by omega
      have d2 : RdF w0 B m cb (fs.take 12) := by rw [List.take_of_length_le (by rw [LB.out]; omega)]; exact hb
      have i2 : ¬ (12 : Int) < m := by omega
      go_enter Try.func11, Try.ntmps11
      go_wp2_with fail
      have bel : Below w.heap.size w ((w.alloc (.cells #[.string s, .string t, .slice A n ca, .slice B m cb] 26)).alloc (.cells #[.string s, .string t, .slice A n ca, .slice B m cb] 26)) := ((Below.refl _ _).alloc (Nat.le_refl _) _).alloc (by simp) _
      exact bodyPost_ret (v := .agg #[.string s, .string t, .slice A n ca, .slice B m cb]) (by simp [results, Try.results11, go_sem]) rfl ⟨_, rfl, ⟨_, _, _, _, _, _, rfl, d1, d2⟩, bel⟩

theorem small_ok {e : Ev} (h1 : e.s.size ≤ 100) (h2 : e.t.size ≤ 100) (h3 : ∀ x ∈ e.tags, x.size ≤ 100) (h4 : ∀ f ∈ e.fs, f.1.size ≤ 100) (h5 : ∀ f ∈ e.fs, 0 ≤ f.2 ∧ f.2 ≤ 100) : EvOk e := by
  have hm : 100 ≤ maxLen := by unfold maxLen; omega
  exact ⟨Nat.le_trans h1 hm, Nat.le_trans h2 hm, fun x hx => Nat.le_trans (h3 x hx) hm, fun f hf => Nat.le_trans (h4 f hf) hm, fun f hf => by have := h5 f hf; omega⟩
/-- The document's example. -/
def exE : Ev := ⟨⟨#[115]⟩, ⟨#[116]⟩, [], []⟩
theorem exE_may : mayE exE = 0 := by kernel_rfl
theorem exE_ok : EvOk exE := small_ok (by decide) (by decide) (by decide) (by decide) (by decide)
theorem enc_small {x : Int} (h0 : 0 ≤ x) (h : x < 64) : enc x = [(2 * x).toNat.toUInt8] := by
  have hz : Go.Lib.zigzag x = (2 * x).toNat := by
    obtain ⟨k, rfl⟩ := Int.eq_ofNat_of_zero_le h0
    unfold Go.Lib.zigzag
    split <;> omega
  show Go.Lib.uvarint (Go.Lib.zigzag x) = _
  rw [hz, Go.Lib.uvarint_small (by omega)]
theorem exE_enc : ([] : List UInt8) ++ encE exE = [2, 115, 2, 116, 0, 0] := by
  have e1 : enc ((⟨#[115]⟩ : ByteArray).size : Int) = [2] := by rw [enc_small (by decide) (by decide)]; rfl
  have e2 : enc ((⟨#[116]⟩ : ByteArray).size : Int) = [2] := by rw [enc_small (by decide) (by decide)]; rfl
  have e3 : enc ((([] : List ByteArray).length : Nat) : Int) = [0] := by rw [enc_small (by decide) (by decide)]; rfl
  have e4 : enc ((([] : List (ByteArray × Int)).length : Nat) : Int) = [0] := by rw [enc_small (by decide) (by decide)]; rfl
  unfold encE exE txt
  simp only
  rw [e1, e2, e3, e4]
  rfl

set_option maxHeartbeats 8000000 in
set_option maxRecDepth 100000 in
theorem shown5_any (w : World) :
    Calls Try.prog 9 #[] w fun e w' => e = .returned (.bool true) ∧ Below w.heap.size w w' := by
  go_enter Try.func9, Try.ntmps9
  go_wp2_with fail
  refine (putE_any none 0 0 [] _ exE w (Rd.nil w) (by simp) ⟨none, 0, 0, none, 0, 0, rfl, RdC.nil w, RdC.nil w⟩ exE_ok).mono ?_
  rintro e w1 ⟨hp, b1⟩
  rcases hp with ⟨_, v, rfl, A, cap, rfl, own⟩ | ⟨hne, _⟩
  · rw [exE_enc] at own
    rw [exE_enc]
    have est := own.rd.string (P := Try.prog) 22 9 5 Try.underlying22 Try.underlying5 Try.underlying9
    have est' : (convert 22 9 (.slice A 6 cap)).run Try.prog w1 = .ok (.string ⟨#[2, 115, 2, 116, 0, 0]⟩) w1 := est
    clear own est
    go_wp2_with fail
    go_ret
    exact ⟨rfl, b1⟩
  · exact absurd exE_may hne

end Go.Proofs.Ytjglpmakjampjaa.EdWalk
