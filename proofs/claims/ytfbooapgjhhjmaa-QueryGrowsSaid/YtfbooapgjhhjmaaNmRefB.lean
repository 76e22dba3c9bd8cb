/-
  Contracts of the document's own answers for layer 3 (registrarref03): May, Fold.
-/
import Derived.Test.YtfbooapgjhhjmaaNmRef
namespace Go.Proofs.Ytfbooapgjhhjmaa.NameMath

theorem lw_none {a : UInt8} {l : List UInt8} (h : lw (a :: l) = 0) : low a = false ∧ allL (a :: l) = false := by
  cases l with
  | nil =>
    rw [lw] at h
    have h1 : ¬ low a = true := fun hh => by rw [if_pos hh] at h; exact absurd h (by decide)
    have h2 : low a = false := by simpa using h1
    exact ⟨h2, by simpa [allL] using h2⟩
  | cons b l =>
    rw [lw] at h
    have h1 : ¬ low a = true := fun hh => by rw [if_pos hh] at h; exact absurd h (by decide)
    rw [if_neg h1] at h
    have h3 : ¬ two a b = true := fun hh => by rw [if_pos hh] at h; exact absurd h (by decide)
    have h2 : low a = false := by simpa using h1
    refine ⟨h2, ?_⟩
    rw [allL, if_neg h1, if_neg h3]

theorem lw_some {t : List UInt8} (h : lw t ≠ 0) : lw t ≤ t.length ∧ allL t = allL (t.drop (lw t)) ∧ fold t = t.take (lw t) ++ fold (t.drop (lw t)) := by
  match t with
  | [] => exact absurd rfl h
  | [a] =>
    by_cases h1 : low a = true
    · have e : lw [a] = 1 := by rw [lw, if_pos h1]
      rw [e]
      exact ⟨by simp, allL_low [] h1, fold_low [] h1⟩
    · exact absurd (by rw [lw, if_neg h1]) h
  | a :: b :: l =>
    by_cases h1 : low a = true
    · have e : lw (a :: b :: l) = 1 := by rw [lw, if_pos h1]
      rw [e]
      exact ⟨by simp, allL_low _ h1, fold_low _ h1⟩
    · by_cases h2 : two a b = true
      · have e : lw (a :: b :: l) = 2 := by rw [lw, if_neg h1, if_pos h2]
        rw [e]
        exact ⟨by simp, allL_two _ h2, fold_two _ h2⟩
      · exact absurd (by rw [lw, if_neg h1, if_neg h2]) h

end Go.Proofs.Ytfbooapgjhhjmaa.NameMath
namespace Go.Proofs.Ytfbooapgjhhjmaa.NameWalk
open Go.RowKit Go.Proofs.Ytfbooapgjhhjmaa.NameMath

set_option maxHeartbeats 4000000 in
set_option maxRecDepth 100000 in
theorem refMay_any (s : ByteArray) (w : World) (hs0 : s.size ≤ 9223372036854775807) :
    Calls Try.prog 32 #[.string s] w fun e w' => e = .returned (.bool (may s.data.toList)) ∧ Below w.heap.size w w' := by
  have hsz := size_list s
  generalize hm : may s.data.toList = m
  have HM := Go.Lib.hid hm
  clear hm
  by_cases h1 : s.size < 1
  · have hb : m = false := by rw [← HM.out]; unfold may; rw [decide_eq_false (by omega)]; rfl
    subst hb
    have k1 : (s.size : Int) < 1 := by omega
    clear hsz
    go_enter Try.func32, Try.ntmps32
    go_wp2
    go_ret
    exact ⟨rfl, Below.refl _ _⟩
  by_cases h2 : s.size > 24
  · have hb : m = false := by rw [← HM.out]; unfold may; rw [decide_eq_false (by omega)]; rfl
    subst hb
    have k1 : ¬ (s.size : Int) < 1 := by omega
    have k2 : (24 : Int) < s.size := by omega
    clear hsz
    go_enter Try.func32, Try.ntmps32
    go_wp2
    go_ret
    exact ⟨rfl, Below.refl _ _⟩
  have k1 : ¬ (s.size : Int) < 1 := by omega
  have k2 : ¬ (24 : Int) < s.size := by omega
  have hs : s.size ≤ 4611686018427387904 := by omega
  have p0 : 0 < s.size := by omega
  have kp : (0 : Int) < s.size := by omega
  have hd := drop_at p0
  rw [List.drop_zero] at hd
  have hx := UInt8.toNat_lt (s[0]'p0)
  have hm2 : m = (decide ((s[0]'p0).toNat ≠ 45 ∧ ¬ (48 ≤ (s[0]'p0).toNat ∧ (s[0]'p0).toNat ≤ 57)) && allL s.data.toList) := by
    rw [← HM.out]
    unfold may
    rw [decide_eq_true (by omega), Bool.true_and, hd]
    rfl
  have HM2 := Go.Lib.hid hm2
  have HS := Go.Lib.hid hsz
  clear hm2 HM hsz
  generalize hy : (s[0]'p0).toNat = y at *
  have HY := Go.Lib.hid hy
  clear hd
  by_cases c1 : 48 ≤ y ∧ y ≤ 57
  · have hb : m = false := by rw [HM2.out, decide_eq_false (by omega), Bool.false_and]
    subst hb
    obtain ⟨c1, c2⟩ := c1
    have k3 : (48 : Int) ≤ y := by omega
    have k4 : (y : Int) ≤ 57 := by omega
    go_enter Try.func32, Try.ntmps32
    go_wp2
    go_ret
    exact ⟨rfl, Below.refl _ _⟩
  by_cases c2 : y = 45
  · have hb : m = false := by rw [HM2.out, decide_eq_false (by omega), Bool.false_and]
    subst hb
    subst c2
    clear c1
    go_enter Try.func32, Try.ntmps32
    go_wp2
    go_ret
    exact ⟨rfl, Below.refl _ _⟩
  have hm3 : m = allL s.data.toList := by rw [HM2.out, decide_eq_true (by omega), Bool.true_and]
  have HM3 := Go.Lib.hid hm3
  clear HM2 hm3
  have k5 : ¬ (y : Int) = 45 := by omega
  have main : ∀ (hyp : (¬ (48 : Int) ≤ y) ∨ ((48 : Int) ≤ y ∧ ¬ (y : Int) ≤ 57)), Calls Try.prog 32 #[.string s] w fun e w' => e = .returned (.bool m) ∧ Below w.heap.size w w' := by
    intro hyp
    rcases hyp with k3 | ⟨k3, k4⟩
    all_goals
      clear c1 c2
      go_enter Try.func32, Try.ntmps32
      go_wp2
      go_loopw [3] (fun a wr => ∃ pos : Nat, a = .int .i64 (pos : Int) ∧ pos ≤ s.size ∧ allL (s.data.toList.drop pos) = allL s.data.toList ∧ Below w.heap.size w wr) (fun a _ => s.size - (intOf a).toNat)
      case atStart => exact ⟨0, rfl, by omega, rfl, Below.refl _ _⟩
      case round =>
        obtain ⟨pos, rfl, hple, hall, hb⟩ := hrel
        by_cases hp : pos < s.size
        · have q1 : (pos : Int) < s.size := by omega
          have hdp := drop_at hp
          have hcl := Go.Lib.hid (fun w => refLetter_any s pos w hp hs)
          have hlen : (s.data.toList.drop pos).length = s.size - pos := by rw [List.length_drop, ← HS.out]
          have hz := fun h0 : lw (s.data.toList.drop pos) = 0 => (lw_none (by rw [← hdp]; exact h0)).2
          have hn := fun h0 : lw (s.data.toList.drop pos) ≠ 0 => lw_some h0
          rw [← hdp] at hz
          generalize hN : lw (s.data.toList.drop pos) = N at *
          have HZ := Go.Lib.hid hz
          have HN := Go.Lib.hid hn
          have HA := Go.Lib.hid hall
          have HLN := Go.Lib.hid hlen
          clear hz hn hall hdp hN hlen
          by_cases hN0 : N = 0
          · have hmf : m = false := by rw [HM3.out, ← HA.out, HZ.out hN0]
            subst hN0 hmf
            go_wp2_with (go_at_call 50; refine (hcl.out _).mono ?_; rintro e w2 ⟨rfl, b2⟩)
            go_ret
            exact ⟨rfl, below_chain hb b2⟩
          · have hNz : ¬ (N : Int) = 0 := by omega
            have h3 := HN.out hN0
            rw [HLN.out] at h3
            have hle := h3.1
            have H3 := Go.Lib.hid h3
            clear h3
            go_wp2_with (go_at_call 50; refine (hcl.out _).mono ?_; rintro e w2 ⟨rfl, b2⟩)
            go_roundw
            case rel =>
              refine ⟨pos + N, by simp, by omega, ?_, below_chain hb b2⟩
              have := H3.out.2.1
              rw [List.drop_drop] at this
              rw [← this, HA.out]
            case measure =>
              simp [intOf]
              omega
        · have q1 : ¬ (pos : Int) < s.size := by omega
          have hmt : m = true := by
            rw [HM3.out, ← hall, List.drop_eq_nil_of_le (by have := HS.out; omega)]; rfl
          subst hmt
          clear hall
          go_wp2
          go_ret
          exact ⟨rfl, hb⟩
  by_cases c3 : 48 ≤ y
  · exact main (.inr ⟨by omega, by omega⟩)
  · exact main (.inl (by omega))

end Go.Proofs.Ytfbooapgjhhjmaa.NameWalk
