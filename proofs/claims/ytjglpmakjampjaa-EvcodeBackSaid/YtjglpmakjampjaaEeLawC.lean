/-
  Walk of a statement of layer 5: EvcodePuts.
-/
import Derived.Test.YtjglpmakjampjaaEeLawB
import Derived.Test.YtjglpmakjampjaaEcRef
import Derived.Deep.DeepCutAuto
import Derived.Deep.RegionHeldLaw
namespace Go.Proofs.Ytjglpmakjampjaa.EeLaw
open Go.RowKit Go.WideShapes Go.ChangeShapes Go.Proofs.Ytjglpmakjampjaa.MemRow Go.Proofs.Ytjglpmakjampjaa.Ev Go.Proofs.Ytjglpmakjampjaa.NameMath Go.Proofs.Ytjglpmakjampjaa.NameWalk Go.Proofs.Ytjglpmakjampjaa.EvWalk Go.Proofs.Ytjglpmakjampjaa.NumMath Go.Proofs.Ytjglpmakjampjaa.NumMem Go.Proofs.Ytjglpmakjampjaa.NumWalk Go.Proofs.Ytjglpmakjampjaa.EcWalk Go.Proofs.Ytjglpmakjampjaa.EdWalk Go.Proofs.Ytjglpmakjampjaa.Open

/-- What laying down comes to, in one way. -/
def PutOne (l : List UInt8) (ev : Ev) (w : World) (e : Ending) (w' : World) : Prop :=
  ∃ (A' : Option Addr) (m c' : Nat) (x : List UInt8), e = .returned (.tuple #[.slice A' m c', .int .i64 (mayE ev)]) ∧ Rd w' A' m c' x ∧ Hid (x = if mayE ev = 0 then l ++ encE ev else []) ∧ Below w.heap.size w w'
theorem put_one {l : List UInt8} {ev : Ev} {w : World} {e : Ending} {w' : World} (h : PutE l ev w e w' ∧ Below w.heap.size w w') : PutOne l ev w e w' := by
  obtain ⟨h, hb⟩ := h
  rcases h with ⟨h0, v, rfl, A', c', rfl, ho⟩ | ⟨h0, rfl⟩
  · exact ⟨A', _, c', _, by rw [h0], ho.rd, Go.Lib.hid (by rw [if_pos h0]), hb⟩
  · exact ⟨none, 0, 0, [], rfl, Rd.nil _, Go.Lib.hid (by rw [if_neg h0]), hb⟩

set_option maxHeartbeats 8000000 in
set_option maxRecDepth 100000 in
theorem puts_walk (A : Option Addr) (n cap : Nat) (l : List UInt8) (v : Value) (ea : Ev) (w : World) (hl : Rd w A n cap l) (hv : IsEv w v ea) (oka : EvOk ea) :
    Calls Try.prog 3 #[.slice A n cap, v] w fun e w' => e = .returned (.bool true) ∧ Below w.heap.size w w' := by
  have hv0 := hv
  have oka' := fewE_ok oka
  have hcap := hl.le_cap
  have hmax := hl.2.2.1
  unfold maxLen at hmax
  obtain ⟨A0, n0, ca0, B0, m0, cb0, rfl, _, _⟩ := hv
  have st := BoxAt.new w (.string ea.s) (.string ea.t) (.slice A0 n0 ca0) (.slice B0 m0 cb0)
  go_enter Try.func3, Try.ntmps3
  go_wp2_with fail
  generalize w.alloc (.cells #[.string ea.s, .string ea.t, .slice A0 n0 ca0, .slice B0 m0 cb0] 26) = w1 at *
  refine (shown5_any _).mono ?_
  rintro e w2 ⟨rfl, b2⟩
  have st2 := st.below b2
  have r2 := hl.below st2.bel
  clear st b2 hl
  go_upto_if 13 with (fail)
  go_cut [0] (fun v wx => w2 = wx ∧ ∃ A' n' cap' l', v = .slice A' n' cap' ∧ n' ≤ 50 ∧ Rd w2 A' n' cap' l')
  case first =>
    go_wp2_with fail
    · go_meet
      exact ⟨rfl, _, _, _, _, rfl, by omega, r2.first (by omega)⟩
    · go_meet
      exact ⟨rfl, _, _, _, _, rfl, by omega, r2⟩
  case rest =>
    obtain ⟨rfl, A', n', cap', l', rfl, hn', r3⟩ := hcut
    clear r2 hcap hmax
    have hll : l'.length ≤ 1000000 := by rw [r3.len]; omega
    have hl3 := r3.len
    have HL3 := Go.Lib.hid hl3
    clear hl3
    obtain ⟨k0, k1, k2, k3⟩ := st2.cells
    have bd1 : Below w2.heap.size w2 (w2.alloc (.cells #[] 5)).drew := bel_drew ((Below.refl _ _).alloc (Nat.le_refl _) _)
    have ow1 : Own (w2.alloc (.cells #[] 5)).drew w2.heap.size 5 (some ⟨w2.heap.size, 0, none⟩) 0 0 [] := Own.empty w2 5 (Nat.le_refl _)
    have rd1 := r3.below bd1
    have s1 := st2.below bd1
    go_wp2_with fail
    go_region_held_law (fun w' => w'.cell? ⟨w.heap.size, 0, none⟩ = some (.string ea.s) ∧ w'.cell? ⟨w.heap.size, 1, none⟩ = some (.string ea.t) ∧ w'.cell? ⟨w.heap.size, 2, none⟩ = some (.slice A0 n0 ca0) ∧ w'.cell? ⟨w.heap.size, 3, none⟩ = some (.slice B0 m0 cb0))
      (first | exact ⟨k0, k1, k2, k3⟩ | exact s1.cells | exact s5.cells | exact s6.cells | exact s7.cells)
      (first
        | (refine step_append_fresh (by rfl) (.tmp 17) (.tmp 18) 22 rfl 5 Try.underlying22 u8_info rfl rfl ow1 rd1 (by omega) bd1.size w2 bd1 ?_; intro A5 c5 w5 o5 b5; have s5 := st2.below b5; (try go_simp))
        | (go_simp; go_at_call 11; refine (few_any _ ea w w5 hv0).mono ?_; rintro e w6 ⟨u6, rfl, hv6, b6⟩; have s6 := s5.below b6; have o6 := o5.below b6)
        | (go_simp; go_at_call 10; refine (putE_any A5 n' c5 l' u6 (fewE ea) w6 o6.rd hll (hv6.below s6.bel) oka').mono ?_; rintro e w7 hp7; obtain ⟨A7, m7, c7, x7, rfl, r7, H7, b7⟩ := put_one hp7; have s7 := s6.below b7))
    have r8 := r3.below (below_chain (below_chain b5 b6) b7)
    obtain ⟨k0, k1, k2, k3⟩ := s7.cells
    clear s1 s5 s6 o5 o6 hp7 b5 b6 b7
    go_wp2_with fail
    refine (few_any _ ea w w7 hv0).mono ?_
    rintro e w8 ⟨u8, rfl, hv8, b8⟩
    have s8 := s7.below b8
    have r9 := r8.below b8
    have r7' := r7.below b8
    have hv9 := hv8.below s8.bel
    clear k0 k1 k2 k3 s7 r8 r7 b8
    go_wp2_with fail
    refine (refPutE_any A' n' cap' l' u8 (fewE ea) w8 r9 hll hv9 oka').mono ?_
    rintro e w9 hp9
    obtain ⟨A9, m9, c9, x9, rfl, q9, H9, b9⟩ := put_one hp9
    have B9 := (s8.below b9).bel
    have hx : x9 = x7 := by rw [H9.out, H7.out]
    subst hx
    have sx := rd_str (r7'.below b9)
    have sy := rd_str q9
    clear s8 r9 r7' hv9 hp9 b9 q9 H7 H9
    generalize mayE (fewE ea) = M at *
    go_wp2_with fail
    go_ret
    exact ⟨by simp, B9⟩

section
variable {H : Type} {enc : TypeId × Value → H}
set_option maxRecDepth 100000 in
theorem puts_main (W : World) (base : Nat) (v0 v1 : Value) {d0 d1 : DataW H} {p0 p1 : List MemPlace} (o0 : Value.okWide Try.prog W .any base 22 v0) (o1 : Value.okWide Try.prog W .any base 26 v1)
    (h0 : DataW.Trod enc Try.prog W 0 (fun _ => true) true 22 v0 d0 p0) (h1 : DataW.Trod enc Try.prog W 0 (fun _ => true) true 26 v1 d1 p1) :
    Calls Try.prog 3 #[v0, v1] W fun e W' => e = .returned (.bool true) ∧ Below W.heap.size W W' := by
  obtain ⟨A, n, cap, l, rfl, hl⟩ := op_bytes Try.underlying22 Try.underlying5 (by kernel_rfl) o0 h0
  obtain ⟨ea, hv, oka⟩ := op_event o1 h1
  exact puts_walk A n cap l v1 ea W hl hv oka
end

end Go.Proofs.Ytjglpmakjampjaa.EeLaw
