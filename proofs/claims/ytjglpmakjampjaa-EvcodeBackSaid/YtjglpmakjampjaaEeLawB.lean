/-
  Walk of a statement of layer 5: EvcodeSizes.
-/
import Derived.Test.YtjglpmakjampjaaEeCom
import Derived.Deep.RegionHeld
namespace Go.Proofs.Ytjglpmakjampjaa.EeLaw
open Go.RowKit Go.WideShapes Go.ChangeShapes Go.Proofs.Ytjglpmakjampjaa.MemRow Go.Proofs.Ytjglpmakjampjaa.Ev Go.Proofs.Ytjglpmakjampjaa.NameMath Go.Proofs.Ytjglpmakjampjaa.NameWalk Go.Proofs.Ytjglpmakjampjaa.EvWalk Go.Proofs.Ytjglpmakjampjaa.NumMath Go.Proofs.Ytjglpmakjampjaa.NumMem Go.Proofs.Ytjglpmakjampjaa.NumWalk Go.Proofs.Ytjglpmakjampjaa.EcWalk Go.Proofs.Ytjglpmakjampjaa.EdWalk Go.Proofs.Ytjglpmakjampjaa.Open

/-- The box of one event. -/
structure BoxAt (wr w : World) (a0 a1 a2 a3 : Value) : Prop where
  e0 : EvAt wr w.heap.size a0 a1 a2 a3
  bel : Below w.heap.size w wr
section
variable {wr w w' : World} {a0 a1 a2 a3 : Value}
theorem BoxAt.below (h : BoxAt wr w a0 a1 a2 a3) (hb : Below wr.heap.size wr w') : BoxAt w' w a0 a1 a2 a3 := ⟨h.e0.below hb h.e0.lt, below_chain h.bel hb⟩
theorem BoxAt.drew (h : BoxAt wr w a0 a1 a2 a3) : BoxAt wr.drew w a0 a1 a2 a3 := ⟨h.e0, bel_drew h.bel⟩
theorem BoxAt.new (w : World) (a0 a1 a2 a3 : Value) : BoxAt (w.alloc (.cells #[a0, a1, a2, a3] 26)) w a0 a1 a2 a3 := ⟨EvAt.new w a0 a1 a2 a3, (Below.refl _ _).alloc (Nat.le_refl _) _⟩
theorem BoxAt.set0 (h : BoxAt wr w a0 a1 a2 a3) (x0 x1 x2 x3 : Value) : BoxAt ((((wr.setCell ⟨w.heap.size, 0, none⟩ x0).setCell ⟨w.heap.size, 1, none⟩ x1).setCell ⟨w.heap.size, 2, none⟩ x2).setCell ⟨w.heap.size, 3, none⟩ x3) w x0 x1 x2 x3 := ⟨h.e0.all x0 x1 x2 x3, bel_all h.bel (Nat.le_refl _) x0 x1 x2 x3⟩
theorem BoxAt.cells (h : BoxAt wr w a0 a1 a2 a3) : wr.cell? ⟨w.heap.size, 0, none⟩ = some a0 ∧ wr.cell? ⟨w.heap.size, 1, none⟩ = some a1 ∧ wr.cell? ⟨w.heap.size, 2, none⟩ = some a2 ∧ wr.cell? ⟨w.heap.size, 3, none⟩ = some a3 := ⟨h.e0.c0, h.e0.c1, h.e0.c2, h.e0.c3⟩
end


/-! ### How many bytes -/
def sumT (ts : List ByteArray) : Nat := (ts.map fun s => 1 + s.size).sum
def sumF (fs : List (ByteArray × Int)) : Nat := (fs.map fun f => 1 + f.1.size + (enc f.2).length).sum
theorem enc_one {x : Int} (h0 : 0 ≤ x) (h : x < 64) : (enc x).length = 1 := by rw [enc_small h0 h]; rfl
theorem txt_one {s : ByteArray} (h : s.size ≤ 49) : (txt s).length = 1 + s.size := by rw [txt_len, enc_one (by omega) (by omega)]
theorem txts_sum (ts : List ByteArray) (h : ∀ s ∈ ts, s.size ≤ 49) : (txts ts).length = sumT ts := by
  induction ts with
  | nil => rfl
  | cons s ts ih =>
    have e : txts (s :: ts) = txt s ++ txts ts := by simp [txts]
    rw [e, List.length_append, txt_one (h s (by simp)), ih fun x hx => h x (by simp [hx])]
    simp [sumT]
theorem fldsE_sum (fs : List (ByteArray × Int)) (h : ∀ f ∈ fs, f.1.size ≤ 24) : (fldsE fs).length = sumF fs := by
  induction fs with
  | nil => rfl
  | cons f fs ih =>
    have e : fldsE (f :: fs) = fldE f ++ fldsE fs := by simp [fldsE]
    rw [e, fldE, List.length_append, List.length_append, txt_one (by have := h f (by simp); omega), ih fun x hx => h x (by simp [hx])]
    simp [sumF]
theorem encE_sum {e : Ev} (sm : Small e) : (encE e).length = e.s.size + e.t.size + 4 + sumT e.tags + sumF e.fs := by
  have h1 := txt_one (s := e.s) (by have := sm.s; omega)
  have h2 := txt_one (s := e.t) (by have := sm.t; omega)
  have h3 := enc_one (x := (e.tags.length : Int)) (by omega) (by have := sm.nt; omega)
  have h4 := enc_one (x := (e.fs.length : Int)) (by omega) (by have := sm.nf; omega)
  have h5 := txts_sum e.tags sm.tags
  have h6 := fldsE_sum e.fs sm.names
  unfold encE
  simp only [List.length_append]
  omega
theorem sumT_take (ts : List ByteArray) (j : Nat) (h : j < ts.length) : sumT (ts.take (j + 1)) = sumT (ts.take j) + 1 + (ts.getD j ByteArray.empty).size := by
  rw [take_get ts j h]
  simp [sumT]
  omega
theorem sumF_take (fs : List (ByteArray × Int)) (j : Nat) (h : j < fs.length) : sumF (fs.take (j + 1)) = sumF (fs.take j) + 1 + (fs.getD j (ByteArray.empty, 0)).1.size + (enc (fs.getD j (ByteArray.empty, 0)).2).length := by
  rw [fs_take fs j h]
  simp [sumF]
  omega
theorem sumT_le (ts : List ByteArray) (h : ∀ s ∈ ts, s.size ≤ 49) : sumT ts ≤ 50 * ts.length := by
  induction ts with
  | nil => simp [sumT]
  | cons s ts ih =>
    have h1 := h s (by simp)
    have h2 := ih fun x hx => h x (by simp [hx])
    simp only [sumT, List.map_cons, List.sum_cons, List.length_cons] at h2 ⊢
    omega
theorem sumF_le (fs : List (ByteArray × Int)) (h : ∀ f ∈ fs, f.1.size ≤ 24) (hz : ∀ f ∈ fs, -1099511627776 ≤ f.2 ∧ f.2 ≤ 1099511627776) : sumF fs ≤ 50 * fs.length := by
  induction fs with
  | nil => simp [sumF]
  | cons f fs ih =>
    have h1 := h f (by simp)
    have h2 := ih (fun x hx => h x (by simp [hx])) (fun x hx => hz x (by simp [hx]))
    have h3 := hz f (by simp)
    have h4 := enc_le f.2 (by omega) (by omega)
    simp only [sumF, List.map_cons, List.sum_cons, List.length_cons] at h2 ⊢
    omega

set_option maxHeartbeats 8000000 in
set_option maxRecDepth 100000 in
theorem sizes_walk (v : Value) (ea : Ev) (w : World) (hv : IsEv w v ea) (oka : EvOk ea) :
    Calls Try.prog 8 #[v] w fun e w' => e = .returned (.bool true) ∧ Below w.heap.size w w' := by
  have hv0 := hv
  have oka' := fewE_ok oka
  obtain ⟨A0, n0, ca0, B0, m0, cb0, rfl, _, _⟩ := hv
  have st := BoxAt.new w (.string ea.s) (.string ea.t) (.slice A0 n0 ca0) (.slice B0 m0 cb0)
  go_enter Try.func8, Try.ntmps8
  go_wp2_with fail
  generalize w.alloc (.cells #[.string ea.s, .string ea.t, .slice A0 n0 ca0, .slice B0 m0 cb0] 26) = w1 at *
  refine (shown5_any _).mono ?_
  rintro e w2 ⟨rfl, b2⟩
  have st2 := st.below b2
  obtain ⟨k0, k1, k2, k3⟩ := st2.cells
  clear st b2
  go_wp2_with fail
  refine (few_any _ ea w _ hv0).mono ?_
  rintro e w3 ⟨u1, rfl, hv1, b3⟩
  have st3 := st2.below b3
  clear st2 b3 k0 k1 k2 k3
  have hv2 := hv1
  obtain ⟨C0, p0, cc0, D0, q0, cd0, rfl, rC, rD⟩ := hv1
  have st4 := st3.set0 (.string (fewE ea).s) (.string (fewE ea).t) (.slice C0 p0 cc0) (.slice D0 q0 cd0)
  obtain ⟨k0, k1, k2, k3⟩ := st3.cells
  have z0 := st3.e0.frozen 0
  have z1 := st3.e0.frozen 1
  have z2 := st3.e0.frozen 2
  have z3 := st3.e0.frozen 3
  clear st3
  generalize fewE ea = fa at *
  go_upto_region 3 with (fail)
  generalize ((((w3.setCell ⟨w.heap.size, 0, none⟩ (.string fa.s)).setCell ⟨w.heap.size, 1, none⟩ (.string fa.t)).setCell ⟨w.heap.size, 2, none⟩ (.slice C0 p0 cc0)).setCell ⟨w.heap.size, 3, none⟩ (.slice D0 q0 cd0)) = w4 at *
  clear k0 k1 k2 k3 z0 z1 z2 z3
  obtain ⟨k0, k1, k2, k3⟩ := st4.cells
  have hva := hv2.below st4.bel
  go_wp2_with fail
  refine (putE_any none 0 0 [] _ fa w4 (Rd.nil w4) (by simp) hva oka').mono ?_
  rintro e w5 ⟨hpa, b5⟩
  have st5 := st4.below b5
  clear st4 b5 k0 k1 k2 k3 hva
  rcases hpa with ⟨ha0, va, rfl, Aa, caa, rfl, owna⟩ | ⟨ha0, rfl⟩
  · rw [List.nil_append]
    have sm := may_smallE ha0
    have hsum := encE_sum sm
    clear owna ha0
    have hs := sm.s
    have ht := sm.t
    have LT := Go.Lib.hid (RdS.len rC)
    have LF := Go.Lib.hid (RdF.len rD)
    have hnt : p0 ≤ 6 := by rw [← LT.out]; exact sm.nt
    have hnf : q0 ≤ 4 := by rw [← LF.out]; exact sm.nf
    have SM := Go.Lib.hid sm
    clear sm
    generalize (encE fa).length = N at *
    have HSUM := Go.Lib.hid hsum
    clear hsum
    obtain ⟨k0, k1, k2, k3⟩ := st5.cells
    go_wp2_with fail
    go_loopw [6, 7] (fun n i wr => ∃ (j q : Nat), j ≤ p0 ∧ i = .int .i64 j ∧ n = .int .i64 q ∧ q ≤ 1000 ∧ Hid (q = fa.s.size + fa.t.size + 4 + sumT (fa.tags.take j)) ∧ w5 = wr) (fun _ i _ => p0 - (intOf i).toNat)
    case atStart => exact ⟨0, fa.s.size + fa.t.size + 4, Nat.zero_le _, rfl, by go_num, by omega, Go.Lib.hid (by simp [sumT]), rfl⟩
    case round =>
      obtain ⟨j, q, hj, rfl, rfl, hq, HQ, rfl⟩ := hrel
      by_cases hlt : j < p0
      · obtain ⟨bt, ot, rfl, _, kt⟩ := RdS.at_ (RdC.below rC st5.bel) (by omega)
        have ka1 := kt j hlt
        have i1 : (j : Int) < p0 := by omega
        have hjl : j < fa.tags.length := by rw [LT.out]; exact hlt
        have hst := sumT_take fa.tags j hjl
        have hy := SM.out.tags _ (mem_getD fa.tags j hjl)
        have hle := sumT_le (fa.tags.take (j + 1)) (fun x hx => SM.out.tags x (List.mem_of_mem_take hx))
        have hll : (fa.tags.take (j + 1)).length ≤ 6 := by rw [List.length_take]; have := LT.out; omega
        have hqn : q + 1 + (fa.tags.getD j ByteArray.empty).size ≤ 1000 := by have := HQ.out; omega
        have HST := Go.Lib.hid hst
        clear kt hjl hst hle hll
        generalize fa.tags.getD j ByteArray.empty = y at *
        go_wp2_with fail
        go_roundw
        case rel => exact ⟨j + 1, q + 1 + y.size, by omega, by go_num, by go_num, hqn, Go.Lib.hid (by rw [HST.out, HQ.out]; omega), by first | rfl | trivial⟩
        case measure => simp [intOf]; omega
      · obtain rfl : p0 = j := by omega
        have hq2 : q = fa.s.size + fa.t.size + 4 + sumT fa.tags := by
          rw [HQ.out, List.take_of_length_le (by rw [LT.out]; exact Nat.le_refl _)]
        have HQ2 := Go.Lib.hid hq2
        have hq3 : q ≤ 400 := by
          have hle := sumT_le fa.tags SM.out.tags
          have hll : fa.tags.length ≤ 6 := SM.out.nt
          omega
        clear hq2 HQ hq
        go_wp2_with fail
        go_loopw [6, 8] (fun n i wr => ∃ (k z : Nat), k ≤ q0 ∧ i = .int .i64 k ∧ n = .int .i64 z ∧ z ≤ 1000 ∧ Hid (z = q + sumF (fa.fs.take k)) ∧ BoxAt wr w (.string fa.s) (.string fa.t) (.slice C0 p0 cc0) (.slice D0 q0 cd0)) (fun _ i _ => q0 - (intOf i).toNat)
        case atStart => exact ⟨0, q, Nat.zero_le _, rfl, rfl, by omega, Go.Lib.hid (by simp [sumF]), st5⟩
        case round =>
          obtain ⟨k, z, hk, rfl, rfl, hz, HZ, sq⟩ := hrel
          clear k0 k1 k2 k3 st5
          obtain ⟨k0, k1, k2, k3⟩ := sq.cells
          by_cases hlt : k < q0
          · obtain ⟨bf, of, rfl, _, kf⟩ := RdF.at_ (RdC.below rD sq.bel) (by omega)
            obtain ⟨y1, y2⟩ := kf k hlt
            have i1 : (k : Int) < q0 := by omega
            have hkl : k < fa.fs.length := by rw [LF.out]; exact hlt
            have hst := sumF_take fa.fs k hkl
            have hy := SM.out.names _ (fs_mem fa.fs k hkl)
            have hzz := SM.out.nums _ (fs_mem fa.fs k hkl)
            have hle := sumF_le (fa.fs.take (k + 1)) (fun x hx => SM.out.names x (List.mem_of_mem_take hx)) (fun x hx => SM.out.nums x (List.mem_of_mem_take hx))
            have hll : (fa.fs.take (k + 1)).length ≤ 4 := by rw [List.length_take]; have := LF.out; omega
            have hqn : z + 1 + (fa.fs.getD k (ByteArray.empty, 0)).1.size + (enc (fa.fs.getD k (ByteArray.empty, 0)).2).length ≤ 1000 := by have := HZ.out; omega
            have HST := Go.Lib.hid hst
            clear kf hkl hst hle hll
            generalize fa.fs.getD k (ByteArray.empty, 0) = f at *
            obtain ⟨nm, nz⟩ := f
            simp only at y1 y2 hy hzz HST hqn
            have hz0 : -9223372036854775808 ≤ nz := by omega
            have hz1 : nz ≤ 9223372036854775807 := by omega
            have b0 : Below wr.heap.size wr wr.drew := bel_drew (Below.refl _ _)
            generalize hE : (enc nz).length = E at *
            have HE := Go.Lib.hid hE
            clear hE
            have u1 : IntKind.i64.wrap ((z : Int) + 1) = (z : Int) + 1 := IntWalk.i64_in _ (by omega)
            have u2 : IntKind.i64.wrap ((z : Int) + 1 + (nm.size : Int)) = (z : Int) + 1 + (nm.size : Int) := IntWalk.i64_in _ (by omega)
            have u3 : IntKind.i64.wrap ((z : Int) + 1 + (nm.size : Int) + (E : Int)) = (z : Int) + 1 + (nm.size : Int) + (E : Int) := IntWalk.i64_in _ (by omega)
            go_wp2_with fail
            go_region_held (fun w' => w'.cell? ⟨w.heap.size, 3, none⟩ = some (.slice (some ⟨bf, of, none⟩) q0 cd0) ∧ w'.cell? ⟨bf, of + k * 2, none⟩ = some (.string nm) ∧ w'.cell? ⟨bf, of + k * 2 + 1, none⟩ = some (.int .i64 nz))
              (first | exact ⟨k3, y1, y2⟩ | exact ⟨bcell b9 k3, bcell b9 y1, bcell b9 y2⟩)
              (first
                | (go_at_call 21; refine (refPut_any none 0 0 [] nz wr.drew (Rd.nil _) hz0 hz1 (by omega)).mono ?_; rintro e w9 ⟨A9, c9, rfl, _, bb⟩; rw [HE.out, Nat.zero_add]; have b9 := below_chain b0 bb; clear bb))
            have s9 := sq.below b9
            clear k0 k1 k2 k3 y1 y2 b9
            go_wp2_with fail
            go_roundw
            case rel => exact ⟨k + 1, z + 1 + nm.size + E, by omega, by go_num, by go_num, hqn, Go.Lib.hid (by rw [HST.out, HZ.out]; omega), s9⟩
            case measure => simp [intOf]; omega
          · obtain rfl : q0 = k := by omega
            have hN : N = z := by
              rw [HSUM.out, HZ.out, HQ2.out, List.take_of_length_le (by rw [LF.out]; exact Nat.le_refl _)]
            subst hN
            have B9 := sq.bel
            go_wp2_with fail
            go_ret
            exact ⟨rfl, B9⟩
  · have m0 : (mayE fa != 0) = true := by rw [bne_iff_ne]; exact ha0
    have B5 := st5.bel
    generalize mayE fa = MA at *
    clear ha0
    go_wp2_with fail
    go_ret
    exact ⟨rfl, B5⟩

section
variable {H : Type} {enc : TypeId × Value → H}
set_option maxRecDepth 100000 in
theorem sizes_main (W : World) (base : Nat) (v0 : Value) {d0 : DataW H} {p0 : List MemPlace} (o0 : Value.okWide Try.prog W .any base 26 v0)
    (h0 : DataW.Trod enc Try.prog W 0 (fun _ => true) true 26 v0 d0 p0) :
    Calls Try.prog 8 #[v0] W fun e W' => e = .returned (.bool true) ∧ Below W.heap.size W W' := by
  obtain ⟨ea, hv, oka⟩ := op_event o0 h0
  exact sizes_walk v0 ea W hv oka
end

end Go.Proofs.Ytjglpmakjampjaa.EeLaw
