/-
  Walks of the statements of layer 2: CrcParts.
-/
import Derived.Test.YtfencoklpnifaaaCrcLawB
import Derived.Test.YtfencoklpnifaaaCrcTurn
import Derived.Test.YtfencoklpnifaaaCrcArr
import Derived.StillTailTactics
namespace Go.Proofs.Ytfencoklpnifaaa.CrcLaw
open Go.RowKit Go.WideShapes Go.ChangeShapes Go.Proofs.Ytfencoklpnifaaa.CrcMath Go.Proofs.Ytfencoklpnifaaa.NumMem Go.Proofs.Ytfencoklpnifaaa.CrcWalk Go.Proofs.Ytfencoklpnifaaa.Open

theorem xor8 (a b : UInt8) : bits .xor .u8 (a.toNat : Int) (b.toNat : Int) = ((a ^^^ b).toNat : Int) := by
  rw [u8_xor_nat _ _ (UInt8.toNat_lt a) (UInt8.toNat_lt b), UInt8.toNat_xor]

/-- A new copy of bytes, as a row of its own from its first cell on. -/
theorem Own.cellAt_ {w : World} {base : Nat} {t : TypeId} {A : Option Addr} {n cap : Nat} {l : List UInt8} (h : Own w base t A n cap l) (hn : 0 < n) :
    ∃ g, A = some ⟨g, 0, none⟩ ∧ base ≤ g ∧ ∀ i, i < n → w.cell? ⟨g, i, none⟩ = some (.int .u8 ((l.getD i 0).toNat : Int)) ∧ w.frozen? ⟨g, i, none⟩ = false := by
  have hr := h.rd
  rcases h.2 with ⟨hv, h0⟩ | ⟨g, c, cur, hv, hb, hg, _⟩
  · omega
  · injection hv with e1 e2 e3
    subst e1
    refine ⟨g, rfl, hb, fun i hi => ⟨?_, by simp [World.frozen?, hg]⟩⟩
    obtain ⟨b, o, he, hc⟩ := hr.2.2.2 hn
    injection he with he
    injection he with e1 e2
    subst e1 e2
    have := hc i hi
    rwa [Nat.zero_add] at this

theorem Rd.set_ {w : World} {g n cap : Nat} {l : List UInt8} (h : Rd w (some ⟨g, 0, none⟩) n cap l) (i : Nat) (hi : i < n) (c : UInt8) : Rd (w.setCell ⟨g, i, none⟩ (.int .u8 (c.toNat : Int))) (some ⟨g, 0, none⟩) n cap (l.set i c) := by
  have hl := h.len
  refine ⟨by rw [List.length_set]; exact hl, h.2.1, h.2.2.1, fun hn => ⟨g, 0, rfl, fun j hj => ?_⟩⟩
  obtain ⟨b, o, he, hc⟩ := h.2.2.2 hn
  injection he with he
  injection he with e1 e2
  subst e1 e2
  by_cases hij : i = j
  · subst hij
    rw [Nat.zero_add]
    have h0 := hc i hi
    rw [Nat.zero_add] at h0
    have hlt : i < l.length := by omega
    rw [World.cell?_setCell_same w _ _ h0]
    simp [List.getD, hlt]
  · have h0 := hc j hj
    rw [Nat.zero_add] at h0 ⊢
    rw [World.cell?_setCell_other _ _ _ _ (by intro h; injection h with _ h2; first | exact hij h2 | exact hij h2.symm), h0]
    simp [List.getD, hij]

set_option maxRecDepth 100000 in
set_option maxHeartbeats 4000000 in
theorem parts_walk (A : Option Addr) (n cap : Nat) (l : List UInt8) (a0 a1 : UInt8) (p : Int) (w : World) (hl : Rd w A n cap l) (hp0 : -9223372036854775808 ≤ p) (hp1 : p ≤ 9223372036854775807) :
    Calls Try.prog 6 #[.slice A n cap, .agg #[.int .u8 (a0.toNat : Int), .int .u8 (a1.toNat : Int)], .int .i64 p] w fun e w' => e = .returned (.bool true) ∧ Below w.heap.size w w' := by
  have hcap := hl.le_cap
  have hmax := hl.2.2.1
  unfold maxLen at hmax
  have hz := tab_zero
  have b0 : Below w.heap.size w (w.alloc (.cells #[.int .u8 (a0.toNat : Int), .int .u8 (a1.toNat : Int)] 38)) := (Below.refl _ _).alloc (Nat.le_refl _) _
  have c0 : (w.alloc (.cells #[.int .u8 (a0.toNat : Int), .int .u8 (a1.toNat : Int)] 38)).heap[w.heap.size]? = some (.cells #[.int .u8 (a0.toNat : Int), .int .u8 (a1.toNat : Int)] 38) := heap_alloc_new w _
  have z0 : w.heap.size < (w.alloc (.cells #[.int .u8 (a0.toNat : Int), .int .u8 (a1.toNat : Int)] 38)).heap.size := by simp
  go_enter Try.func6, Try.ntmps6
  go_wp2_with fail
  generalize hW : w.alloc (.cells #[.int .u8 (a0.toNat : Int), .int .u8 (a1.toNat : Int)] 38) = w0 at *
  clear hW
  refine (shown_any _).mono ?_
  rintro e w1 ⟨rfl, b1⟩
  go_wp2_with fail
  refine (new_any _).mono ?_
  rintro e w2 ⟨rfl, b2⟩
  have b3 := below_chain (below_chain b1 b2) (tab_below w2)
  have B2 := below_chain b0 b3
  have t2 := Tab.new w2
  have c2 := (b3.block _ z0).trans c0
  clear b0 b1 b2 b3 c0 z0
  go_wp2_with (with_reducible refine wpList_table rfl (.tmp 8) (.tmp 11) rfl rfl rfl ?_)
  generalize hwx : w2.alloc (.cells tab 27) = w3 at *
  clear hwx hz
  refine (few_any A n cap _ hcap (by omega)).mono ?_
  rintro e w' ⟨rfl, rfl⟩
  have ra := few_rd (hl.below B2)
  have hn : min n 500 ≤ 500 := Nat.min_le_right _ _
  generalize min n 500 = n' at *
  generalize l.take n' = s at *
  clear hl hcap
  have hla := ra.len
  have HA := Go.Lib.hid hla
  clear hla
  have k0 : w3.cell? ⟨w.heap.size, 0, none⟩ = some (.int .u8 (a0.toNat : Int)) := by rw [cell_of_row w3 _ 0 _ _ _ c2]; rfl
  have k1 : w3.cell? ⟨w.heap.size, 1, none⟩ = some (.int .u8 (a1.toNat : Int)) := by rw [cell_of_row w3 _ 1 _ _ _ c2]; rfl
  have y0 := UInt8.toNat_lt a0
  have y1 := UInt8.toNat_lt a1
  have q0 := t2.cell a0.toNat y0
  have q1 := t2.cell a1.toNat y1
  have x0 : (a0.toNat : Int) < 256 := by omega
  have x1 : (a1.toNat : Int) < 256 := by omega
  have hin : (a0 = a1 ∧ (((step8 a0.toNat : Nat) : Int) == ((step8 a1.toNat : Nat) : Int)) = true ∧ ((a0.toNat : Int) == (a1.toNat : Int)) = true) ∨ (a0 ≠ a1 ∧ (((step8 a0.toNat : Nat) : Int) == ((step8 a1.toNat : Nat) : Int)) = false ∧ ((a0.toNat : Int) == (a1.toNat : Int)) = false) := by
    by_cases h : a0 = a1
    · subst h
      exact .inl ⟨rfl, by simp, by simp⟩
    · refine .inr ⟨h, ?_, ?_⟩
      · rw [beq_eq_false_iff_ne]
        intro h2
        have h3 : step8 a0.toNat = step8 a1.toNat := by omega
        exact h (UInt8.toNat_inj.1 (entry_inj y0 y1 h3))
      · rw [beq_eq_false_iff_ne]
        intro h2
        exact h (UInt8.toNat_inj.1 (by omega))
  obtain ⟨E, F, hE, hF, hEF⟩ : ∃ E F : Bool, (((step8 a0.toNat : Nat) : Int) == ((step8 a1.toNat : Nat) : Int)) = E ∧ ((a0.toNat : Int) == (a1.toNat : Int)) = F ∧ (!(E == F)) = false := by
    rcases hin with ⟨_, h1, h2⟩ | ⟨_, h1, h2⟩
    · exact ⟨true, true, h1, h2, rfl⟩
    · exact ⟨false, false, h1, h2, rfl⟩
  clear hin
  go_wp2_with fail
  go_quiet (fail)
  have r4 := ra.drewN nq
  have t4 := t2.drewN nq
  have B4 : Below w.heap.size w (w3.drewN nq) := bel_drewN B2 nq
  have c4 : (w3.drewN nq).heap[w.heap.size]? = some (.cells #[.int .u8 (a0.toNat : Int), .int .u8 (a1.toNat : Int)] 38) := c2
  clear ra t2 B2 c2 k0 k1 q0 q1 hE hF x1 y1
  generalize w3.drewN nq = w4 at *
  have k0 : w4.cell? ⟨w.heap.size, 0, none⟩ = some (.int .u8 (a0.toNat : Int)) := by rw [cell_of_row w4 _ 0 _ _ _ c4]; rfl
  by_cases hpn : p < 0
  · go_wp2_with fail
    go_ret
    exact ⟨rfl, B4⟩
  by_cases hpl : (n' : Int) ≤ p
  · go_wp2_with fail
    go_ret
    exact ⟨rfl, B4⟩
  obtain ⟨j, rfl⟩ := Int.eq_ofNat_of_zero_le (by omega : 0 ≤ p)
  by_cases hz0 : a0 = 0
  · have hq : ((a0.toNat : Int) == 0) = true := by subst hz0; rfl
    go_wp2_with fail
    go_ret
    exact ⟨rfl, B4⟩
  have hq : ((a0.toNat : Int) == 0) = false := by
    rw [beq_eq_false_iff_ne]
    intro h
    exact hz0 (UInt8.toNat_inj.1 (by simpa using h))
  have hj : j < n' := by omega
  have hts := turn_sum s j a0 (by rw [HA.out]; exact hj) hz0
  have htp := turn_step s j 0 [a0] (by rw [HA.out]; exact hj)
  rw [turn_zero] at htp
  have HTS := Go.Lib.hid hts
  have HTP := Go.Lib.hid htp
  clear hts htp hz0
  have ba : Below w4.heap.size w4 (w4.alloc (.cells #[] 5)) := (Below.refl _ _).alloc (Nat.le_refl _) _
  go_wp2_with (at_builtin; refine wpList_append_fresh rfl (.tmp 43) (.tmp 44) 22 rfl 5 Try.underlying22 u8_info rfl rfl (Own.empty w4 5 (Nat.le_refl _)) (r4.below ba) (by omega) ba.size w4 ba ?_; intro A5 c5 w5 o5 b5)
  obtain ⟨g, rfl, hg, hcs⟩ := Own.cellAt_ o5 (by omega)
  obtain ⟨kj, fj⟩ := hcs j hj
  have r5 := o5.rd
  have k5 : w5.cell? ⟨w.heap.size, 0, none⟩ = some (.int .u8 (a0.toNat : Int)) := by rw [cell_of_row w5 _ 0 _ _ _ ((b5.block _ (Array.getElem?_eq_some_iff.1 c4).1).trans c4)]; rfl
  have ex := xor8 (s.getD j 0) a0
  have b6 : Below w4.heap.size w4 (w5.setCell ⟨g, j, none⟩ (.int .u8 ((s.getD j 0 ^^^ a0).toNat : Int))) := b5.setCell hg _
  have B6 := below_chain B4 b6
  have q6 := r4.below b6
  have t6 := t4.below b6
  have r6 := Rd.set_ r5 j hj (s.getD j 0 ^^^ a0)
  have ht1 : s.set j (s.getD j 0 ^^^ a0) = turn s j 1 [a0] := HTP.out
  rw [ht1] at r6
  have hne : (((sum (turn s j 1 [a0]) : Nat) : Int) != ((sum s : Nat) : Int)) = true := by
    rw [bne_iff_ne]
    intro h
    exact HTS.out (by omega)
  rw [UInt8.toNat_xor] at B6 q6 t6 r6
  clear hcs r5 k0 c4 t4 r4 B4 ba o5 HTP ht1 HTS b6 b5
  generalize hx : s.getD j 0 = x at *
  clear hx
  go_region
  have B7 := B6.drew
  have q7 := q6.drew
  have t7 := t6.drew
  have r7 := r6.drew
  clear B6 q6 t6 r6
  generalize (w5.setCell ⟨g, j, none⟩ (.int .u8 ((x.toNat ^^^ a0.toNat : Nat) : Int))).drew = w7 at *
  go_wp2_with fail
  refine (sum_any w2.heap.size _ _ _ _ _ t7 r7).mono ?_
  rintro e w' ⟨rfl, rfl⟩
  generalize sum (turn s j 1 [a0]) = y at *
  go_wp2_with fail
  refine (sum_any w2.heap.size _ _ _ _ _ t7 q7).mono ?_
  rintro e w' ⟨rfl, rfl⟩
  generalize sum s = z at *
  go_wp2_with fail
  go_ret
  exact ⟨rfl, B7⟩

theorem u8_of {x : Int} (h : (Lit.int .u8 x).wf = true) : ∃ c : UInt8, x = (c.toNat : Int) := by
  have hb := bounds_u8 h
  refine ⟨UInt8.ofNat x.toNat, ?_⟩
  have : x.toNat < 256 := by omega
  simp [Nat.mod_eq_of_lt this]
  omega

section
variable {H : Type} {enc : TypeId × Value → H}
theorem parts_main (W : World) (base : Nat) (v0 v1 v2 : Value) {d0 d1 d2 : DataW H} {p0 p1 p2 : List MemPlace} (o0 : Value.okWide Try.prog W .any base 22 v0) (o1 : Value.okWide Try.prog W .any base 38 v1) (o2 : Value.okWide Try.prog W .any base 3 v2)
    (h0 : DataW.Trod enc Try.prog W 0 (fun _ => true) true 22 v0 d0 p0) (h1 : DataW.Trod enc Try.prog W 0 (fun _ => true) true 38 v1 d1 p1) (h2 : DataW.Trod enc Try.prog W 0 (fun _ => true) true 3 v2 d2 p2) :
    Calls Try.prog 6 #[v0, v1, v2] W fun e W' => e = .returned (.bool true) ∧ Below W.heap.size W W' := by
  obtain ⟨A, n, cap, l, rfl, hl⟩ := op_bytes Try.underlying22 Try.underlying5 (by kernel_rfl) o0 h0
  obtain ⟨a, b, rfl, wa, wb⟩ := op_arr2 Try.underlying38 Try.underlying5 (by kernel_rfl) (by kernel_rfl) o1 h1
  obtain ⟨a, rfl⟩ := u8_of wa
  obtain ⟨b, rfl⟩ := u8_of wb
  obtain ⟨p, rfl, x1, x2⟩ := op_i64 Try.underlying3 o2 h2
  exact parts_walk A n cap l a b p W hl x1 x2
end

end Go.Proofs.Ytfencoklpnifaaa.CrcLaw
