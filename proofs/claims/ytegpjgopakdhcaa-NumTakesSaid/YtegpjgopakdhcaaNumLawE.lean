/-
  Walks of the statements of layer 1: NumTakes.
-/
import Derived.Test.YtegpjgopakdhcaaNumRef
import Derived.Test.YtegpjgopakdhcaaNumLawB
import Derived.Deep.QuietTactic
import Derived.BigQuiet
import Derived.Deep.DrawnRows
import Derived.Deep.CutBlock
namespace Go.Proofs.Ytegpjgopakdhcaa.NumLaw
open Go.RowKit Go.WideShapes Go.ChangeShapes Go.Proofs.Ytegpjgopakdhcaa.NumMath Go.Proofs.Ytegpjgopakdhcaa.NumMem Go.Proofs.Ytegpjgopakdhcaa.NumWalk Go.Proofs.Ytegpjgopakdhcaa.Open
open Go.Lib (uvarint zigzag)
attribute [local go_sem ↓] Go.wp_at_zero Go.wp_at_succ

/-- A contract that leaves the world alone, inside a region that only reads. -/
theorem still {P : Program} {f : FuncId} {args : Array Value} {w : World} {n : Nat} {v : Value} (h : Calls P f args (w.drewN n) fun e w' => e = .returned v ∧ w.drewN n = w') : Calls P f args (w.drewN n) fun e w' => e = .returned v ∧ ∃ m, w' = w.drewN m :=
  h.mono fun _ _ hh => ⟨hh.1, n, hh.2.symm⟩

theorem bel_drewN {B : Nat} {a w : World} (h : Below B a w) (n : Nat) : Below B a (w.drewN n) := ⟨h.os, h.tape, h.output, h.size, h.block⟩

theorem left_n (g : Nat) (l : List UInt8) (bad : Bool) (n : Nat) (w : World) (h : Rdr w 49 g l bad) (hn : l.length = n) :
    Calls Try.prog 22 #[.pointer (some ⟨g, 0, none⟩)] w fun e w' => e = .returned (.int .i64 (n : Int)) ∧ w = w' := by
  subst hn
  exact left_any g l bad w h

set_option maxRecDepth 100000 in
set_option maxHeartbeats 2000000 in
theorem takes_walk (A : Option Addr) (n cap : Nat) (l : List UInt8) (A2 : Option Addr) (n2 cap2 : Nat) (B : Nat → Bool) (w : World) (hl : Rd w A n cap l) (hs : Sl w A2 n2 cap2 (fun i => .bool (B i))) :
    Calls Try.prog 4 #[.slice A n cap, .slice A2 n2 cap2] w fun e w' => e = .returned (.bool true) ∧ Below w.heap.size w w' := by
  have hcap := hl.le_cap
  have hmax := hl.2.2.1
  unfold maxLen at hmax
  have hcap2 := hs.1
  have hmax2 := hs.2.1
  unfold maxLen at hmax2
  have hc : ∀ k, k < n2 → ∃ b o, A2 = some ⟨b, o, none⟩ ∧ b < w.heap.size ∧ w.cell? ⟨b, o + k, none⟩ = some (.bool (B k)) := by
    intro k hk
    obtain ⟨b, o, hA, hb, h⟩ := hs.at_ (by omega)
    exact ⟨b, o, hA, hb, h k hk⟩
  have HC := Go.Lib.hid hc
  clear hc hs
  go_enter Try.func4, Try.ntmps4
  go_wp2_with fail
  refine (shown_any _).mono ?_
  rintro e w1 ⟨rfl, B1⟩
  have r1 := hl.below B1
  go_upto_if 13 with (fail)
  go_cut [0] (fun v wx => w1 = wx ∧ ∃ A' n' cap' l', v = .slice A' n' cap' ∧ n' ≤ 200 ∧ Rd w1 A' n' cap' l')
  case first =>
    go_wp2_with fail
    · go_meet
      exact ⟨rfl, _, _, _, _, rfl, by omega, r1.first (by omega)⟩
    · go_meet
      exact ⟨rfl, _, _, _, _, rfl, by omega, r1⟩
  case rest =>
    obtain ⟨rfl, A', n', cap', l', rfl, hn', r2⟩ := hcut
    clear r1 hl hcap hmax
    have ba : Below w1.heap.size w1 (w1.alloc (.cells #[] 5)) := (Below.refl _ _).alloc (Nat.le_refl _) _
    have r3 := r2.below ba
    go_wp2_with (first
      | (at_builtin; refine wpList_append_fresh rfl (.tmp 16) (.tmp 17) 22 rfl 5 Try.underlying22 u8_info rfl rfl (Own.empty w1 5 (Nat.le_refl _)) r3 (by omega) ba.size w1 ba ?_; intro A5 c5 w5 o5 b5))
    have B5 := below_chain B1 b5
    refine (newReader_any _ _ _ _ _ o5.rd (by omega)).mono ?_
    rintro e w6 ⟨g, rfl, hg, hr6, hb6⟩
    have B6 := below_chain B5 hb6
    have hg' : w.heap.size ≤ g := Nat.le_trans B5.size hg
    have r6 := (r2.below b5).below hb6
    have bc : Below w6.heap.size w6 (w6.alloc (.cells #[] 5)) := (Below.refl _ _).alloc (Nat.le_refl _) _
    have r7 := r6.below bc
    clear r2 r3 ba o5 b5 B5 hb6 B1
    go_wp2_with (first
      | (at_builtin; refine wpList_append_fresh rfl (.tmp 20) (.tmp 21) 22 rfl 5 Try.underlying22 u8_info rfl rfl (Own.empty w6 5 (Nat.le_refl _)) r7 (by omega) bc.size w6 bc ?_; intro A8 c8 w8 o8 b8))
    have hr8 : Rdr (w8.alloc (.cells #[.slice A8 n' c8, .bool false] 32)) 49 g l' false := (hr6.below b8).below ((Below.refl _ _).alloc (Nat.le_refl _) _)
    have hy8 : Rdr (w8.alloc (.cells #[.slice A8 n' c8, .bool false] 32)) 32 w8.heap.size l' false := ⟨_, _, _, heap_alloc_new w8 _, o8.rd.below ((Below.refl _ _).alloc (Nat.le_refl _) _)⟩
    have B8 : Below w.heap.size w (w8.alloc (.cells #[.slice A8 n' c8, .bool false] 32)) := (below_chain B6 b8).alloc (below_chain B6 b8).size _
    have hgg : g < w8.heap.size := Nat.lt_of_lt_of_le hr6.lt b8.size
    generalize hg2 : w8.heap.size = g2 at *
    have hg2' : w.heap.size ≤ g2 := by omega
    clear hg2 hr6 r6 r7 bc o8 b8 B6 hg
    go_loopw [8] (fun i wr => ∃ (k : Nat) (z : List UInt8) (bad : Bool), i = .int .i64 (k : Nat) ∧ Rdr wr 49 g z bad ∧ Rdr wr 32 g2 z bad ∧ Below w.heap.size w wr) (fun i _ => 40 - (intOf i).toNat)
    case atStart => exact ⟨0, _, _, rfl, hr8, hy8, B8⟩
    case round =>
      obtain ⟨k, z, bad, rfl, hr, hy, hB⟩ := hrel
      clear hr8 hy8 B8
      by_cases hk : k < n2 ∧ k < 40
      · obtain ⟨hk1, hk2⟩ := hk
        obtain ⟨b, o, rfl, hb, hcell⟩ := HC.out k hk1
        have hcell1 := (hB.cell (p := ⟨b, o + k, none⟩) hb).trans hcell
        clear hcell HC
        have hg1 : g ≠ g2 := by omega
        cases hBk : B k with
        | true =>
          rw [hBk] at hcell1
          clear hBk
          go_wp2_with fail
          refine (text_any g _ _ _ hr).mono ?_
          rintro e w9 ⟨rfl, hr9, hg9⟩
          have hy9 := hy.grown hg9 (Ne.symm hg1) hr.no_byte
          have B9 := below_grownBy hB hg9 hg'
          clear hr hy hg9 hB hcell1
          go_wp2_with fail
          refine (refText_any g2 _ _ _ hy9).mono ?_
          rintro e w10 ⟨rfl, hy10, hg10⟩
          have hr10 := hr9.grown hg10 hg1 hy9.no_byte
          have B10 := below_grownBy B9 hg10 hg2'
          clear hr9 hy9 hg10 B9
          generalize textV z = zv at *
          generalize textL z = z' at *
          generalize textB z bad = bad' at *
          go_wp2_with fail
          have hyc := hy10
          obtain ⟨Ay, ny, cy, hh, hry⟩ := hyc
          obtain ⟨c0, c1, hf⟩ := two_cell hh
          have hlen := hry.len
          have HLEN := Go.Lib.hid hlen
          clear hf hh hlen
          cases bad'
          all_goals
            go_quiet (first
              | (go_at_call 21; exact still (bad_any g _ _ _ hr10))
              | (go_at_call 22; exact still (left_n g _ _ _ _ hr10 HLEN.out)))
            go_wp2_with fail
            go_roundw
            case rel => exact ⟨k + 1, _, _, by go_num, hr10, hy10, bel_drewN B10 _⟩
            case measure => simp [intOf]; omega
        | false =>
          rw [hBk] at hcell1
          clear hBk
          go_wp2_with fail
          refine (num_any g _ _ _ hr).mono ?_
          rintro e w9 ⟨rfl, hr9, hg9⟩
          have hy9 := hy.grown hg9 (Ne.symm hg1) hr.no_byte
          have B9 := below_grownBy hB hg9 hg'
          clear hr hy hg9 hB hcell1
          go_wp2_with fail
          refine (refNum_any g2 _ _ _ hy9).mono ?_
          rintro e w10 ⟨rfl, hy10, hg10⟩
          have hr10 := hr9.grown hg10 hg1 hy9.no_byte
          have B10 := below_grownBy B9 hg10 hg2'
          clear hr9 hy9 hg10 B9
          generalize numV z = zv at *
          generalize numL z = z' at *
          generalize numB z bad = bad' at *
          go_wp2_with fail
          have hyc := hy10
          obtain ⟨Ay, ny, cy, hh, hry⟩ := hyc
          obtain ⟨c0, c1, hf⟩ := two_cell hh
          have hlen := hry.len
          have HLEN := Go.Lib.hid hlen
          clear hf hh hlen
          cases bad'
          all_goals
            go_quiet (first
              | (go_at_call 21; exact still (bad_any g _ _ _ hr10))
              | (go_at_call 22; exact still (left_n g _ _ _ _ hr10 HLEN.out)))
            go_wp2_with fail
            go_roundw
            case rel => exact ⟨k + 1, _, _, by go_num, hr10, hy10, bel_drewN B10 _⟩
            case measure => simp [intOf]; omega
      · by_cases hkn : k < n2
        · have hk40 : ¬ k < 40 := by omega
          clear hk HC
          go_wp2_with fail
          go_ret
          exact ⟨rfl, hB⟩
        · clear hk HC
          go_wp2_with fail
          go_ret
          exact ⟨rfl, hB⟩

section
variable {H : Type} {enc : TypeId × Value → H}
theorem takes_main (W : World) (base : Nat) (v0 v1 : Value) {d0 d1 : DataW H} {p0 p1 : List MemPlace} (o0 : Value.okWide Try.prog W .any base 22 v0) (o1 : Value.okWide Try.prog W .any base 27 v1)
    (h0 : DataW.Trod enc Try.prog W 0 (fun _ => true) true 22 v0 d0 p0) (h1 : DataW.Trod enc Try.prog W 0 (fun _ => true) true 27 v1 d1 p1) :
    Calls Try.prog 4 #[v0, v1] W fun e W' => e = .returned (.bool true) ∧ Below W.heap.size W W' := by
  obtain ⟨A, n, cap, l, rfl, hl⟩ := op_bytes Try.underlying22 Try.underlying5 (by kernel_rfl) o0 h0
  obtain ⟨A2, n2, cap2, B, rfl, hs⟩ := op_bools Try.underlying27 Try.underlying4 (by kernel_rfl) o1 h1
  exact takes_walk A n cap l A2 n2 cap2 B W hl hs
end

end Go.Proofs.Ytegpjgopakdhcaa.NumLaw
