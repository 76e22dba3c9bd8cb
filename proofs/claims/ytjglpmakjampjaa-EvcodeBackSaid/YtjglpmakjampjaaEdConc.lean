/-
  Contracts of the library's slices.Grow and slices.Concat, on bytes.
-/
import Derived.Test.YtjglpmakjampjaaNumApp
import Derived.Test.YtjglpmakjampjaaNumPut
import Derived.Lib.AppendZerosOnto
namespace Go.Proofs.Ytjglpmakjampjaa.EdWalk
open Go.RowKit Go.Proofs.Ytjglpmakjampjaa.NumMath Go.Proofs.Ytjglpmakjampjaa.NumMem Go.Proofs.Ytjglpmakjampjaa.NumWalk

theorem u8_info_one : ∃ i, Try.prog.info? 5 = some i ∧ i.zero = some (.int .u8 0) ∧ i.size = 1 ∧ i.bytes = 1 := by
  have hi := u8_info
  cases hq : Try.prog.info? 5 with
  | none => simp [hq] at hi
  | some i => simp [hq] at hi; exact ⟨i, rfl, hi.1, hi.2.1, hi.2.2⟩

set_option maxHeartbeats 2000000 in
set_option maxRecDepth 100000 in
/-- Grow(nil, n): nothing, with room for n. -/
theorem grow_any (n : Nat) (w : World) (h0 : 0 < n) (hn : n ≤ 140737488355328) :
    Calls Try.prog 39 #[.slice none 0 0, .int .i64 n] w fun e w' => ∃ cap, e = .returned (.slice (some ⟨w.heap.size, 0, none⟩) 0 cap) ∧ Own w' w.heap.size 5 (some ⟨w.heap.size, 0, none⟩) 0 cap [] ∧ Below w.heap.size w w' := by
  obtain ⟨i, g1, g2, g3, g4⟩ := u8_info_one
  have hrz : ∀ ty, (Builtin.append_ #[22, 3] ty #[.slice none 0 0, .int .i64 n]).run Try.prog w = .ok (.slice (some ⟨w.heap.size, 0, none⟩) n (grownCap w n 0 5)) (w.drew.alloc (.cells (#[] ++ Builtin.zeroCells #[.int .u8 0] n ++ Builtin.zeroCells #[.int .u8 0] (grownCap w n 0 5 - n)) 5)) := fun ty => by
    have h := Lib.run_append_grow_zeros (P := Try.prog) w 22 3 ty 5 i (.int .u8 0) .i64 .i64 Try.underlying22 Try.underlying3 g1 g2 none 0 0 [] (by simp [Builtin.firstCells]) n h0 (by omega) (by omega) (by omega) (by rw [g4]; omega) (by
      rw [Nat.zero_add, g4]
      exact growslice_fits h0 (by omega))
    rw [Nat.zero_add] at h
    exact h
  have hge := grownCap_ge w n 0 5
  have hle := grownCap_le_maxLen w n 0 5 (by unfold maxLen; omega)
  obtain ⟨G, hG⟩ : ∃ G, G = grownCap w n 0 5 := ⟨_, rfl⟩
  rw [← hG] at hrz hge hle
  have own : Own (w.alloc (.cells (Builtin.zeroCells #[.int .u8 0] n ++ Builtin.zeroCells #[.int .u8 0] (G - n)) 5)).drew w.heap.size 5 (some ⟨w.heap.size, 0, none⟩) 0 G [] :=
    ⟨by simp [cellsOf], .inr ⟨w.heap.size, G, _, rfl, Nat.le_refl _, heap_alloc_new w _, Nat.zero_le _, hle, by simp only [Array.size_append, size_zeroCells]; simp; omega, by simp [cellsOf]⟩⟩
  have OWN := Go.Lib.hid own
  have bel : Below w.heap.size w (w.alloc (.cells (Builtin.zeroCells #[.int .u8 0] n ++ Builtin.zeroCells #[.int .u8 0] (G - n)) 5)).drew :=
    let h := (Below.refl w.heap.size w).alloc (Nat.le_refl _) (.cells (Builtin.zeroCells #[.int .u8 0] n ++ Builtin.zeroCells #[.int .u8 0] (G - n)) 5)
    ⟨h.os, h.tape, h.output, h.size, h.block⟩
  have BEL := Go.Lib.hid bel
  clear own bel hG
  unfold maxLen at hle
  go_enter Try.func39, Try.ntmps39
  go_wp2_with (at_builtin; refine Lib.wpList_append_run _ rfl _ _ _ _ rfl _ _ rfl rfl _ _ (hrz _) ?_)
  go_ret
  exact ⟨G, rfl, OWN.out, BEL.out⟩

set_option maxHeartbeats 4000000 in
set_option maxRecDepth 100000 in
/-- Concat of two. -/
theorem concat_any (g : Nat) (A B : Option Addr) (n ca m cb : Nat) (l k : List UInt8) (w : World) (c0 : w.cell? ⟨g, 0, none⟩ = some (.slice A n ca)) (c1 : w.cell? ⟨g, 1, none⟩ = some (.slice B m cb)) (hl : Rd w A n ca l) (hk : Rd w B m cb k) (h0 : 0 < n + m) (hs : n + m ≤ 1000000000) :
    Calls Try.prog 23 #[.slice (some ⟨g, 0, none⟩) 2 2] w fun e w' => ∃ A' c', e = .returned (.slice A' (n + m) c') ∧ Own w' w.heap.size 5 A' (n + m) c' (l ++ k) ∧ Below w.heap.size w w' := by
  go_enter Try.func23, Try.ntmps23
  go_wp2_with fail
  go_loopw [3, 5, 11] (fun sz _ i wr => ∃ j : Nat, j ≤ 2 ∧ i = .int .i64 j ∧ sz = .int .i64 ((if j = 0 then 0 else if j = 1 then n else n + m : Nat) : Int) ∧ w = wr) (fun _ _ i _ => 2 - (intOf i).toNat)
  case atStart => exact ⟨0, by omega, rfl, rfl, rfl⟩
  case round =>
    obtain ⟨j, hj, rfl, rfl, rfl⟩ := hrel
    obtain rfl | rfl | rfl : j = 0 ∨ j = 1 ∨ j = 2 := by omega
    · go_wp2_with fail
      go_roundw
      case rel => exact ⟨1, by omega, by go_num, by simp⟩
      case measure => simp [intOf]
    · go_wp2_with fail
      go_roundw
      case rel => exact ⟨2, by omega, by go_num, by simp⟩
      case measure => simp [intOf]
    · have e2 : (if (2 : Nat) = 0 then 0 else if (2 : Nat) = 1 then n else n + m) = n + m := rfl
      rw [e2]
      clear e2
      have ob : ∀ W, Below w.heap.size w W → W.cell? ⟨g, 0, none⟩ = some (.slice A n ca) ∧ W.cell? ⟨g, 1, none⟩ = some (.slice B m cb) ∧ Rd W A n ca l ∧ Rd W B m cb k := fun W h =>
        ⟨(h.cell (p := ⟨g, 0, none⟩) (World.block_lt_of_cell? w _ c0)).trans c0, (h.cell (p := ⟨g, 1, none⟩) (World.block_lt_of_cell? w _ c1)).trans c1, hl.below h, hk.below h⟩
      have OB := Go.Lib.hid ob
      have HL := Go.Lib.hid hl.len
      have HK := Go.Lib.hid hk.len
      clear ob c0 c1 hl hk
      go_wp2_with fail
      have cg := grow_any (n + m) w h0 (by omega)
      rw [show ((n + m : Nat) : Int) = (n : Int) + (m : Int) from by omega] at cg
      refine cg.mono ?_
      rintro e w2 ⟨cap, rfl, o2, b2⟩
      clear cg
      go_wp2_with fail
      go_loopw [6, 8, 27] (fun ns _ i wr => ∃ (j : Nat) (A' : Option Addr) (c' : Nat) (q : Nat) (x : List UInt8), j ≤ 2 ∧ i = .int .i64 j ∧ ns = .slice A' q c' ∧ Hid (q = (if j = 0 then 0 else if j = 1 then n else n + m) ∧ x = (if j = 0 then [] else if j = 1 then l else l ++ k)) ∧ Own wr w.heap.size 5 A' q c' x ∧ Below w.heap.size w wr) (fun _ _ i _ => 2 - (intOf i).toNat)
      case atStart => exact ⟨0, _, _, 0, [], by omega, rfl, rfl, Go.Lib.hid ⟨rfl, rfl⟩, o2, b2⟩
      case round =>
        obtain ⟨j, A', c', q, x, hj, rfl, rfl, HQ, oq, bq⟩ := hrel
        obtain ⟨k0, k1, r0, r1⟩ := OB.out wr bq
        clear o2 b2
        obtain rfl | rfl | rfl : j = 0 ∨ j = 1 ∨ j = 2 := by omega
        · have hq : q = 0 := HQ.out.1
          have hx : x = [] := HQ.out.2
          clear HQ
          rw [hq, hx] at oq
          rw [hq]
          clear hq hx
          have hsz : 0 + n ≤ 140737488355328 := by omega
          have bs := bq.size
          go_wp2_with (at_builtin; refine wpList_append_more rfl (.tmp 31) (.tmp 32) 22 rfl 5 Try.underlying22 u8_info rfl rfl oq r0 hsz bs w bq ?_; intro A3 c3 w3 o3 b3)
          go_roundw
          case rel => exact ⟨1, A3, c3, _, _, by omega, rfl, by simp, Go.Lib.hid ⟨rfl, rfl⟩, by simpa using o3, b3⟩
          case measure => simp [intOf]
        · have hq : q = n := HQ.out.1
          have hx : x = l := HQ.out.2
          clear HQ
          rw [hq, hx] at oq
          rw [hq]
          clear hq hx
          have hsz : n + m ≤ 140737488355328 := by omega
          have bs := bq.size
          go_wp2_with (at_builtin; refine wpList_append_more rfl (.tmp 31) (.tmp 32) 22 rfl 5 Try.underlying22 u8_info rfl rfl oq r1 hsz bs w bq ?_; intro A3 c3 w3 o3 b3)
          go_roundw
          case rel => exact ⟨2, A3, c3, _, _, by omega, rfl, by simp, Go.Lib.hid ⟨rfl, rfl⟩, o3, b3⟩
          case measure => simp [intOf]
        · have hq : q = n + m := HQ.out.1
          have hx : x = l ++ k := HQ.out.2
          clear HQ
          rw [hq, hx] at oq
          rw [hq]
          clear hq hx
          go_wp2_with fail
          go_ret
          exact ⟨A', c', rfl, oq, bq⟩

end Go.Proofs.Ytjglpmakjampjaa.EdWalk
