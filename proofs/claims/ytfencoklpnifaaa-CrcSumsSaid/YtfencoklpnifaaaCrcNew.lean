/-
  Contract of layer 2 (crc): New; what a table in memory is.
-/
import Derived.Test.YtfencoklpnifaaaCrcEntry
import Derived.Test.YtfencoklpnifaaaNumMem
import Derived.Laws.Rows
import Derived.Deep.WholeRow
namespace Go.Proofs.Ytfencoklpnifaaa.CrcWalk
open Go.RowKit Go.Proofs.Ytfencoklpnifaaa.CrcMath Go.Proofs.Ytfencoklpnifaaa.NumMem

/-- The table of which k entries are made. -/
def part (k : Nat) : Array Value := ((List.range 256).map fun j => Value.int .u32 ((if j < k then step8 j else 0 : Nat) : Int)).toArray

theorem part_size (k : Nat) : (part k).size = 256 := by simp [part]
theorem part_get (k j : Nat) (h : j < 256) : (part k)[j]? = some (.int .u32 ((if j < k then step8 j else 0 : Nat) : Int)) := by
  simp [part, h]
theorem part_set (k : Nat) : (part k).setIfInBounds k (.int .u32 ((step8 k : Nat) : Int)) = part (k + 1) := by
  apply Array.ext_getElem?
  intro j
  rw [Array.getElem?_setIfInBounds]
  by_cases hj : j < 256
  · rw [part_get (k + 1) j hj]
    by_cases hkj : k = j
    · subst hkj
      rw [if_pos rfl, if_pos (by rw [part_size]; exact hj), if_pos (by omega)]
    · rw [if_neg hkj, part_get k j hj]
      by_cases h2 : j < k
      · rw [if_pos h2, if_pos (by omega)]
      · rw [if_neg h2, if_neg (by omega)]
  · have e1 : (part (k + 1))[j]? = none := Array.getElem?_eq_none (by rw [part_size]; omega)
    have e2 : (part k)[j]? = none := Array.getElem?_eq_none (by rw [part_size]; omega)
    rw [e1, e2]
    split <;> first | rfl | (rw [part_size]; rw [if_neg (by omega)])
theorem part_one (k : Nat) : (part k).all (·.oneCell') = true := by
  rw [Array.all_eq_true_iff_forall_mem]
  intro v hv
  simp [part] at hv
  obtain ⟨j, _, rfl⟩ := hv
  rfl

/-- The whole table. -/
def tab : Array Value := part 256
theorem tab_size : tab.size = 256 := part_size 256
theorem tab_get (j : Nat) (h : j < 256) : tab[j]? = some (.int .u32 ((step8 j : Nat) : Int)) := by
  unfold tab
  rw [part_get 256 j h, if_pos h]
theorem tab_one : tab.all (·.oneCell') = true := part_one 256

theorem tab_info : (Try.prog.info? 27).map (fun i => (i.zero, i.size)) = some (some (.agg (part 0)), 256) := by kernel_rfl

/-- Block g is the table. -/
def Tab (w : World) (g : Nat) : Prop := w.heap[g]? = some (.cells tab 27 (0, 0))
theorem Tab.lt {w : World} {g : Nat} (h : Tab w g) : g < w.heap.size := (Array.getElem?_eq_some_iff.1 h).1
theorem Tab.below {w w' : World} {g : Nat} (h : Tab w g) (hb : Below w.heap.size w w') : Tab w' g := (hb.block g h.lt).trans h
theorem Tab.cell {w : World} {g : Nat} (h : Tab w g) (j : Nat) (hj : j < 256) : w.cell? ⟨g, j, none⟩ = some (.int .u32 ((step8 j : Nat) : Int)) := by
  rw [cell_of_row w g j _ _ _ h]
  exact tab_get j hj
theorem Tab.new (w : World) : Tab (w.alloc (.cells tab 27)) w.heap.size := heap_alloc_new w _

theorem below_setRow {B : Nat} {a w : World} (h : Below B a w) (g : Nat) (cs : Array Value) (hg : B ≤ g) : Below B a (w.setRow g cs) :=
  ⟨h.os, h.tape, h.output, by simpa using h.size, fun k hk => (setRow_other w g k cs (by omega)).trans (h.block k hk)⟩

set_option maxRecDepth 100000 in
set_option maxHeartbeats 1000000 in
theorem new_any (w : World) :
    Calls Try.prog 11 #[] w fun e w' => e = .returned (.agg tab) ∧ Below w.heap.size w w' := by
  obtain ⟨hz, hsz⟩ := zero_of_info tab_info
  go_enter Try.func11, Try.ntmps11
  go_wp2_with fail
  go_loopw [3] (fun i wr => ∃ k : Nat, k ≤ 256 ∧ i = .int .i64 k ∧ wr = (w.alloc (.cells (part 0) 27)).alloc (.cells (part k) 27)) (fun i _ => 256 - (intOf i).toNat)
  case atStart => exact ⟨0, by omega, rfl, rfl⟩
  case round =>
    obtain ⟨k, hk, rfl, rfl⟩ := hrel
    by_cases hlt : k < 256
    · have hg := part_get k k hlt
      have hs := part_set k
      have hs8 := step8_lt k (by omega)
      go_wp2_with (go_at_call 19; refine (entry_any k _ (by omega)).mono ?_; rintro e w' ⟨rfl, rfl⟩)
      go_roundw
      case rel => exact ⟨k + 1, by omega, by go_num, rfl⟩
      case measure => simp [intOf]; omega
    · obtain rfl : k = 256 := by omega
      rw [← part_size 256] at hsz
      have H1 := Go.Lib.hid hsz
      clear hsz
      go_wp2_with (first
        | (with_reducible refine wpList_load_row rfl 27 (.tmp 1) rfl (w.heap.size + 1) rfl 27 (part 256) (0, 0) _ (heap_alloc2_new w _ _) Try.underlying27 rfl H1.out ?_)
        | (with_reducible refine wpList_store_row rfl 27 (.tmp 0) (.tmp 12) rfl w.heap.size (part 256) rfl rfl 27 (part 0) (heap_alloc2_old w _ _) H1.out (by rw [part_size, part_size]) (part_one 256) ?_))
      exact bodyPost_ret_by (v := .agg (part 256)) (results_cell_row rfl _ _ w.heap.size 27 (part 256) (0, 0) _ rfl (setRow_heap _ _ _ _ _ _ (heap_alloc2_old w _ _)) Try.underlying27 rfl H1.out) rfl ⟨rfl, below_setRow (((Below.refl _ _).alloc (Nat.le_refl _) _).alloc (by simp) _) _ _ (Nat.le_refl _)⟩

end Go.Proofs.Ytfencoklpnifaaa.CrcWalk
