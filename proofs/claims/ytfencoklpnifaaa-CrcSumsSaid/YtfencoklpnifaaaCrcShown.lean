/-
  The head of all statements of layer 2: the document's example (registrarlaw02.shown returns true, and changes nothing that was there); few.
-/
import Derived.Test.YtfencoklpnifaaaCrcSeal
import Derived.Lib.SlBytesConst
namespace Go.Proofs.Ytfencoklpnifaaa.CrcLaw
open Go.RowKit Go.Proofs.Ytfencoklpnifaaa.CrcMath Go.Proofs.Ytfencoklpnifaaa.NumMem Go.Proofs.Ytfencoklpnifaaa.CrcWalk

theorem tab_len : (Try.prog.info? 27).map (·.size) = some tab.size := by
  rw [tab_size]
  exact (zero_of_info tab_info).2
theorem tab_zero : ∀ W, (zeroValue 27).run Try.prog W = .ok (.agg (CrcWalk.part 0)) W := (zero_of_info tab_info).1

/-- t := crc.New(): the store of the table into a block of its own. -/
theorem wpList_table {ops : Array Oper} {rest : List Oper} {o : Oper} {a : Act} {w : World} {Q : Exit → Act → World → Prop} (hgd : o.guard = none) (x y : Operand) (ho : o.op = .store 27 x y)
    (hx : a.eval x = .pointer (some ⟨w.heap.size, 0, none⟩)) (hy : a.eval y = .agg tab)
    (h : wpList Try.prog ops Q rest (a.put o.dst undef) (w.alloc (.cells tab 27))) : wpList Try.prog ops Q (o :: rest) a (w.alloc (.cells (CrcWalk.part 0) 27)) :=
  wpList_store_row hgd 27 x y ho w.heap.size tab hx hy 27 (CrcWalk.part 0) (heap_alloc_new w _) tab_len (by rw [tab_size, part_size]) tab_one (by
    rw [World.setRow_alloc_new]
    exact h)

theorem digits_sum : sum [49, 50, 51, 52, 53, 54, 55, 56, 57] = 3421780262 := by decide +kernel

def nine : Array Value := #[.int .u8 49, .int .u8 50, .int .u8 51, .int .u8 52, .int .u8 53, .int .u8 54, .int .u8 55, .int .u8 56, .int .u8 57]
theorem nine_rd (w : World) (fr : Nat × Nat) (g : Nat) (hg : g = w.heap.size) : Rd (w.alloc (.cells nine 5 fr)) (some ⟨g, 0, none⟩) 9 9 [49, 50, 51, 52, 53, 54, 55, 56, 57] := by
  subst hg
  refine Rd.of_block (heap_alloc_new w _) rfl (Nat.le_refl _) (by unfold maxLen; omega) fun i hi => ?_
  have : nine = (cellsOf [49, 50, 51, 52, 53, 54, 55, 56, 57]).toArray := rfl
  rw [this]
  have hi' : i < ([49, 50, 51, 52, 53, 54, 55, 56, 57] : List UInt8).length := hi
  simp only [cellsOf, List.getElem?_toArray, List.getElem?_map, List.getElem?_eq_getElem hi', List.getD, Option.map_some, Option.getD_some]
/-- []byte("123456789"). -/
theorem nine_conv (w : World) (g : Nat) (hg : g = w.heap.size) : (convert 22 22 (.slice (some ⟨g, 0, none⟩) 9 9)).run Try.prog (w.alloc (.cells nine 5)) = .ok (.slice (some ⟨g, 0, none⟩) 9 9) (w.alloc (.cells nine 5 (9, 10))) :=
  by subst hg; exact Go.Lib.run_convert_bytes_const (P := Try.prog) w 22 5 nine 9 9 Try.underlying22 Try.underlying5

set_option maxRecDepth 100000 in
set_option maxHeartbeats 1000000 in
theorem shown_any (w : World) : Calls Try.prog 9 #[] w fun e w' => e = .returned (.bool true) ∧ Below w.heap.size w w' := by
  have hz := tab_zero
  go_enter Try.func9, Try.ntmps9
  go_wp2_with fail
  refine (new_any _).mono ?_
  rintro e w1 ⟨rfl, B1⟩
  have kc := nine_conv (w1.alloc (.cells tab 27)) (w1.heap.size + 1) (by simp)
  unfold nine at kc
  have t1 := Tab.new w1
  have b2 : Below (w1.alloc (.cells tab 27)).heap.size (w1.alloc (.cells tab 27)) ((w1.alloc (.cells tab 27)).alloc (.cells nine 5 (9, 10))) := (Below.refl _ _).alloc (Nat.le_refl _) _
  have t2 := t1.below b2
  have r2 := nine_rd (w1.alloc (.cells tab 27)) (9, 10) (w1.heap.size + 1) (by simp)
  have B2 : Below w.heap.size w ((w1.alloc (.cells tab 27)).alloc (.cells nine 5 (9, 10))) := below_chain (below_chain B1 ((Below.refl _ _).alloc (Nat.le_refl _) _)) b2
  clear b2 B1 t1
  go_wp2_with (with_reducible refine wpList_table rfl (.tmp 1) (.tmp 2) rfl rfl rfl ?_)
  refine (sum_any w1.heap.size _ 9 9 _ _ t2 r2).mono ?_
  rintro e w' ⟨rfl, rfl⟩
  rw [digits_sum]
  clear r2 kc
  go_wp2_with fail
  refine (seal_any w1.heap.size none 0 0 [] _ t2 (Rd.nil _) (by omega)).mono ?_
  rintro e w3 ⟨rfl, _, b3⟩
  have B3 := below_chain B2 b3
  clear B2 b3 t2
  go_wp2_with fail
  go_ret
  exact ⟨rfl, B3⟩

set_option maxHeartbeats 1000000 in
theorem few_any (A : Option Addr) (n cap : Nat) (w : World) (hc : n ≤ cap) (hm : cap ≤ 9223372036854775807) :
    Calls Try.prog 10 #[.slice A n cap] w fun e w' => e = .returned (.slice A (min n 500) cap) ∧ w = w' := by
  by_cases h5 : n ≤ 500
  · rw [Nat.min_eq_left h5]
    go_enter Try.func10, Try.ntmps10
    go_wp2_with fail
    go_ret
    exact ⟨rfl, rfl⟩
  · rw [Nat.min_eq_right (by omega)]
    have hs := fun W => slice_upto A n cap 500 (by omega) W
    go_enter Try.func10, Try.ntmps10
    go_wp2_with fail
    go_ret
    exact ⟨rfl, rfl⟩

end Go.Proofs.Ytfencoklpnifaaa.CrcLaw
