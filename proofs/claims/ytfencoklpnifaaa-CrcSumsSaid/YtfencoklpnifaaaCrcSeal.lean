/-
  Contracts of layer 2 (crc): Seal, Open (and bytes.Clone).
-/
import Derived.Test.YtfencoklpnifaaaCrcSum
import Derived.Test.YtfencoklpnifaaaCrcPut
import Derived.Test.YtfencoklpnifaaaNumApp
import Derived.WalkSpells
import Derived.Lib.LazyBuf
import Derived.Laws.Slices
import Derived.Laws.CopyOwn
import Derived.Deep.QuietTactic
import Derived.BigQuiet
import Derived.Deep.RegionWith
import Derived.Deep.RegionLaw
namespace Go.Proofs.Ytfencoklpnifaaa.CrcWalk
open Go.RowKit Go.Proofs.Ytfencoklpnifaaa.CrcMath Go.Proofs.Ytfencoklpnifaaa.NumMem

theorem u8_info : (Try.prog.info? 5).map (fun i => (i.zero, i.size, i.bytes)) = some (some (.int .u8 0), 1, 1) := by kernel_rfl
theorem u8_size : (Try.prog.info? 5).map (·.size) = some 1 := by kernel_rfl

theorem splice_zeros (l : List UInt8) (room : Nat) : splice (cellsOf (List.replicate (l.length + room) 0)) 0 (cellsOf l) = cellsOf (l ++ List.replicate room 0) := by
  unfold splice
  rw [cellsOf_append, cellsOf_length]
  simp [cellsOf]

theorem still {P : Program} {f : FuncId} {args : Array Value} {w : World} {n : Nat} {v : Value} (h : Calls P f args (w.drewN n) fun e w' => e = .returned v ∧ w.drewN n = w') : Calls P f args (w.drewN n) fun e w' => e = .returned v ∧ ∃ m, w' = w.drewN m :=
  h.mono fun _ _ hh => ⟨hh.1, n, hh.2.symm⟩
theorem bel_drewN {B : Nat} {a w : World} (h : Below B a w) (n : Nat) : Below B a (w.drewN n) := ⟨h.os, h.tape, h.output, h.size, h.block⟩
theorem Tab.drewN {w : World} {g : Nat} (h : Tab w g) (n : Nat) : Tab (w.drewN n) g := h
theorem Tab.drew {w : World} {g : Nat} (h : Tab w g) : Tab w.drew g := h
theorem undrew {w w' : World} {r : Option Nat} (h : w.drew.grownBy w' r) : w.grownBy w' r := ⟨h.os, h.tape, h.output, h.size, h.block⟩
theorem below_chain {w w1 w2 : World} (h1 : Below w.heap.size w w1) (h2 : Below w1.heap.size w1 w2) : Below w.heap.size w w2 := h1.trans (h2.mono h1.size)

theorem seal_row (l z : List UInt8) (n : Nat) (hl : l.length = n) : (l ++ List.replicate 4 (0 : UInt8)).take n ++ (z ++ (l ++ List.replicate 4 (0 : UInt8)).drop (n + 4)) = l ++ z := by
  subst hl
  have h : (l ++ List.replicate 4 (0 : UInt8)).drop (l.length + 4) = [] := List.drop_eq_nil_of_le (by simp)
  rw [h, List.take_left]
  simp

set_option maxHeartbeats 1000000 in
theorem seal_any (g : Nat) (A : Option Addr) (n cap : Nat) (l : List UInt8) (w : World) (ht : Tab w g) (h : Rd w A n cap l) (hn : n ≤ 140737488355328) :
    Calls Try.prog 17 #[.pointer (some ⟨g, 0, none⟩), .slice A n cap] w fun e w' => e = .returned (.slice (some ⟨w.heap.size, 0, none⟩) (n + 4) (n + 4)) ∧ Row w' w.heap.size 5 (closedB l) ∧ Below w.heap.size w w' := by
  have hmk := fun W => run_make_bytes (P := Try.prog) 22 5 Try.underlying22 u8_info (n + 4) (by omega) ((n : Int) + 4) (by omega) W
  have hl := h.len
  have H := Go.Lib.hid hl
  clear hl
  have hs := sum_lt l
  go_enter Try.func17, Try.ntmps17
  go_wp2_with (with_reducible refine wpList_copy_splice rfl (.tmp 10) (.tmp 11) 22 22 rfl 5 Try.underlying22 u8_size _ _ _ _ _ _ rfl rfl w.heap.size 0 (cellsOf (List.replicate (n + 4) 0)) 5 (heap_alloc_new w _) (cellsOf l) (by rw [cellsOf_length, H.out]; simp [Nat.min_def]) (fun h0 => ⟨rfl, (h.below ((Below.refl _ _).alloc (Nat.le_refl _) _)).src h0⟩) (by simp [cellsOf, H.out]) (cellsOf_one l) w.heap.size w ((Below.refl _ _).alloc (Nat.le_refl _) _) (Nat.le_refl _) ?_; intro w2 HG2 hB2)
  have t2 := ht.below hB2
  have r2 := h.below hB2
  have row2 : Row w2 w.heap.size 5 (l ++ List.replicate 4 0) := by
    have h2 := HG2.out
    rw [← H.out, splice_zeros] at h2
    exact h2
  clear HG2 hmk
  go_wp2_with fail
  go_region_with (first
    | (go_at_call 15; refine (sum_any g A n cap l _ t2.drew r2.drew).mono ?_; rintro e w' ⟨rfl, rfl⟩)
    | (go_at_call 22; refine (putSum_any w.heap.size n 4 (l ++ List.replicate 4 0) (sum l) _ ?_ ?_).mono ?_; exact row2; simp [H.out]; rintro e w3 ⟨rfl, hr3, hg3, hs3⟩; rw [seal_row l _ n H.out] at hr3; clear hs3))
  all_goals go_wp2_with fail
  all_goals go_ret
  all_goals exact ⟨rfl, hr3, hB2.grown (undrew hg3) hB2.size (by rintro k ⟨rfl⟩; exact Nat.le_refl _)⟩

theorem elem_bytes : Try.prog.elem 22 = 5 := by kernel_rfl
theorem run_size_u8 (W : World) : (sizeOf 5).run Try.prog W = .ok 1 W := by
  have hi := u8_size
  cases hq : Try.prog.info? 5 with
  | none => simp [hq] at hi
  | some i =>
    have hs : i.size = 1 := by simpa [hq] using hi
    simp [sizeOf, typeInfo, hq, hs]
/-- v[m:] of bytes. -/
theorem slice_from (b o n cap m k : Nat) (h : m ≤ n) (hc : m < cap) (hk : n - m = k) (W : World) :
    (Instr.slice 22 (.slice (some ⟨b, o, none⟩) n cap) (some (.int .i64 (m : Int))) none none).run Try.prog W = .ok (.slice (some ⟨b, o + m, none⟩) k (cap - m)) W := by
  have hu : Try.prog.underlying 22 = some (.slice (Try.prog.elem 22)) := by rw [elem_bytes]; exact Try.underlying22
  have e : (⟨b, o, none⟩ : Addr).add m = ⟨b, o + m, none⟩ := by unfold Addr.add; split <;> simp_all
  rw [run_slice_l (P := Try.prog) W 22 _ n cap hu .i64 (m : Int) (by omega) (by omega), elem_bytes, run_size_u8]
  simp only [Result.andThen, sliced, Int.toNat_natCast, Nat.mul_one, Option.map_some, e, hk]
  rw [if_neg (by omega)]
/-- v[:m] of bytes. -/
theorem slice_upto (A : Option Addr) (n cap m : Nat) (hc : m ≤ cap) (W : World) :
    (Instr.slice 22 (.slice A n cap) none (some (.int .i64 (m : Int))) none).run Try.prog W = .ok (.slice A m cap) W := by
  have hu : Try.prog.underlying 22 = some (.slice (Try.prog.elem 22)) := by rw [elem_bytes]; exact Try.underlying22
  have e : A.map (·.add 0) = A := by cases A <;> simp [Addr.add]
  rw [run_slice_h (P := Try.prog) W 22 _ n cap hu .i64 (m : Int) (by omega) (by omega), elem_bytes, run_size_u8]
  simp only [Result.andThen, sliced, Int.toNat_natCast, Nat.zero_mul, e, Nat.sub_zero]
  congr 2
  split <;> rfl

/-- bytes.Clone. -/
def Cloned (w : World) (n : Nat) (l : List UInt8) (e : Ending) (w' : World) : Prop := ∃ A cap, e = .returned (.slice A n cap) ∧ Rd w' A n cap l ∧ Below w.heap.size w w'

set_option maxHeartbeats 1000000 in
theorem clone_any (A : Option Addr) (n cap : Nat) (l : List UInt8) (w : World) (h : Rd w A n cap l) (hn : n ≤ 140737488355328) :
    Calls Try.prog 21 #[.slice A n cap] w (Cloned w n l) := by
  cases A with
  | none =>
    have hn0 : n = 0 := by
      rcases Nat.eq_zero_or_pos n with h0 | h0
      · exact h0
      · obtain ⟨b, o, hh, _⟩ := h.2.2.2 h0
        cases hh
    subst hn0
    have hl := h.len
    have hq := fun W => Go.Lib.run_eql_slice_nil (P := Try.prog) W 22 5 none 0 cap 0 0 Try.underlying22
    go_enter Try.func21, Try.ntmps21
    go_wp2_with fail
    go_ret
    exact ⟨none, 0, rfl, ⟨hl, Nat.le_refl _, Nat.zero_le _, fun h => absurd h (by omega)⟩, Below.refl _ _⟩
  | some a =>
    have hb : Below w.heap.size w (w.alloc (.cells #[] 5)) := (Below.refl _ _).alloc (Nat.le_refl _) _
    have hq := fun W => Go.Lib.run_eql_slice_nil (P := Try.prog) W 22 5 (some a) n cap 0 0 Try.underlying22
    go_enter Try.func21, Try.ntmps21
    go_wp2_with (at_builtin; refine wpList_append_fresh rfl (.tmp 5) (.tmp 6) 22 rfl 5 Try.underlying22 u8_info rfl rfl (Own.empty w 5 (Nat.le_refl _)) (h.below hb) hn hb.size w hb ?_; intro A5 c5 w5 o5 b5)
    go_ret
    exact ⟨A5, c5, rfl, o5.rd, b5⟩

/-- What Open tells of a seal. -/
def Opened (w : World) (n : Nat) (x : List UInt8) (e : Ending) (w' : World) : Prop := ∃ A cap, e = .returned (.tuple #[.slice A n cap, .int .i64 0]) ∧ Rd w' A n cap x ∧ Below w.heap.size w w'

theorem open_math (l : List UInt8) (m : Nat) (h : l.length = m + 4) : word (l.drop m) = sum (l.take m) ↔ closedB (l.take m) = l := by
  have hd : (l.drop m).length = 4 := by simp [h]
  constructor
  · intro e
    unfold closedB
    rw [← e, le4_word _ hd, List.take_append_drop]
  · intro e
    have e2 : l.drop m = le4 (sum (l.take m)) := by
      have h1 : (l.take m ++ le4 (sum (l.take m))) = l.take m ++ l.drop m := by rw [List.take_append_drop]; exact e
      exact (List.append_cancel_left h1).symm
    rw [e2, word_le4 (sum_lt _)]

set_option maxHeartbeats 1000000 in
theorem open_short (g : Nat) (A : Option Addr) (n cap : Nat) (w : World) (hn : n < 4) :
    Calls Try.prog 12 #[.pointer (some ⟨g, 0, none⟩), .slice A n cap] w fun e w' => e = .returned (.tuple #[.slice none 0 0, .int .i64 2]) ∧ Below w.heap.size w w' := by
  have hd : decide ((n : Int) - 4 < 0) = true := by simp; omega
  go_enter Try.func12, Try.ntmps12
  go_wp2_with fail
  go_quiet (fail)
  go_wp2_with fail
  go_ret2
  exact ⟨rfl, bel_drewN (Below.refl _ _) _⟩

set_option maxHeartbeats 1000000 in
theorem open_long (g : Nat) (b o m cap : Nat) (l : List UInt8) (w : World) (ht : Tab w g) (h : Rd w (some ⟨b, o, none⟩) (m + 4) cap l) (hm : m ≤ 140737488355328) :
    Calls Try.prog 12 #[.pointer (some ⟨g, 0, none⟩), .slice (some ⟨b, o, none⟩) (m + 4) cap] w fun e w' => (closedB (l.take m) = l → Opened w m (l.take m) e w') ∧ (closedB (l.take m) ≠ l → e = .returned (.tuple #[.slice none 0 0, .int .i64 2]) ∧ Below w.heap.size w w') := by
  have hl := h.len
  have hc := h.le_cap
  have hom := open_math l m hl
  have r1 := h.first (k := m) (by omega)
  have r2 := h.cut (k := m) (by omega)
  rw [if_neg (by omega), Nat.add_sub_cancel_left] at r2
  have r3 : Rd w (some ⟨b, o + m, none⟩) 4 (cap - m) (l.drop m) := by
    have e : (⟨b, o, none⟩ : Addr).add m = ⟨b, o + m, none⟩ := by unfold Addr.add; split <;> simp_all
    rw [Option.map_some, e] at r2
    exact r2
  have hs1 := fun W => slice_from b o (m + 4) cap m 4 (by omega) (by omega) (by omega) W
  have hs2 := fun W => slice_upto (some ⟨b, o, none⟩) (m + 4) cap m (by omega) W
  have hd : decide ((m : Int) < 0) = false := by simp
  clear r2 hl h
  have H := Go.Lib.hid hom
  clear hom
  by_cases heq : word (l.drop m) = sum (l.take m)
  · have hcl := H.out.1 heq
    have hne : (((word (l.drop m) : Nat) : Int) != ((sum (l.take m) : Nat) : Int)) = false := by rw [heq]; simp
    have HCL := Go.Lib.hid hcl
    clear hcl heq H
    generalize hx : word (l.drop m) = x at *
    generalize hy : sum (l.take m) = y at *
    have HX := Go.Lib.hid hx
    have HY := Go.Lib.hid hy
    clear hx hy
    go_enter Try.func12, Try.ntmps12
    go_wp2_with fail
    go_quiet (first
      | (go_at_call 20; exact still (HX.out ▸ takeSum_any _ _ _ _ (r3.drewN _)))
      | (go_at_call 15; exact still (HY.out ▸ sum_any g _ _ _ _ _ (ht.drewN _) (r1.drewN _))))
    go_wp2_with fail
    refine (clone_any _ m cap _ _ (r1.drewN _) hm).mono ?_
    rintro e w3 ⟨A3, c3, rfl, r4, b4⟩
    go_wp2_with fail
    go_ret2
    exact ⟨fun _ => ⟨A3, c3, rfl, r4, below_chain (bel_drewN (Below.refl _ _) _) b4⟩, fun hno => absurd HCL.out hno⟩
  · have hcl : closedB (l.take m) ≠ l := fun hh => heq (H.out.2 hh)
    have hne : (((word (l.drop m) : Nat) : Int) != ((sum (l.take m) : Nat) : Int)) = true := by
      rw [bne_iff_ne]
      intro hh
      exact heq (by omega)
    have HCL := Go.Lib.hid hcl
    clear hcl heq H
    generalize hx : word (l.drop m) = x at *
    generalize hy : sum (l.take m) = y at *
    have HX := Go.Lib.hid hx
    have HY := Go.Lib.hid hy
    clear hx hy
    go_enter Try.func12, Try.ntmps12
    go_wp2_with fail
    go_quiet (first
      | (go_at_call 20; exact still (HX.out ▸ takeSum_any _ _ _ _ (r3.drewN _)))
      | (go_at_call 15; exact still (HY.out ▸ sum_any g _ _ _ _ _ (ht.drewN _) (r1.drewN _))))
    go_wp2_with fail
    go_ret2
    exact ⟨fun hyes => absurd hyes HCL.out, fun _ => ⟨rfl, bel_drewN (Below.refl _ _) _⟩⟩

/-- Open of a seal. -/
theorem open_yes (g : Nat) (A : Option Addr) (n cap : Nat) (x : List UInt8) (w : World) (ht : Tab w g) (h : Rd w A n cap (closedB x)) (hn : n ≤ 140737488355328) :
    Calls Try.prog 12 #[.pointer (some ⟨g, 0, none⟩), .slice A n cap] w (Opened w x.length x) := by
  have hl := h.len
  rw [closedB_length] at hl
  subst hl
  obtain ⟨b, o, rfl, _, _⟩ := h.at_ (by omega)
  have et : (closedB x).take x.length = x := by unfold closedB; rw [List.take_left]
  refine (open_long g b o x.length cap _ w ht h (by omega)).mono ?_
  rintro e w' ⟨h1, _⟩
  rw [et] at h1
  exact h1 rfl

/-- Open of what is no seal. -/
theorem open_no (g : Nat) (A : Option Addr) (n cap : Nat) (l : List UInt8) (w : World) (ht : Tab w g) (h : Rd w A n cap l) (hn : n ≤ 140737488355328) (hno : ∀ x, closedB x ≠ l) :
    Calls Try.prog 12 #[.pointer (some ⟨g, 0, none⟩), .slice A n cap] w fun e w' => e = .returned (.tuple #[.slice none 0 0, .int .i64 2]) ∧ Below w.heap.size w w' := by
  by_cases h4 : n < 4
  · exact open_short g A n cap w h4
  · obtain ⟨m, rfl⟩ : ∃ m, n = m + 4 := ⟨n - 4, by omega⟩
    obtain ⟨b, o, rfl, _, _⟩ := h.at_ (by omega)
    exact (open_long g b o m cap l w ht h (by omega)).mono fun e w' hh => hh.2 (hno _)

end Go.Proofs.Ytfencoklpnifaaa.CrcWalk
