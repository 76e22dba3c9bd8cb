/-
  Walks of the statements of layer 1: NumMany.
-/
import Derived.Test.YtegpjgopakdhcaaNumLawB
import Derived.Deep.RegionWith
import Derived.Deep.QuietTactic
import Derived.BigQuiet
import Derived.Deep.DrawnRows
import Derived.Deep.CutBlock
import Derived.Deep.Light
namespace Go.Proofs.Ytegpjgopakdhcaa.NumLaw
open Go.RowKit Go.WideShapes Go.ChangeShapes Go.Proofs.Ytegpjgopakdhcaa.NumMath Go.Proofs.Ytegpjgopakdhcaa.NumMem Go.Proofs.Ytegpjgopakdhcaa.NumWalk Go.Proofs.Ytegpjgopakdhcaa.Open
open Go.Lib (uvarint zigzag)
attribute [local go_sem ↓] Go.wp_at_zero Go.wp_at_succ

/-- Numbers one behind the other. -/
def encs (ys : List Int) : List UInt8 := ys.flatMap enc

theorem encs_take (ys : List Int) (k : Nat) (hk : k < ys.length) : encs (ys.take (k + 1)) = encs (ys.take k) ++ enc (ys.getD k 0) := by
  unfold encs
  rw [List.take_succ_eq_append_getElem hk, List.flatMap_append]
  simp [List.getD, List.getElem?_eq_getElem hk]
theorem encs_drop (ys : List Int) (k : Nat) (hk : k < ys.length) : encs (ys.drop k) = enc (ys.getD k 0) ++ encs (ys.drop (k + 1)) := by
  unfold encs
  rw [List.drop_eq_getElem_cons hk, List.flatMap_cons]
  simp [List.getD, List.getElem?_eq_getElem hk]
def InI64 (ys : List Int) : Prop := ∀ z ∈ ys, -9223372036854775808 ≤ z ∧ z ≤ 9223372036854775807
theorem InI64.at_ {ys : List Int} (h : InI64 ys) (k : Nat) : -9223372036854775808 ≤ ys.getD k 0 ∧ ys.getD k 0 ≤ 9223372036854775807 := by
  rcases Nat.lt_or_ge k ys.length with hk | hk
  · simp only [List.getD, List.getElem?_eq_getElem hk, Option.getD_some]
    exact h _ (List.getElem_mem hk)
  · simp only [List.getD, List.getElem?_eq_none hk, Option.getD_none]
    omega
theorem encs_le (ys : List Int) (h : InI64 ys) : (encs ys).length ≤ 10 * ys.length := by
  induction ys with
  | nil => simp [encs]
  | cons y ys ih =>
    have h1 := enc_le y (h y (by simp)).1 (h y (by simp)).2
    have h2 := ih (fun z hz => h z (by simp [hz]))
    simp only [encs, List.flatMap_cons, List.length_append, List.length_cons] at *
    omega
theorem InI64.take {ys : List Int} (h : InI64 ys) (k : Nat) : InI64 (ys.take k) := fun z hz => h z (List.mem_of_mem_take hz)
theorem InI64.drop {ys : List Int} (h : InI64 ys) (k : Nat) : InI64 (ys.drop k) := fun z hz => h z (List.mem_of_mem_drop hz)

/-- Reading back the next of several numbers. -/
theorem num_back (ys : List Int) (h : InI64 ys) (k : Nat) (hk : k < ys.length) (r : List UInt8) :
    numV (encs (ys.drop k) ++ r) = ys.getD k 0 ∧ numL (encs (ys.drop k) ++ r) = encs (ys.drop (k + 1)) ++ r ∧ numB (encs (ys.drop k) ++ r) false = false := by
  obtain ⟨h0, h1⟩ := h.at_ k
  have hn := numV_enc (ys.getD k 0) h0 h1 (encs (ys.drop (k + 1)) ++ r)
  have hp := enc_pos (ys.getD k 0)
  rw [encs_drop ys k hk, List.append_assoc]
  refine ⟨hn.2, ?_, ?_⟩
  · unfold numL
    rw [if_neg (by rw [hn.1]; omega), hn.1, List.drop_left]
  · unfold numB
    rw [if_neg (by rw [hn.1]; omega)]

/-- The state of the first loop behind k numbers. -/
structure PutsAt (w wr : World) (ys : List Int) (A : Option Addr) (m cap k : Nat) : Prop where
  le : k ≤ ys.length
  rd : Rd wr A m cap (encs (ys.take k))
  below : Below w.heap.size w wr

theorem PutsAt.m_le {w wr : World} {ys : List Int} {A : Option Addr} {m cap k : Nat} (h : PutsAt w wr ys A m cap k) (hy : InI64 ys) : m ≤ 10 * ys.length := by
  have h1 := encs_le (ys.take k) (hy.take k)
  rw [h.rd.len] at h1
  have h2 := List.length_take_le k ys
  have h3 := h.le
  simp only [List.length_take] at h1
  omega

theorem getD_take (zs : List Int) (k : Nat) (hk : k < 40) : (zs.take 40).getD k 0 = zs.getD k 0 := by simp [List.getD, hk]

theorem many_num (a c : Nat) (l : List UInt8) (h : l.length = c) : Value.int .i64 ((a : Int) + (c : Int) - (a : Int)) = Value.int .i64 ((l.length : Nat) : Int) := by
  rw [h]
  congr 1
  omega

set_option maxHeartbeats 1000000 in
theorem many_walk (A : Option Addr) (n cap : Nat) (zs : List Int) (w : World) (hl : zs.length = n) (hz : InI64 zs) (hs : Sl w A n cap (fun i => .int .i64 (zs.getD i 0))) :
    Calls Try.prog 10 #[.slice A n cap] w fun e w' => e = .returned (.bool true) ∧ Below w.heap.size w w' := by
  obtain ⟨ys, hys⟩ : ∃ ys, ys = zs.take 40 := ⟨_, rfl⟩
  have hy : InI64 ys := by rw [hys]; exact hz.take 40
  have hyl : ys.length ≤ 40 := by rw [hys]; simp; omega
  have hyn : ys.length ≤ n := by rw [hys]; simp; omega
  have hyk : n ≤ ys.length ∨ 40 ≤ ys.length := by rw [hys]; simp; omega
  have hcap := hs.1
  have hmax := hs.2.1
  unfold maxLen at hmax
  have hc : ∀ k, k < ys.length → ∃ b o, A = some ⟨b, o, none⟩ ∧ b < w.heap.size ∧ w.cell? ⟨b, o + k, none⟩ = some (.int .i64 (ys.getD k 0)) := by
    intro k hk
    obtain ⟨b, o, hA, hb, h⟩ := hs.at_ (by omega)
    refine ⟨b, o, hA, hb, ?_⟩
    rw [h k (by omega), hys, getD_take zs k (by omega)]
  have HC := Go.Lib.hid hc
  clear hc hys hl hz hs
  go_enter Try.func10, Try.ntmps10
  go_wp2_with fail
  refine (shown_any _).mono ?_
  rintro e w1 ⟨rfl, B1⟩
  go_upto_block 0 with (fail)
  go_cut [4, 5, 6] (fun b s i wx => ∃ A' m cap', b = .slice A' m cap' ∧ s = .int .i64 (m : Nat) ∧ m ≤ 400 ∧ Rd wx A' m cap' (encs ys) ∧ Below w.heap.size w wx)
  case first =>
    go_wp2_with fail
    go_loopw [4, 5, 6] (fun b s i wr => ∃ A' m cap' k, b = .slice A' m cap' ∧ s = .int .i64 (m : Nat) ∧ i = .int .i64 (k : Nat) ∧ PutsAt w wr ys A' m cap' k) (fun _ _ i _ => 40 - (intOf i).toNat)
    case atStart => exact ⟨_, _, _, 0, rfl, rfl, rfl, Nat.zero_le _, Rd.empty _ _ (Nat.zero_le _), B1.alloc B1.size _⟩
    case round =>
      obtain ⟨A', m, cap', k, rfl, rfl, rfl, hp⟩ := hrel
      have hm := hp.m_le hy
      by_cases hk : k < ys.length
      · obtain ⟨b, o, rfl, hb, hcell⟩ := HC.out k hk
        have hcell1 := (hp.below.cell (p := ⟨b, o + k, none⟩) hb).trans hcell
        obtain ⟨hy0, hy1⟩ := hy.at_ k
        have htk := encs_take ys k hk
        have HT := Go.Lib.hid htk
        clear htk hcell HC
        generalize ys.getD k 0 = y at *
        go_wp2_with fail
        refine (put_any _ _ _ _ y _ hp.rd hy0 hy1 (by omega)).mono ?_
        rintro e w2 ⟨rfl, hr2, hb2⟩
        have hcell2 := (hb2.cell (p := ⟨b, o + k, none⟩) (Nat.lt_of_lt_of_le hb hp.below.size)).trans hcell1
        have p1 := enc_pos y
        have p2 := enc_le y hy0 hy1
        go_wp2_with fail
        refine (putNil_any y _ hy0 hy1).mono ?_
        rintro e w3 ⟨rfl, hr3, hb3⟩
        have hrd := ((row_rd hr2 (by rw [List.length_append, hp.rd.len]; omega)).below hb3)
        rw [← HT.out] at hrd
        have hlen : (encs (ys.take (k + 1))).length = m + (enc y).length := by rw [HT.out, List.length_append, hp.rd.len]
        rw [hlen] at hrd
        have hq : PutsAt w w3 ys _ _ _ (k + 1) := ⟨hk, hrd, below_chain (below_chain hp.below hb2) hb3⟩
        clear hlen hr2 hr3 hb2 hb3 hcell1 hcell2 HT hrd
        generalize (enc y).length = q at *
        go_wp2_with fail
        go_roundw
        case rel => exact ⟨_, _, _, k + 1, rfl, by go_num, by go_num, hq⟩
        case measure => simp [intOf]; omega
      · obtain rfl : k = ys.length := by have := hp.le; omega
        have hrd := hp.rd
        rw [List.take_length] at hrd
        have hB := hp.below
        clear hp hk
        go_wp2_with fail
        all_goals
          go_meet
          exact ⟨_, _, _, rfl, rfl, by omega, hrd, hB⟩
  case rest =>
    obtain ⟨A', m, cap', rfl, rfl, hm, hrd, hB⟩ := hcut
    clear B1
    go_wp2_with fail
    refine (newReader_any _ _ _ _ _ hrd (by omega)).mono ?_
    rintro e w2 ⟨g, rfl, hg, hr2, hb2⟩
    have hg' : w.heap.size ≤ g := Nat.le_trans hB.size hg
    have B2 := below_chain hB hb2
    have hlen := hrd.len
    have HL := Go.Lib.hid hlen
    clear hlen hrd hb2 hB
    go_wp2_with fail
    go_loopw [5, 8] (fun s i wr => ∃ k : Nat, s = .int .i64 ((encs (ys.drop k)).length : Nat) ∧ i = .int .i64 (k : Nat) ∧ k ≤ ys.length ∧ Rdr wr 49 g (encs (ys.drop k)) false ∧ Below w.heap.size w wr) (fun _ i _ => 40 - (intOf i).toNat)
    case atStart => exact ⟨0, by rw [List.drop_zero, HL.out], rfl, Nat.zero_le _, by rw [List.drop_zero]; exact hr2, B2⟩
    case round =>
      obtain ⟨k, rfl, rfl, hkl, hrr, hBr⟩ := hrel
      clear hr2 B2
      by_cases hk : k < ys.length
      · obtain ⟨b, o, rfl, hb, hcell⟩ := HC.out k hk
        have hcell1 := (hBr.cell (p := ⟨b, o + k, none⟩) hb).trans hcell
        obtain ⟨hy0, hy1⟩ := hy.at_ k
        have hdr := encs_drop ys k hk
        have hnb := num_back ys hy k hk []
        have hle := encs_le (ys.drop k) (hy.drop k)
        have hdl : (ys.drop k).length ≤ 40 := by simp; omega
        simp only [List.append_nil] at hnb
        obtain ⟨n1, n2, n3⟩ := hnb
        have hln : (encs (ys.drop k)).length = (enc (ys.getD k 0)).length + (encs (ys.drop (k + 1))).length := by rw [hdr, List.length_append]
        have HN := Go.Lib.hid hln
        have hln1 : (enc (ys.getD k 0)).length ≤ (encs (ys.drop k)).length := by omega
        clear hdr hcell HC hln
        generalize ys.getD k 0 = y at *
        go_wp2_with fail
        refine (putNil_any y _ hy0 hy1).mono ?_
        rintro e w3 ⟨rfl, hr3, hb3⟩
        have hcell2 := (hb3.cell (p := ⟨b, o + k, none⟩) (Nat.lt_of_lt_of_le hb hBr.size)).trans hcell1
        have hrr3 := hrr.below hb3
        have B3 := below_chain hBr hb3
        clear hr3 hb3 hcell1 hrr hBr
        rw [HN.out]
        generalize hc1 : (encs (ys.drop (k + 1))).length = c1 at *
        have HC1 := Go.Lib.hid hc1
        clear hc1 hle hln1
        have p2 := enc_le y hy0 hy1
        have hc1b : c1 ≤ 400 := by
          have h1 := encs_le (ys.drop (k + 1)) (hy.drop (k + 1))
          have h2 : (ys.drop (k + 1)).length ≤ 40 := by simp; omega
          rw [HC1.out] at h1
          omega
        generalize (enc y).length = a at *
        have hbg : b ≠ g := by omega
        go_wp2_with fail
        go_region_with (first
          | (go_at_call 19; refine (num_any g (encs (ys.drop k)) false _ ?_).mono ?_; exact hrr3; rintro e w4 ⟨rfl, hr4, hg4⟩; rw [n1]; rw [n2, n3] at hr4; have hg5 := undrew hg4; have hcell4 : w4.cell? ⟨b, o + k, none⟩ = _ := hg5.cell hcell2 (by simpa using hbg); have B4 := below_grownBy B3 hg5 hg'; clear hg4 hg5)
          | (go_at_call 22; refine (left_any g (encs (ys.drop (k + 1))) false _ ?_).mono ?_; exact hr4; rintro e w5 ⟨rfl, rfl⟩; rw [HC1.out]))
        all_goals (go_wp2_with fail)
        all_goals
          go_roundw
          case rel => exact ⟨k + 1, many_num a c1 _ HC1.out, by go_num, by omega, hr4, B4⟩
          case measure => simp [intOf]; omega
      · obtain rfl : k = ys.length := by omega
        go_wp2_with fail
        all_goals
          refine (bad_any g _ _ _ hrr).mono ?_
          rintro e w5 ⟨rfl, rfl⟩
          go_wp2_with fail
          go_ret
          exact ⟨rfl, hBr⟩

section
variable {H : Type} {enc : TypeId × Value → H}
theorem many_main (W : World) (base : Nat) (v0 : Value) {d0 : DataW H} {p0 : List MemPlace} (o0 : Value.okWide Try.prog W .any base 36 v0)
    (h0 : DataW.Trod enc Try.prog W 0 (fun _ => true) true 36 v0 d0 p0) :
    Calls Try.prog 10 #[v0] W fun e W' => e = .returned (.bool true) ∧ Below W.heap.size W W' := by
  obtain ⟨A, n, cap, zs, rfl, hl, hw, hs⟩ := op_ints Try.underlying36 Try.underlying3 (by kernel_rfl) o0 h0
  exact many_walk A n cap zs W hl (fun z hz => bounds_i64 (hw z hz)) hs
end

end Go.Proofs.Ytegpjgopakdhcaa.NumLaw
