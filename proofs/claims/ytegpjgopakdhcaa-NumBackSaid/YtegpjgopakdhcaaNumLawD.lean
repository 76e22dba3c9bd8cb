/-
  Walks of the statements of layer 1: NumBack.
-/
import Derived.Test.YtegpjgopakdhcaaNumLawC
namespace Go.Proofs.Ytegpjgopakdhcaa.NumLaw
open Go.RowKit Go.WideShapes Go.ChangeShapes Go.Proofs.Ytegpjgopakdhcaa.NumMath Go.Proofs.Ytegpjgopakdhcaa.NumMem Go.Proofs.Ytegpjgopakdhcaa.NumWalk Go.Proofs.Ytegpjgopakdhcaa.Open
open Go.Lib (uvarint zigzag)
attribute [local go_sem ↓] Go.wp_at_zero Go.wp_at_succ

/-- At most 100 bytes of a text. -/
def shortS (s : ByteArray) : ByteArray := if 100 < s.size then s.extract 0 100 else s
theorem shortS_le (s : ByteArray) : (shortS s).size ≤ 100 := by
  unfold shortS
  split
  · simp; omega
  · omega

theorem short_any (s : ByteArray) (w : World) (hs : s.size ≤ maxLen) :
    Calls Try.prog 23 #[.string s] w fun e w' => e = .returned (.string (shortS s)) ∧ w = w' := by
  unfold maxLen at hs
  by_cases h : 100 < s.size
  · have e : shortS s = s.extract 0 100 := by unfold shortS; rw [if_pos h]
    rw [e]
    go_enter Try.func23, Try.ntmps23
    go_wp2
    go_ret
    exact ⟨rfl, rfl⟩
  · have e : shortS s = s := by unfold shortS; rw [if_neg h]
    rw [e]
    go_enter Try.func23, Try.ntmps23
    go_wp2
    go_ret
    exact ⟨rfl, rfl⟩

/-- Texts one behind the other, each short. -/
def encT (s : ByteArray) : List UInt8 := enc ((shortS s).size : Int) ++ (shortS s).data.toList
def encTs (ss : List ByteArray) : List UInt8 := ss.flatMap encT

theorem encTs_take (ss : List ByteArray) (k : Nat) (hk : k < ss.length) : encTs (ss.take (k + 1)) = encTs (ss.take k) ++ encT (ss.getD k ByteArray.empty) := by
  unfold encTs
  rw [List.take_succ_eq_append_getElem hk, List.flatMap_append]
  simp [List.getD, List.getElem?_eq_getElem hk]
theorem encTs_drop (ss : List ByteArray) (k : Nat) (hk : k < ss.length) : encTs (ss.drop k) = encT (ss.getD k ByteArray.empty) ++ encTs (ss.drop (k + 1)) := by
  unfold encTs
  rw [List.drop_eq_getElem_cons hk, List.flatMap_cons]
  simp [List.getD, List.getElem?_eq_getElem hk]
theorem encT_le (s : ByteArray) : (encT s).length ≤ 110 := by
  have h1 := shortS_le s
  have h2 := enc_le ((shortS s).size : Int) (by omega) (by omega)
  unfold encT
  rw [List.length_append]
  have h3 : (shortS s).data.toList.length = (shortS s).size := by simp
  omega
theorem encTs_le (ss : List ByteArray) : (encTs ss).length ≤ 110 * ss.length := by
  induction ss with
  | nil => simp [encTs]
  | cons s ss ih =>
    have := encT_le s
    simp only [encTs, List.flatMap_cons, List.length_append, List.length_cons] at *
    omega

theorem texts_back (ss : List ByteArray) (k : Nat) (hk : k < ss.length) :
    (⟨(textV (encTs (ss.drop k))).toArray⟩ : ByteArray) = shortS (ss.getD k ByteArray.empty) ∧ textL (encTs (ss.drop k)) = encTs (ss.drop (k + 1)) ∧ textB (encTs (ss.drop k)) false = false := by
  have h1 := shortS_le (ss.getD k ByteArray.empty)
  have h := text_back (shortS (ss.getD k ByteArray.empty)).data.toList (encTs (ss.drop (k + 1))) (by rw [show (shortS (ss.getD k ByteArray.empty)).data.toList.length = (shortS (ss.getD k ByteArray.empty)).size from by simp]; omega)
  have es : (((shortS (ss.getD k ByteArray.empty)).data.toList.length : Nat) : Int) = ((shortS (ss.getD k ByteArray.empty)).size : Int) := by simp
  rw [es] at h
  rw [encTs_drop ss k hk]
  unfold encT
  refine ⟨?_, h.2.1, h.2.2⟩
  rw [h.1]

/-- The state of the second loop behind k texts. -/
structure TextsAt (w wr : World) (ys : List Int) (ss : List ByteArray) (A : Option Addr) (m cap k : Nat) : Prop where
  le : k ≤ ss.length
  rd : Rd wr A m cap (encs ys ++ encTs (ss.take k))
  below : Below w.heap.size w wr

theorem TextsAt.m_le {w wr : World} {ys : List Int} {ss : List ByteArray} {A : Option Addr} {m cap k : Nat} (h : TextsAt w wr ys ss A m cap k) (hy : InI64 ys) : m ≤ 10 * ys.length + 110 * ss.length := by
  have h1 := encTs_le (ss.take k)
  have h2 := encs_le ys hy
  have h3 := h.rd.len
  have h4 := h.le
  rw [List.length_append] at h3
  simp only [List.length_take] at h1
  omega

theorem getD_takeI (zs : List Int) (k : Nat) (hk : k < 30) : (zs.take 30).getD k 0 = zs.getD k 0 := by simp [List.getD, hk]
theorem getD_takeB (zs : List ByteArray) (k : Nat) (hk : k < 30) : (zs.take 30).getD k ByteArray.empty = zs.getD k ByteArray.empty := by simp [List.getD, hk]

set_option maxRecDepth 100000 in
set_option maxHeartbeats 2000000 in
theorem back_walk (A : Option Addr) (n cap : Nat) (zs : List Int) (A2 : Option Addr) (n2 cap2 : Nat) (rs : List ByteArray) (w : World) (hl : zs.length = n) (hz : InI64 zs) (hs : Sl w A n cap (fun i => .int .i64 (zs.getD i 0)))
    (hl2 : rs.length = n2) (hz2 : ∀ s ∈ rs, s.size ≤ maxLen) (hs2 : Sl w A2 n2 cap2 (fun i => .string (rs.getD i ByteArray.empty))) :
    Calls Try.prog 5 #[.slice A n cap, .slice A2 n2 cap2] w fun e w' => e = .returned (.bool true) ∧ Below w.heap.size w w' := by
  obtain ⟨ys, hys⟩ : ∃ ys, ys = zs.take 30 := ⟨_, rfl⟩
  have hy : InI64 ys := by rw [hys]; exact hz.take 30
  have hyl : ys.length ≤ 30 := by rw [hys]; simp; omega
  have hyn : ys.length ≤ n := by rw [hys]; simp; omega
  have hyk : n ≤ ys.length ∨ 30 ≤ ys.length := by rw [hys]; simp; omega
  have hcap := hs.1
  have hmax := hs.2.1
  unfold maxLen at hmax
  have hc : ∀ k, k < ys.length → ∃ b o, A = some ⟨b, o, none⟩ ∧ b < w.heap.size ∧ w.cell? ⟨b, o + k, none⟩ = some (.int .i64 (ys.getD k 0)) := by
    intro k hk
    obtain ⟨b, o, hA, hb, h⟩ := hs.at_ (by omega)
    refine ⟨b, o, hA, hb, ?_⟩
    rw [h k (by omega), hys, getD_takeI zs k (by omega)]
  have HC := Go.Lib.hid hc
  clear hc hys hl hz hs
  obtain ⟨ss, hss⟩ : ∃ ss, ss = rs.take 30 := ⟨_, rfl⟩
  have hsm : ∀ k, (ss.getD k ByteArray.empty).size ≤ maxLen := by
    intro k
    rcases Nat.lt_or_ge k ss.length with hk | hk
    · simp only [List.getD, List.getElem?_eq_getElem hk, Option.getD_some]
      have hmem : ∀ s ∈ ss, s ∈ rs := by rw [hss]; exact fun s hs => List.mem_of_mem_take hs
      exact hz2 _ (hmem _ (List.getElem_mem hk))
    · simp only [List.getD, List.getElem?_eq_none hk, Option.getD_none]
      exact Nat.zero_le _
  have hsl : ss.length ≤ 30 := by rw [hss]; simp; omega
  have hsn : ss.length ≤ n2 := by rw [hss]; simp; omega
  have hsk : n2 ≤ ss.length ∨ 30 ≤ ss.length := by rw [hss]; simp; omega
  have hcap2 := hs2.1
  have hmax2 := hs2.2.1
  unfold maxLen at hmax2
  have hd : ∀ k, k < ss.length → ∃ b o, A2 = some ⟨b, o, none⟩ ∧ b < w.heap.size ∧ w.cell? ⟨b, o + k, none⟩ = some (.string (ss.getD k ByteArray.empty)) := by
    intro k hk
    obtain ⟨b, o, hA, hb, h⟩ := hs2.at_ (by omega)
    refine ⟨b, o, hA, hb, ?_⟩
    rw [h k (by omega), hss, getD_takeB rs k (by omega)]
  have HD := Go.Lib.hid hd
  have HSM := Go.Lib.hid hsm
  clear hd hss hl2 hz2 hs2 hsm
  go_enter Try.func5, Try.ntmps5
  go_wp2_with fail
  refine (shown_any _).mono ?_
  rintro e w1 ⟨rfl, B1⟩
  go_upto_block 0 with (fail)
  go_cut [6, 7] (fun b i wx => ∃ A' m cap', b = .slice A' m cap' ∧ m ≤ 300 ∧ Rd wx A' m cap' (encs ys) ∧ Below w.heap.size w wx)
  case first =>
    go_wp2_with fail
    go_loopw [6, 7] (fun b i wr => ∃ A' m cap' k, b = .slice A' m cap' ∧ i = .int .i64 (k : Nat) ∧ PutsAt w wr ys A' m cap' k) (fun _ i _ => 40 - (intOf i).toNat)
    case atStart => exact ⟨_, _, _, 0, rfl, rfl, Nat.zero_le _, Rd.empty _ _ (Nat.zero_le _), B1.alloc B1.size _⟩
    case round =>
      obtain ⟨A', m, cap', k, rfl, rfl, hp⟩ := hrel
      have hm := hp.m_le hy
      by_cases hk : k < ys.length
      · obtain ⟨b, o, rfl, hb, hcell⟩ := HC.out k hk
        have hcell1 := (hp.below.cell (p := ⟨b, o + k, none⟩) hb).trans hcell
        obtain ⟨hy0, hy1⟩ := hy.at_ k
        have htk := encs_take ys k hk
        have HT := Go.Lib.hid htk
        clear htk hcell HC HD HSM
        generalize ys.getD k 0 = y at *
        go_wp2_with fail
        refine (put_any _ _ _ _ y _ hp.rd hy0 hy1 (by omega)).mono ?_
        rintro e w2 ⟨rfl, hr2, hb2⟩
        have p1 := enc_pos y
        have p2 := enc_le y hy0 hy1
        have hrd := row_rd hr2 (by rw [List.length_append, hp.rd.len]; omega)
        rw [← HT.out] at hrd
        have hlen : (encs (ys.take (k + 1))).length = m + (enc y).length := by rw [HT.out, List.length_append, hp.rd.len]
        rw [hlen] at hrd
        have hq : PutsAt w w2 ys _ _ _ (k + 1) := ⟨hk, hrd, below_chain hp.below hb2⟩
        clear hlen hr2 hb2 hcell1 HT hrd
        generalize (enc y).length = q at *
        go_wp2_with fail
        go_roundw
        case rel => exact ⟨_, _, _, k + 1, rfl, by go_num, hq⟩
        case measure => simp [intOf]; omega
      · obtain rfl : k = ys.length := by have := hp.le; omega
        have hrd := hp.rd
        rw [List.take_length] at hrd
        have hB := hp.below
        clear hp hk HC HD HSM
        go_wp2_with fail
        all_goals
          go_meet
          exact ⟨_, _, _, rfl, by omega, hrd, hB⟩
  case rest =>
    obtain ⟨A', m, cap', rfl, hm, hrd, hB⟩ := hcut
    clear B1
    go_upto_block 2 with (fail)
    go_cut [6, 8] (fun b i wx => ∃ A' m cap', b = .slice A' m cap' ∧ m ≤ 3600 ∧ Rd wx A' m cap' (encs ys ++ encTs ss) ∧ Below w.heap.size w wx)
    case first =>
      go_wp2_with fail
      go_loopw [6, 8] (fun b i wr => ∃ A' m cap' k, b = .slice A' m cap' ∧ i = .int .i64 (k : Nat) ∧ TextsAt w wr ys ss A' m cap' k) (fun _ i _ => 40 - (intOf i).toNat)
      case atStart => exact ⟨_, _, _, 0, rfl, rfl, Nat.zero_le _, by simpa [encTs] using hrd, hB⟩
      case round =>
        obtain ⟨A', m, cap', k, rfl, rfl, hp⟩ := hrel
        clear hrd hB
        have hm := hp.m_le hy
        by_cases hk : k < ss.length
        · obtain ⟨b, o, rfl, hb, hcell⟩ := HD.out k hk
          have hcell1 := (hp.below.cell (p := ⟨b, o + k, none⟩) hb).trans hcell
          have htk := encTs_take ss k hk
          have HT := Go.Lib.hid htk
          have hsz := HSM.out k
          have hsh := shortS_le (ss.getD k ByteArray.empty)
          have htl := encT_le (ss.getD k ByteArray.empty)
          clear htk hcell HC HD HSM
          generalize ss.getD k ByteArray.empty = y at *
          go_wp2_with fail
          refine (short_any y _ hsz).mono ?_
          rintro e w' ⟨rfl, rfl⟩
          go_wp2_with fail
          refine (putText_any _ _ _ _ (shortS y) _ hp.rd (by omega) (by omega)).mono ?_
          rintro e w2 ⟨rfl, hr2, hb2⟩
          have hel : (enc ((shortS y).size : Int)).length + (shortS y).size = (encT y).length := by unfold encT; simp
          have hlr : encs ys ++ encTs (ss.take k) ++ enc ((shortS y).size : Int) ++ (shortS y).data.toList = encs ys ++ encTs (ss.take (k + 1)) := by
            rw [HT.out]
            unfold encT
            simp only [List.append_assoc]
          rw [hlr] at hr2
          have hlen : (encs ys ++ encTs (ss.take (k + 1))).length = m + (encT y).length := by
            rw [HT.out, ← List.append_assoc, List.length_append, hp.rd.len]
          have hrd := row_rd hr2 (by rw [hlen]; omega)
          rw [hlen] at hrd
          rw [hel]
          have hq : TextsAt w w2 ys ss _ _ _ (k + 1) := ⟨hk, hrd, below_chain hp.below hb2⟩
          clear hlen hr2 hb2 hcell1 HT hrd hel hlr
          generalize (encT y).length = q at *
          go_wp2_with fail
          go_roundw
          case rel => exact ⟨_, _, _, k + 1, rfl, by go_num, hq⟩
          case measure => simp [intOf]; omega
        · obtain rfl : k = ss.length := by have := hp.le; omega
          have hrd := hp.rd
          rw [List.take_length] at hrd
          have hB := hp.below
          clear hp hk HC HD HSM
          go_wp2_with fail
          all_goals
            go_meet
            exact ⟨_, _, _, rfl, by omega, hrd, hB⟩
    case rest =>
      clear hrd hB hm
      obtain ⟨A', m, cap', rfl, hm, hrd, hB⟩ := hcut
      go_wp2_with fail
      refine (newReader_any _ _ _ _ _ hrd (by omega)).mono ?_
      rintro e w2 ⟨g, rfl, hg, hr2, hb2⟩
      have hg' : w.heap.size ≤ g := Nat.le_trans hB.size hg
      have B2 := below_chain hB hb2
      clear hrd hb2 hB hg
      go_upto_block 4 with (fail)
      go_cut [4, 10] (fun s i wx => Rdr wx 49 g (encTs ss) false ∧ Below w.heap.size w wx)
      case first =>
        go_wp2_with fail
        go_loopw [10] (fun i wr => ∃ k : Nat, i = .int .i64 (k : Nat) ∧ k ≤ ys.length ∧ Rdr wr 49 g (encs (ys.drop k) ++ encTs ss) false ∧ Below w.heap.size w wr) (fun i _ => 40 - (intOf i).toNat)
        case atStart => exact ⟨0, rfl, Nat.zero_le _, by rw [List.drop_zero]; exact hr2, B2⟩
        case round =>
          obtain ⟨k, rfl, hkl, hrr, hBr⟩ := hrel
          clear hr2 B2
          by_cases hk : k < ys.length
          · obtain ⟨b, o, rfl, hb, hcell⟩ := HC.out k hk
            have hcell1 := (hBr.cell (p := ⟨b, o + k, none⟩) hb).trans hcell
            obtain ⟨n1, n2, n3⟩ := num_back ys hy k hk (encTs ss)
            have hbg : b ≠ g := by omega
            clear hcell HC HD HSM
            generalize ys.getD k 0 = y at *
            go_wp2_with fail
            go_region_with (first
              | (go_at_call 19; refine (num_any g (encs (ys.drop k) ++ encTs ss) false _ ?_).mono ?_; exact hrr; rintro e w4 ⟨rfl, hr4, hg4⟩; rw [n1]; rw [n2, n3] at hr4; have hg5 := undrew hg4; have hcell4 : w4.cell? ⟨b, o + k, none⟩ = _ := hg5.cell hcell1 (by simpa using hbg); have B4 := below_grownBy hBr hg5 hg'; clear hg4 hg5))
            all_goals (go_wp2_with fail)
            all_goals
              go_roundw
              case rel => exact ⟨k + 1, by go_num, by omega, hr4, B4⟩
              case measure => simp [intOf]; omega
          · obtain rfl : k = ys.length := by omega
            rw [List.drop_length] at hrr
            clear HC HD HSM hk
            go_wp2_with fail
            all_goals
              go_meet
              exact ⟨by simpa [encs] using hrr, hBr⟩
      case rest =>
        clear hr2 B2
        obtain ⟨hr2, B2⟩ := hcut
        go_wp2_with fail
        go_loopw [11] (fun i wr => ∃ k : Nat, i = .int .i64 (k : Nat) ∧ k ≤ ss.length ∧ Rdr wr 49 g (encTs (ss.drop k)) false ∧ Below w.heap.size w wr) (fun i _ => 40 - (intOf i).toNat)
        case atStart => exact ⟨0, rfl, Nat.zero_le _, by rw [List.drop_zero]; exact hr2, B2⟩
        case round =>
          obtain ⟨k, rfl, hkl, hrr, hBr⟩ := hrel
          clear hr2 B2
          by_cases hk : k < ss.length
          · obtain ⟨b, o, rfl, hb, hcell⟩ := HD.out k hk
            have hcell1 := (hBr.cell (p := ⟨b, o + k, none⟩) hb).trans hcell
            obtain ⟨n1, n2, n3⟩ := texts_back ss k hk
            have hbg : b ≠ g := by omega
            have hsz := HSM.out k
            clear hcell HC HD HSM
            generalize ss.getD k ByteArray.empty = y at *
            go_wp2_with fail
            go_region_with (first
              | (go_at_call 17; refine (text_any g (encTs (ss.drop k)) false _ ?_).mono ?_; exact hrr; rintro e w4 ⟨rfl, hr4, hg4⟩; rw [n1]; rw [n2, n3] at hr4; have hg5 := undrew hg4; have hcell4 : w4.cell? ⟨b, o + k, none⟩ = _ := hg5.cell hcell1 (by simpa using hbg); have B4 := below_grownBy hBr hg5 hg'; clear hg4 hg5)
              | (go_at_call 23; refine (short_any y _ hsz).mono ?_; rintro e w' ⟨rfl, rfl⟩))
            all_goals (go_wp2_with fail)
            all_goals
              go_roundw
              case rel => exact ⟨k + 1, by go_num, by omega, hr4, B4⟩
              case measure => simp [intOf]; omega
          · obtain rfl : k = ss.length := by omega
            rw [List.drop_length] at hrr
            have n1 : numV [] = 0 := rfl
            have n2 : numL [] = [] := rfl
            have n3 : numB [] false = true := rfl
            have e0 : encTs [] = [] := rfl
            rw [e0] at hrr
            clear HC HD HSM hk
            go_wp2_with fail
            all_goals
              refine (left_any g _ _ _ hrr).mono ?_
              rintro e w' ⟨rfl, rfl⟩
              go_wp2_with fail
              refine (bad_any g _ _ _ hrr).mono ?_
              rintro e w' ⟨rfl, rfl⟩
              go_wp2_with fail
              refine (num_any g _ _ _ hrr).mono ?_
              rintro e w4 ⟨rfl, hr4, hg4⟩
              rw [n1]
              rw [n2, n3] at hr4
              have B4 := below_grownBy hBr hg4 hg'
              go_wp2_with fail
              refine (bad_any g _ _ _ hr4).mono ?_
              rintro e w' ⟨rfl, rfl⟩
              go_wp2_with fail
              go_ret
              exact ⟨rfl, B4⟩

section
variable {H : Type} {enc : TypeId × Value → H}
theorem back_main (W : World) (base : Nat) (v0 v1 : Value) {d0 d1 : DataW H} {p0 p1 : List MemPlace} (o0 : Value.okWide Try.prog W .any base 36 v0) (o1 : Value.okWide Try.prog W .any base 37 v1)
    (h0 : DataW.Trod enc Try.prog W 0 (fun _ => true) true 36 v0 d0 p0) (h1 : DataW.Trod enc Try.prog W 0 (fun _ => true) true 37 v1 d1 p1) :
    Calls Try.prog 5 #[v0, v1] W fun e W' => e = .returned (.bool true) ∧ Below W.heap.size W W' := by
  obtain ⟨A, n, cap, zs, rfl, hl, hw, hs⟩ := op_ints Try.underlying36 Try.underlying3 (by kernel_rfl) o0 h0
  obtain ⟨A2, n2, cap2, rs, rfl, hl2, hw2, hs2⟩ := op_strings Try.underlying37 Try.underlying9 (by kernel_rfl) o1 h1
  exact back_walk A n cap zs A2 n2 cap2 rs W hl (fun z hz => bounds_i64 (hw z hz)) hs hl2 hw2 hs2
end

end Go.Proofs.Ytegpjgopakdhcaa.NumLaw
