/-
  Layer 12: what is asked of the landed streams; the document's example.
-/
import Derived.Deep.DeepCutAuto
import Derived.Deep.CutBlock
import Derived.Deep.QuietTactic
import Derived.BigQuiet
import Derived.Deep.RegionHeld
import Derived.Test.YtlmdkbhcocfhdaaProg
import Derived.Lib.SlicesSearch
import Derived.Lib.Walk
import Derived.Maps.OwnSet
import Derived.Maps.Ext
import Derived.Maps.RangeWalk
import Derived.Sort.KeysCollected
import Derived.ArgAppend
import Derived.Test.YtlmdkbhcocfhdaaMg1
namespace Go.Proofs.Ytlmdkbhcocfhdaa.SmWalk
open Go.RowKit Go.Proofs.Ytlmdkbhcocfhdaa.MemRow Go.Proofs.Ytlmdkbhcocfhdaa.Ev Go.Proofs.Ytlmdkbhcocfhdaa.NameMath Go.Proofs.Ytlmdkbhcocfhdaa.NameWalk Go.Proofs.Ytlmdkbhcocfhdaa.EvWalk Go.Proofs.Ytlmdkbhcocfhdaa.NumMem Go.Proofs.Ytlmdkbhcocfhdaa.DkWalk

/-- What is asked of the landed package: a table T behind a pointer g is 'St g T'. -/
structure SApi (St : Nat → Tb → Thing) : Prop where
  keeps : ∀ g T, Keeps (St g T)
  new : ∀ {base : Nat} {w : World}, base ≤ w.heap.size →
    Calls Try.prog 10 #[] w fun e w' => ∃ g, e = .returned (.pointer (some ⟨g, 0, none⟩)) ∧ Pair base w' (St g []) NoT ∧ Below w.heap.size w w'
  add : ∀ {base : Nat} {w : World} {g : Nat} {T : Tb} {Q : Thing} {s : ByteArray} {p : Int}, Pair base w (St g T) Q → Keeps Q → base ≤ w.heap.size → TOk T → T.length < 200 → s.size ≤ maxLen → (-9223372036854775808 ≤ p ∧ p ≤ 9223372036854775807) →
    Calls Try.prog 12 #[.pointer (some ⟨g, 0, none⟩), .string s, .int .i64 p] w fun e w' => e = .returned (.tuple #[.int .i64 (addF T s p).1, .int .i64 (addF T s p).2.1]) ∧ Pair base w' (St g (addF T s p).2.2) Q ∧ Below base w w'
  ver : ∀ {base : Nat} {w : World} {g : Nat} {T : Tb} {Q : Thing} {s : ByteArray} {u : Int}, Pair base w (St g T) Q → Keeps Q → TOk T → s.size ≤ maxLen → (-9223372036854775808 ≤ u ∧ u ≤ 9223372036854775807) →
    Calls Try.prog 20 #[.pointer (some ⟨g, 0, none⟩), .string s, .int .i64 u] w fun e w' => e = .returned (.int .i64 ((posF T s u).length : Nat)) ∧ Pair base w' (St g T) Q ∧ Below w.heap.size w w'
  pos : ∀ {base : Nat} {w : World} {g : Nat} {T : Tb} {Q : Thing} {s : ByteArray} {u : Int}, Pair base w (St g T) Q → Keeps Q → TOk T → s.size ≤ maxLen → (-9223372036854775808 ≤ u ∧ u ≤ 9223372036854775807) →
    Calls Try.prog 18 #[.pointer (some ⟨g, 0, none⟩), .string s, .int .i64 u] w fun e w' => ∃ B m c, e = .returned (.slice B m c) ∧ RdI w' B m c (posF T s u) ∧ Pair base w' (St g T) Q ∧ Below w.heap.size w w'
  names : ∀ {base : Nat} {w : World} {g : Nat} {T : Tb} {Q : Thing}, Pair base w (St g T) Q → Keeps Q → TOk T →
    Calls Try.prog 15 #[.pointer (some ⟨g, 0, none⟩)] w fun e w' => ∃ B m c, e = .returned (.slice B m c) ∧ RdS w' B m c (namesT T) ∧ Pair base w' (St g T) Q ∧ Below w.heap.size w w'
/-- .. and two tables, one of them made by Clone: they may share memory. -/
structure TwApi (St : Nat → Tb → Thing) (Tw : Nat → Tb → Nat → Tb → Thing) : Prop extends SApi St where
  tkeeps : ∀ g T g' T', Keeps (Tw g T g' T')
  swap : ∀ g T g' T', Imp (Tw g T g' T') (Tw g' T' g T)
  fst : ∀ g T g' T', Imp (Tw g T g' T') (St g T)
  clone : ∀ {base : Nat} {w : World} {g : Nat} {T : Tb} {Q : Thing}, Pair base w (St g T) Q → Keeps Q → base ≤ w.heap.size → TOk T →
    Calls Try.prog 11 #[.pointer (some ⟨g, 0, none⟩)] w fun e w' => ∃ g', e = .returned (.pointer (some ⟨g', 0, none⟩)) ∧ Pair base w' (Tw g T g' T) Q ∧ Below w.heap.size w w'
  tadd : ∀ {base : Nat} {w : World} {g g' : Nat} {T T' : Tb} {Q : Thing} {s : ByteArray} {p : Int}, Pair base w (Tw g T g' T') Q → Keeps Q → base ≤ w.heap.size → TOk T → T.length < 200 → s.size ≤ maxLen → (-9223372036854775808 ≤ p ∧ p ≤ 9223372036854775807) →
    Calls Try.prog 12 #[.pointer (some ⟨g, 0, none⟩), .string s, .int .i64 p] w fun e w' => e = .returned (.tuple #[.int .i64 (addF T s p).1, .int .i64 (addF T s p).2.1]) ∧ Pair base w' (Tw g (addF T s p).2.2 g' T') Q ∧ Below base w w'
  tver : ∀ {base : Nat} {w : World} {g g' : Nat} {T T' : Tb} {Q : Thing} {s : ByteArray} {u : Int}, Pair base w (Tw g T g' T') Q → Keeps Q → TOk T → s.size ≤ maxLen → (-9223372036854775808 ≤ u ∧ u ≤ 9223372036854775807) →
    Calls Try.prog 20 #[.pointer (some ⟨g, 0, none⟩), .string s, .int .i64 u] w fun e w' => e = .returned (.int .i64 ((posF T s u).length : Nat)) ∧ Pair base w' (Tw g T g' T') Q ∧ Below w.heap.size w w'
  tpos : ∀ {base : Nat} {w : World} {g g' : Nat} {T T' : Tb} {Q : Thing} {s : ByteArray} {u : Int}, Pair base w (Tw g T g' T') Q → Keeps Q → TOk T → s.size ≤ maxLen → (-9223372036854775808 ≤ u ∧ u ≤ 9223372036854775807) →
    Calls Try.prog 18 #[.pointer (some ⟨g, 0, none⟩), .string s, .int .i64 u] w fun e w' => ∃ B m c, e = .returned (.slice B m c) ∧ RdI w' B m c (posF T s u) ∧ Pair base w' (Tw g T g' T') Q ∧ Below w.heap.size w w'
theorem pair_impL {base : Nat} {w : World} {P P' Q : Thing} (i : Imp P P') (h : Pair base w P Q) : Pair base w P' Q := (pair_imp i h.swap).swap

def tS : ByteArray := ⟨#[115]⟩
def tT : ByteArray := ⟨#[116]⟩
theorem add_s1 : addF [] tS 1 = (1, 0, [(tS, 1)]) := by decide
theorem add_t2 : addF [(tS, 1)] tT 2 = (1, 0, [(tS, 1), (tT, 2)]) := by decide
theorem add_s5 : addF [(tS, 1), (tT, 2)] tS 5 = (2, 0, [(tS, 1), (tT, 2), (tS, 5)]) := by decide
theorem ver_s4 : posF [(tS, 1), (tT, 2), (tS, 5)] tS 4 = [1] := by decide
section
variable {St : Nat → Tb → Thing}
set_option maxHeartbeats 4000000 in
set_option maxRecDepth 100000 in
/-- The document's example. -/
theorem shown12_any (api : SApi St) (w : World) : Calls Try.prog 9 #[] w fun e w' => e = .returned (.bool true) ∧ Below w.heap.size w w' := by
  go_enter Try.func9, Try.ntmps9
  go_wp2_with fail
  refine (api.new (base := w.heap.size) (w := w) (Nat.le_refl _)).mono ?_
  rintro e w1 ⟨g, rfl, p1, b1⟩
  go_wp2_with fail
  refine (api.add (s := tS) (p := 1) p1 noT_keeps b1.size TOk.nil (by decide) (by decide) (by decide)).mono ?_
  rintro e w2 ⟨rfl, p2, b2⟩
  have o2 := add_ok TOk.nil (s := tS) (p := 1) (by decide) (by decide) (by decide)
  rw [add_s1] at p2 o2 ⊢
  have B2 := b1.trans b2
  clear p1 b1 b2
  go_wp2_with fail
  refine (api.add (s := tT) (p := 2) p2 noT_keeps B2.size o2 (by decide) (by decide) (by decide)).mono ?_
  rintro e w3 ⟨rfl, p3, b3⟩
  have o3 := add_ok o2 (s := tT) (p := 2) (by decide) (by decide) (by decide)
  rw [add_t2] at p3 o3 ⊢
  have B3 := B2.trans b3
  clear p2 B2 b3 o2
  go_wp2_with fail
  refine (api.add (s := tS) (p := 5) p3 noT_keeps B3.size o3 (by decide) (by decide) (by decide)).mono ?_
  rintro e w4 ⟨rfl, p4, b4⟩
  have o4 := add_ok o3 (s := tS) (p := 5) (by decide) (by decide) (by decide)
  rw [add_s5] at p4 o4 ⊢
  have B4 := B3.trans b4
  clear p3 B3 b4 o3
  go_wp2_with fail
  refine (api.ver (s := tS) (u := 4) p4 noT_keeps o4 (by decide) (by decide)).mono ?_
  rintro e w5 ⟨rfl, p5, b5⟩
  rw [ver_s4]
  have B5 := below_chain B4 b5
  clear p4 B4 b5 o4
  go_wp2_with fail
  go_ret
  exact ⟨by simp, B5⟩
end

end Go.Proofs.Ytlmdkbhcocfhdaa.SmWalk

/-
  Walk of a statement of layer 12: StreamsRefuse.
-/
namespace Go.Proofs.Ytlmdkbhcocfhdaa.SmWalk
open Go.RowKit Go.WideShapes Go.ChangeShapes Go.Proofs.Ytlmdkbhcocfhdaa.MemRow Go.Proofs.Ytlmdkbhcocfhdaa.Ev Go.Proofs.Ytlmdkbhcocfhdaa.Open Go.Proofs.Ytlmdkbhcocfhdaa.NameMath Go.Proofs.Ytlmdkbhcocfhdaa.NameWalk Go.Proofs.Ytlmdkbhcocfhdaa.EvWalk Go.Proofs.Ytlmdkbhcocfhdaa.NumMem Go.Proofs.Ytlmdkbhcocfhdaa.DkWalk

section
variable {St : Nat → Tb → Thing}
theorem take_ok {ss : List ByteArray} (hs : ∀ s ∈ ss, s.size ≤ maxLen) {j : Nat} (hj : j ≤ 60) : TOk (seqT (ss.take j)) :=
  seq_ok (by rw [List.length_take]; omega) fun s h => hs s (List.mem_of_mem_take h)
theorem take_seq_len (ss : List ByteArray) {j : Nat} (hj : j ≤ 60) : (seqT (ss.take j)).length < 200 := by rw [seq_len, List.length_take]; omega
theorem getD_sz {ss : List ByteArray} (hs : ∀ s ∈ ss, s.size ≤ maxLen) (j : Nat) : (ss.getD j ByteArray.empty).size ≤ maxLen := by
  by_cases h : j < ss.length
  · simp only [List.getD, List.getElem?_eq_getElem h, Option.getD_some]
    exact hs _ (List.getElem_mem h)
  · simp [List.getD, List.getElem?_eq_none (Nat.le_of_not_lt h)]
set_option maxHeartbeats 8000000 in
set_option maxRecDepth 100000 in
theorem refuse_walk (api : SApi St) (A : Option Addr) (n cap : Nat) (ss : List ByteArray) (s : ByteArray) (z : Int) (w0 : World) (h0 : RdS w0 A n cap ss) (hsz : ∀ x ∈ ss, x.size ≤ maxLen) (hs : s.size ≤ maxLen) (hz : -9223372036854775808 ≤ z ∧ z ≤ 9223372036854775807) :
    Calls Try.prog 6 #[.slice A n cap, .string s, .int .i64 z] w0 fun e w' => e = .returned (.bool true) ∧ Below w0.heap.size w0 w' := by
  have hn := RdC.le h0
  unfold maxLen at hn
  have HN := Go.Lib.hid (RdS.len h0)
  have HZ := Go.Lib.hid hsz
  clear hsz
  go_enter Try.func6, Try.ntmps6
  go_wp2_with fail
  refine (shown12_any api w0).mono ?_
  rintro e w1 ⟨rfl, B1⟩
  go_wp2_with fail
  refine (api.new B1.size).mono ?_
  rintro e w2 ⟨g, rfl, p2, b2⟩
  have B2 := below_chain B1 b2
  clear B1 b2
  have hmin : ((min (n : Int) 40) : Int) = ((min n 40 : Nat) : Int) := by omega
  obtain ⟨k, hk⟩ : ∃ k, k = min n 40 := ⟨_, rfl⟩
  have hk40 : k ≤ 40 := by omega
  have hkn : k ≤ n := by omega
  rw [← hk] at hmin
  clear hk
  go_wp2_with fail
  go_loopw [10] (fun iv wr => ∃ (j : Nat), iv = .int .i64 (j : Int) ∧ j ≤ k ∧ Pair w0.heap.size wr (St g (seqT (ss.take j))) NoT ∧ Below w0.heap.size w0 wr) (fun iv _ => k - (intOf iv).toNat)
  case atStart => exact ⟨0, rfl, Nat.zero_le _, p2, B2⟩
  case round =>
    obtain ⟨j, rfl, hj, pj, Bj⟩ := hrel
    clear p2 B2
    by_cases hlt : j < k
    · have i1 : (j : Int) < k := by omega
      obtain ⟨bb, ob, rfl, _, kk⟩ := RdS.at_ h0 (by omega)
      have y1 := bcell Bj (kk j (by omega))
      have hsx := getD_sz HZ.out j
      have hnx := seq_next (l := ss) (j := j) (by rw [HN.out]; omega)
      have HX := Go.Lib.hid hnx
      clear kk hnx
      generalize ss.getD j ByteArray.empty = x at *
      have i2 : IntKind.i64.wrap ((j : Int) + 1) = (j : Int) + 1 := IntWalk.i64_in _ (by omega)
      go_wp2_with fail
      refine (api.add (s := x) (p := (j : Int) + 1) pj noT_keeps Bj.size (take_ok HZ.out (by omega)) (take_seq_len ss (by omega)) hsx (by omega)).mono ?_
      rintro e w3 ⟨rfl, p3, b3⟩
      rw [HX.out] at p3
      have B3 := Bj.trans b3
      clear pj Bj b3
      go_wp2_with fail
      go_roundw
      case rel => exact ⟨j + 1, by go_num, by omega, p3, B3⟩
      case measure => simp [intOf]; omega
    · obtain rfl : j = k := by omega
      have i1 : ¬ (j : Int) < j := by omega
      have ok := take_ok HZ.out (show j ≤ 60 by omega)
      have hl := take_seq_len ss (show j ≤ 60 by omega)
      have hll : (ss.take j).length = j := by rw [List.length_take, HN.out]; omega
      have LL := Go.Lib.hid hll
      clear hll
      have hlast : lastP (seqT (ss.take j)) = (j : Int) := by rw [seq_last, LL.out]
      have hle : ∀ x ∈ seqT (ss.take j), x.2 ≤ (j : Int) := fun x hx => by have := last_le ok.rise x hx; omega
      have HLE := Go.Lib.hid hle
      have HLA := Go.Lib.hid hlast
      clear hle hlast LL
      generalize seqT (ss.take j) = T at *
      go_wp2_with fail
      refine (api.names pj noT_keeps ok).mono ?_
      rintro e w3 ⟨C, m, c, rfl, r3, p3, b3⟩
      have hm := RdS.len r3
      have hm2 := RdC.le r3
      unfold maxLen at hm2
      have B3 := below_chain Bj b3
      clear pj Bj b3 r3
      go_wp2_with fail
      refine (api.ver (s := s) (u := (j : Int)) p3 noT_keeps ok hs (by omega)).mono ?_
      rintro e w4 ⟨rfl, p4, b4⟩
      have B4 := below_chain B3 b4
      have hV := posF_len T s (j : Int)
      obtain ⟨V, hVe⟩ : ∃ V, (posF T s (j : Int)).length = V := ⟨_, rfl⟩
      rw [hVe] at hV ⊢
      have HV := Go.Lib.hid hVe
      have HM := Go.Lib.hid hm
      clear p3 B3 b4 hVe hm
      go_wp2_with fail
      refine (api.add (s := s) (p := z) p4 noT_keeps B4.size ok hl hs hz).mono ?_
      rintro e w5 ⟨rfl, p5, b5⟩
      have ok5 := add_ok ok (s := s) (p := z) hl hs hz.2
      have B5 := B4.trans b5
      clear p4 B4 b5
      by_cases hzj : (j : Int) < z
      · have e1 := add_yes ok.rise s (p := z) (by omega) (by rw [HLA.out]; omega)
        rw [HLA.out, HV.out] at e1
        have e2 : (posF (T ++ [(s, z)]) s z).length = V + 1 := by
          rw [posF_hit (Int.le_refl z), posF_big (v := (j : Int)) (fun x hx => by have := HLE.out x hx; omega) HLE.out, List.length_append, HV.out]; rfl
        rw [e1] at p5 ok5 ⊢
        have E2 := Go.Lib.hid e2
        have i2 : IntKind.i64.wrap ((V : Int) + 1) = (V : Int) + 1 := IntWalk.i64_in _ (by omega)
        clear e1 e2
        go_wp2_with fail
        refine (api.ver (s := s) (u := z) p5 noT_keeps ok5 hs hz).mono ?_
        rintro e w6 ⟨rfl, p6, b6⟩
        rw [show (T ++ [(s, z)] : Tb) = T ++ [(s, z)] from rfl, E2.out]
        have B6 := below_chain B5 b6
        go_wp2_with fail
        go_ret
        exact ⟨by simp, B6⟩
      · rw [add_no s (.inr (by rw [HLA.out]; omega))] at p5 ok5 ⊢
        clear ok5
        go_wp2_with fail
        refine (api.ver (s := s) (u := (j : Int)) p5 noT_keeps ok hs (by omega)).mono ?_
        rintro e w6 ⟨rfl, p6, b6⟩
        rw [HV.out]
        have B6 := below_chain B5 b6
        clear p5 B5 b6
        go_wp2_with fail
        refine (api.names p6 noT_keeps ok).mono ?_
        rintro e w7 ⟨C7, m7, c7, rfl, r7, p7, b7⟩
        obtain rfl : m7 = m := (RdS.len r7).symm.trans HM.out
        have B7 := below_chain B6 b7
        go_wp2_with fail
        go_ret
        exact ⟨by simp, B7⟩
end

end Go.Proofs.Ytlmdkbhcocfhdaa.SmWalk

/-
  Walk of a statement of layer 12: StreamsCopies.
-/
namespace Go.Proofs.Ytlmdkbhcocfhdaa.SmWalk
open Go.RowKit Go.WideShapes Go.ChangeShapes Go.Proofs.Ytlmdkbhcocfhdaa.MemRow Go.Proofs.Ytlmdkbhcocfhdaa.Ev Go.Proofs.Ytlmdkbhcocfhdaa.Open Go.Proofs.Ytlmdkbhcocfhdaa.NameMath Go.Proofs.Ytlmdkbhcocfhdaa.NameWalk Go.Proofs.Ytlmdkbhcocfhdaa.EvWalk Go.Proofs.Ytlmdkbhcocfhdaa.NumMem Go.Proofs.Ytlmdkbhcocfhdaa.DkWalk

section
variable {St : Nat → Tb → Thing} {Tw : Nat → Tb → Nat → Tb → Thing}
theorem pos_more {T : Tb} {s : ByteArray} {p u v : Int} (h : ∀ x ∈ T, x.2 ≤ v) (hv : v ≤ u) (hp : p ≤ u) : (posF (T ++ [(s, p)]) s u).length = (posF T s v).length + 1 := by
  rw [posF_hit hp, posF_big (v := v) (fun x hx => by have := h x hx; omega) h, List.length_append]; rfl
theorem pos_other {T : Tb} {s t : ByteArray} {p u v : Int} (h : ∀ x ∈ T, x.2 ≤ v) (hv : v ≤ u) (hne : t ≠ s) : (posF (T ++ [(t, p)]) s u).length = (posF T s v).length := by
  rw [posF_miss (fun e => hne e.1), posF_big (v := v) (fun x hx => by have := h x hx; omega) h]
set_option maxHeartbeats 8000000 in
set_option maxRecDepth 100000 in
theorem copies_walk (api : TwApi St Tw) (A : Option Addr) (n cap : Nat) (ss : List ByteArray) (sa sb : ByteArray) (w0 : World) (h0 : RdS w0 A n cap ss) (hsz : ∀ x ∈ ss, x.size ≤ maxLen) (ha : sa.size ≤ maxLen) (hb : sb.size ≤ maxLen) :
    Calls Try.prog 8 #[.slice A n cap, .string sa, .string sb] w0 fun e w' => e = .returned (.bool true) ∧ Below w0.heap.size w0 w' := by
  have hn := RdC.le h0
  unfold maxLen at hn
  have HN := Go.Lib.hid (RdS.len h0)
  have HZ := Go.Lib.hid hsz
  clear hsz
  go_enter Try.func8, Try.ntmps8
  go_wp2_with fail
  refine (shown12_any api.toSApi w0).mono ?_
  rintro e w1 ⟨rfl, B1⟩
  go_wp2_with fail
  refine (api.new B1.size).mono ?_
  rintro e w2 ⟨g, rfl, p2, b2⟩
  have B2 := below_chain B1 b2
  clear B1 b2
  have hmin : ((min (n : Int) 40) : Int) = ((min n 40 : Nat) : Int) := by omega
  obtain ⟨k, hk⟩ : ∃ k, k = min n 40 := ⟨_, rfl⟩
  have hk40 : k ≤ 40 := by omega
  have hkn : k ≤ n := by omega
  rw [← hk] at hmin
  clear hk
  go_wp2_with fail
  go_loopw [10] (fun iv wr => ∃ (j : Nat), iv = .int .i64 (j : Int) ∧ j ≤ k ∧ Pair w0.heap.size wr (St g (seqT (ss.take j))) NoT ∧ Below w0.heap.size w0 wr) (fun iv _ => k - (intOf iv).toNat)
  case atStart => exact ⟨0, rfl, Nat.zero_le _, p2, B2⟩
  case round =>
    obtain ⟨j, rfl, hj, pj, Bj⟩ := hrel
    clear p2 B2
    by_cases hlt : j < k
    · have i1 : (j : Int) < k := by omega
      obtain ⟨bb, ob, rfl, _, kk⟩ := RdS.at_ h0 (by omega)
      have y1 := bcell Bj (kk j (by omega))
      have hsx := getD_sz HZ.out j
      have hnx := seq_next (l := ss) (j := j) (by rw [HN.out]; omega)
      have HX := Go.Lib.hid hnx
      clear kk hnx
      generalize ss.getD j ByteArray.empty = x at *
      have i2 : IntKind.i64.wrap ((j : Int) + 1) = (j : Int) + 1 := IntWalk.i64_in _ (by omega)
      go_wp2_with fail
      refine (api.add (s := x) (p := (j : Int) + 1) pj noT_keeps Bj.size (take_ok HZ.out (by omega)) (take_seq_len ss (by omega)) hsx (by omega)).mono ?_
      rintro e w3 ⟨rfl, p3, b3⟩
      rw [HX.out] at p3
      have B3 := Bj.trans b3
      clear pj Bj b3
      go_wp2_with fail
      go_roundw
      case rel => exact ⟨j + 1, by go_num, by omega, p3, B3⟩
      case measure => simp [intOf]; omega
    · obtain rfl : j = k := by omega
      have i1 : ¬ (j : Int) < j := by omega
      have ok := take_ok HZ.out (show j ≤ 60 by omega)
      have hl := take_seq_len ss (show j ≤ 60 by omega)
      have hll : (ss.take j).length = j := by rw [List.length_take, HN.out]; omega
      have hlast : lastP (seqT (ss.take j)) = (j : Int) := by rw [seq_last, hll]
      have hle : ∀ x ∈ seqT (ss.take j), x.2 ≤ (j : Int) := fun x hx => by have := last_le ok.rise x hx; omega
      have HLE := Go.Lib.hid hle
      have HLA := Go.Lib.hid hlast
      clear hle hlast hll
      generalize seqT (ss.take j) = T at *
      have e1 := add_yes ok.rise sa (p := (j : Int) + 1) (by omega) (by rw [HLA.out]; omega)
      have e2 := add_yes ok.rise sb (p := (j : Int) + 2) (by omega) (by rw [HLA.out]; omega)
      rw [HLA.out] at e1 e2
      have o1 := add_ok ok (s := sa) (p := (j : Int) + 1) hl ha (by omega)
      have o2 := add_ok ok (s := sb) (p := (j : Int) + 2) hl hb (by omega)
      rw [e1] at o1
      rw [e2] at o2
      have v1 := pos_more (s := sa) (p := (j : Int) + 1) (u := (j : Int) + 9) HLE.out (by omega) (by omega)
      have v2 := pos_more (s := sb) (p := (j : Int) + 2) (u := (j : Int) + 9) HLE.out (by omega) (by omega)
      have v3 := fun hne => pos_other (s := sa) (t := sb) (p := (j : Int) + 2) (u := (j : Int) + 9) HLE.out (by omega) hne
      have v4 := fun hne => pos_other (s := sb) (t := sa) (p := (j : Int) + 1) (u := (j : Int) + 9) HLE.out (by omega) hne
      have hX := posF_len T sa (j : Int)
      have hY := posF_len T sb (j : Int)
      obtain ⟨X, hXe⟩ : ∃ X, (posF T sa (j : Int)).length = X := ⟨_, rfl⟩
      obtain ⟨Y, hYe⟩ : ∃ Y, (posF T sb (j : Int)).length = Y := ⟨_, rfl⟩
      rw [hXe] at hX e1 v1 v3
      rw [hYe] at hY e2 v2 v4
      have HX := Go.Lib.hid hXe
      have HY := Go.Lib.hid hYe
      have E1 := Go.Lib.hid e1
      have E2 := Go.Lib.hid e2
      have V1 := Go.Lib.hid v1
      have V2 := Go.Lib.hid v2
      have V3 := Go.Lib.hid v3
      have V4 := Go.Lib.hid v4
      clear hXe hYe e1 e2 v1 v2 v3 v4 HLE HLA
      have n1 : IntKind.i64.wrap ((j : Int) + 1) = (j : Int) + 1 := IntWalk.i64_in _ (by omega)
      have n2 : IntKind.i64.wrap ((j : Int) + 2) = (j : Int) + 2 := IntWalk.i64_in _ (by omega)
      have n9 : IntKind.i64.wrap ((j : Int) + 9) = (j : Int) + 9 := IntWalk.i64_in _ (by omega)
      have nX : IntKind.i64.wrap ((X : Int) + 1) = (X : Int) + 1 := IntWalk.i64_in _ (by omega)
      have nY : IntKind.i64.wrap ((Y : Int) + 1) = (Y : Int) + 1 := IntWalk.i64_in _ (by omega)
      go_wp2_with fail
      refine (api.ver (s := sa) (u := (j : Int)) pj noT_keeps ok ha (by omega)).mono ?_
      rintro e w3 ⟨rfl, p3, b3⟩
      rw [HX.out]
      have B3 := below_chain Bj b3
      clear pj Bj b3
      go_wp2_with fail
      refine (api.ver (s := sb) (u := (j : Int)) p3 noT_keeps ok hb (by omega)).mono ?_
      rintro e w4 ⟨rfl, p4, b4⟩
      rw [HY.out]
      have B4 := below_chain B3 b4
      clear p3 B3 b4
      go_wp2_with fail
      refine (api.clone p4 noT_keeps B4.size ok).mono ?_
      rintro e w5 ⟨g2, rfl, p5, b5⟩
      have B5 := below_chain B4 b5
      clear p4 B4 b5
      go_wp2_with fail
      refine (api.tadd (s := sa) (p := (j : Int) + 1) p5 noT_keeps B5.size ok hl ha (by omega)).mono ?_
      rintro e w6 ⟨rfl, p6, b6⟩
      rw [E1.out] at p6 ⊢
      have B6 := B5.trans b6
      have q6 := pair_impL (api.swap _ _ _ _) p6
      clear p5 B5 b6 p6
      go_wp2_with fail
      refine (api.tadd (s := sb) (p := (j : Int) + 2) q6 noT_keeps B6.size ok hl hb (by omega)).mono ?_
      rintro e w7 ⟨rfl, p7, b7⟩
      rw [E2.out] at p7 ⊢
      have B7 := B6.trans b7
      have q7 := pair_impL (api.swap _ _ _ _) p7
      clear q6 B6 b7 p7
      go_wp2_with fail
      refine (api.tver (s := sa) (u := (j : Int) + 9) q7 noT_keeps o1 ha (by omega)).mono ?_
      rintro e w8 ⟨rfl, p8, b8⟩
      rw [V1.out]
      have B8 := below_chain B7 b8
      clear q7 B7 b8
      by_cases hab : sa = sb
      · subst hab
        have q8 := pair_impL (api.swap _ _ _ _) p8
        clear p8
        go_wp2_with fail
        refine (api.tpos (s := sa) (u := (j : Int) + 9) q8 noT_keeps o2 ha (by omega)).mono ?_
        rintro e w9 ⟨C, m, c, rfl, r9, _, b9⟩
        obtain rfl : m = Y + 1 := by have := r9.len; rw [V2.out] at this; omega
        have B9 := below_chain B8 b9
        go_wp2_with fail
        go_ret
        exact ⟨by simp, B9⟩
      · have hne := str_ne hab
        have q8 := pair_impL (api.swap _ _ _ _) p8
        have V3' := Go.Lib.hid (V3.out fun e => hab e.symm)
        have V4' := Go.Lib.hid (V4.out hab)
        clear p8 V3 V4
        go_wp2_with fail
        refine (api.tver (s := sa) (u := (j : Int) + 9) q8 noT_keeps o2 ha (by omega)).mono ?_
        rintro e w9 ⟨rfl, p9, b9⟩
        rw [V3'.out]
        have B9 := below_chain B8 b9
        have q9 := pair_impL (api.swap _ _ _ _) p9
        clear q8 B8 b9 p9
        go_wp2_with fail
        refine (api.tver (s := sb) (u := (j : Int) + 9) q9 noT_keeps o1 hb (by omega)).mono ?_
        rintro e w10 ⟨rfl, p10, b10⟩
        rw [V4'.out]
        have B10 := below_chain B9 b10
        have q10 := pair_impL (api.swap _ _ _ _) p10
        clear q9 B9 b10 p10
        go_wp2_with fail
        refine (api.tpos (s := sb) (u := (j : Int) + 9) q10 noT_keeps o2 hb (by omega)).mono ?_
        rintro e w11 ⟨C, m, c, rfl, r11, _, b11⟩
        obtain rfl : m = Y + 1 := by have := r11.len; rw [V2.out] at this; omega
        have B11 := below_chain B10 b11
        go_wp2_with fail
        go_ret
        exact ⟨by simp, B11⟩
end

end Go.Proofs.Ytlmdkbhcocfhdaa.SmWalk

/-
  Walk of a statement of layer 12: StreamsUpto.
-/
namespace Go.Proofs.Ytlmdkbhcocfhdaa.SmWalk
open Go.RowKit Go.WideShapes Go.ChangeShapes Go.Proofs.Ytlmdkbhcocfhdaa.MemRow Go.Proofs.Ytlmdkbhcocfhdaa.Ev Go.Proofs.Ytlmdkbhcocfhdaa.Open Go.Proofs.Ytlmdkbhcocfhdaa.NameMath Go.Proofs.Ytlmdkbhcocfhdaa.NameWalk Go.Proofs.Ytlmdkbhcocfhdaa.EvWalk Go.Proofs.Ytlmdkbhcocfhdaa.NumMem Go.Proofs.Ytlmdkbhcocfhdaa.DkWalk

section
variable {St : Nat → Tb → Thing}
theorem split_at {ss : List ByteArray} (s : ByteArray) {k a : Nat} (hk : k ≤ ss.length) (ha : a ≤ k) :
    posF (seqT (ss.take k)) s a = posF (seqT (ss.take a)) s a ∧ ∃ Y, posF (seqT (ss.take k)) s k = posF (seqT (ss.take k)) s a ++ Y ∧ ∀ q ∈ Y, (a : Int) < q := by
  have e : ss.take k = ss.take a ++ (ss.take k).drop a := by
    have h := (List.take_append_drop a (ss.take k)).symm
    rw [List.take_take, Nat.min_eq_left ha] at h
    exact h
  have hl : (ss.take a).length = a := by rw [List.length_take]; omega
  rw [e]
  refine ⟨seq_stays _ _ s (by rw [hl]; exact Int.le_refl _), ?_⟩
  obtain ⟨Y, h1, h2⟩ := pos_split (ss.take a) ((ss.take k).drop a) s (u := (a : Int)) (v := (k : Int)) (by rw [hl]) (by omega)
  exact ⟨Y, h1, h2⟩
theorem getD_left {S Y : List Int} {i : Nat} (h : i < S.length) : (S ++ Y).getD i 0 = S.getD i 0 := by simp [List.getD, List.getElem?_append_left h]
theorem getD_in {S : List Int} {i : Nat} (h : i < S.length) : S.getD i 0 ∈ S := by
  simp only [List.getD, List.getElem?_eq_getElem h, Option.getD_some]
  exact List.getElem_mem h
theorem getD_right {S Y : List Int} {i : Nat} (h : S.length ≤ i) (h2 : i < (S ++ Y).length) : (S ++ Y).getD i 0 ∈ Y := by
  rw [List.length_append] at h2
  have e : (S ++ Y).getD i 0 = Y.getD (i - S.length) 0 := by simp [List.getD, List.getElem?_append_right h]
  rw [e]
  exact getD_in (by omega)
set_option maxHeartbeats 8000000 in
set_option maxRecDepth 100000 in
theorem upto_walk (api : SApi St) (A : Option Addr) (n cap : Nat) (ss : List ByteArray) (s : ByteArray) (z : Int) (w0 : World) (h0 : RdS w0 A n cap ss) (hsz : ∀ x ∈ ss, x.size ≤ maxLen) (hs : s.size ≤ maxLen) :
    Calls Try.prog 5 #[.slice A n cap, .string s, .int .i64 z] w0 fun e w' => e = .returned (.bool true) ∧ Below w0.heap.size w0 w' := by
  have hn := RdC.le h0
  unfold maxLen at hn
  have HN := Go.Lib.hid (RdS.len h0)
  have HZ := Go.Lib.hid hsz
  clear hsz
  go_enter Try.func5, Try.ntmps5
  go_wp2_with fail
  refine (shown12_any api w0).mono ?_
  rintro e w1 ⟨rfl, B1⟩
  go_wp2_with fail
  refine (api.new B1.size).mono ?_
  rintro e w2 ⟨g, rfl, p2, b2⟩
  have B2 := below_chain B1 b2
  clear B1 b2
  have hmin : ((min (n : Int) 60) : Int) = ((min n 60 : Nat) : Int) := by omega
  obtain ⟨k, hk⟩ : ∃ k, k = min n 60 := ⟨_, rfl⟩
  have hk60 : k ≤ 60 := by omega
  have hkn : k ≤ n := by omega
  rw [← hk] at hmin
  have hmax : max z 0 = ((z.toNat : Nat) : Int) := by omega
  have hmn : min ((z.toNat : Nat) : Int) (k : Int) = ((min z.toNat k : Nat) : Int) := by omega
  have hak : min z.toNat k ≤ k := by omega
  generalize min z.toNat k = a at *
  generalize z.toNat = m at *
  clear hk
  obtain ⟨hsp1, hsp2⟩ := split_at (ss := ss) s (k := k) (a := a) (by rw [HN.out]; exact hkn) hak
  have HS1 := Go.Lib.hid hsp1
  have HS2 := Go.Lib.hid hsp2
  obtain ⟨W, hW⟩ : ∃ W, W = (posF (seqT (ss.take a)) s a).length := ⟨_, rfl⟩
  have HW := Go.Lib.hid hW
  clear hsp1 hsp2 hW
  go_wp2_with fail
  go_loopw [11, 12] (fun vv iv wr => ∃ (j : Nat) (V : Int), vv = .int .i64 V ∧ iv = .int .i64 (j : Int) ∧ j ≤ k ∧ Hid (a < j → V = (W : Int)) ∧ Pair w0.heap.size wr (St g (seqT (ss.take j))) NoT ∧ Below w0.heap.size w0 wr) (fun _ iv _ => k - (intOf iv).toNat)
  case atStart => exact ⟨0, 0, rfl, rfl, Nat.zero_le _, Go.Lib.hid (fun h => absurd h (by omega)), p2, B2⟩
  case round =>
    obtain ⟨j, V, rfl, rfl, hj, HV, pj, Bj⟩ := hrel
    clear p2 B2
    by_cases hlt : j < k
    · have i1 : (j : Int) < k := by omega
      obtain ⟨bb, ob, rfl, _, kk⟩ := RdS.at_ h0 (by omega)
      have hsx := getD_sz HZ.out j
      have hnx := seq_next (l := ss) (j := j) (by rw [HN.out]; omega)
      have HX := Go.Lib.hid hnx
      have i2 : IntKind.i64.wrap ((j : Int) + 1) = (j : Int) + 1 := IntWalk.i64_in _ (by omega)
      have y0 := kk j (by omega)
      clear kk hnx
      generalize ss.getD j ByteArray.empty = x at *
      by_cases hja : j = a
      · subst hja
        have hAa := HW.out
        have HA := Go.Lib.hid hAa
        clear hAa
        go_wp2_with fail
        refine (api.ver (s := s) (u := (j : Int)) pj noT_keeps (take_ok HZ.out (by omega)) hs (by omega)).mono ?_
        rintro e w3 ⟨rfl, p3, b3⟩
        rw [← HA.out]
        have B3 := below_chain Bj b3
        have y1 := bcell B3 y0
        clear pj Bj b3
        go_wp2_with fail
        refine (api.add (s := x) (p := (j : Int) + 1) p3 noT_keeps B3.size (take_ok HZ.out (by omega)) (take_seq_len ss (by omega)) hsx (by omega)).mono ?_
        rintro e w4 ⟨rfl, p4, b4⟩
        rw [HX.out] at p4
        have B4 := B3.trans b4
        clear p3 B3 b4
        go_wp2_with fail
        go_roundw
        case rel => exact ⟨j + 1, (W : Int), rfl, by go_num, by omega, Go.Lib.hid (fun _ => rfl), p4, B4⟩
        case measure => simp [intOf]; omega
      · have i3 : ((j : Int) == (a : Int)) = false := by rw [beq_eq_false_iff_ne]; omega
        have y1 := bcell Bj y0
        go_wp2_with fail
        refine (api.add (s := x) (p := (j : Int) + 1) pj noT_keeps Bj.size (take_ok HZ.out (by omega)) (take_seq_len ss (by omega)) hsx (by omega)).mono ?_
        rintro e w4 ⟨rfl, p4, b4⟩
        rw [HX.out] at p4
        have B4 := Bj.trans b4
        clear pj Bj b4
        go_wp2_with fail
        go_roundw
        case rel => exact ⟨j + 1, V, rfl, by go_num, by omega, Go.Lib.hid (fun h => HV.out (by omega)), p4, B4⟩
        case measure => simp [intOf]; omega
    · obtain rfl : j = k := by omega
      have i1 : ¬ (j : Int) < j := by omega
      have ok := take_ok HZ.out (show j ≤ 60 by omega)
      obtain ⟨Y, hY1, hY2⟩ := HS2.out
      have hsm : ∀ q ∈ posF (seqT (ss.take j)) s a, q ≤ (a : Int) := fun q hq => (posF_mem.1 hq).2
      rw [← HS1.out] at HW
      generalize seqT (ss.take j) = T at *
      have HY1 := Go.Lib.hid hY1
      have HY2 := Go.Lib.hid hY2
      have HSM := Go.Lib.hid hsm
      clear HS1 HS2 hY1 hY2 hsm
      go_upto_if 53 with (fail)
      go_cut [11] (fun vv wx => vv = .int .i64 (W : Int) ∧ Pair w0.heap.size wx (St g T) NoT ∧ Below w0.heap.size w0 wx)
      case first =>
        by_cases hja : a = j
        · subst hja
          go_wp2_with fail
          refine (api.ver (s := s) (u := (a : Int)) pj noT_keeps ok hs (by omega)).mono ?_
          rintro e w3 ⟨rfl, p3, b3⟩
          rw [← HW.out]
          have B3 := below_chain Bj b3
          clear pj Bj b3
          go_wp2_with fail
          go_meet
          exact ⟨rfl, p3, B3⟩
        · have i3 : ((a : Int) == (j : Int)) = false := by rw [beq_eq_false_iff_ne]; omega
          have hV := Go.Lib.hid (HV.out (by omega))
          go_wp2_with fail
          go_meet
          exact ⟨by rw [hV.out], pj, Bj⟩
      case rest =>
        obtain ⟨rfl, p3, B3⟩ := hcut
        clear pj Bj HV
        go_wp2_with fail
        refine (api.pos (s := s) (u := (j : Int)) p3 noT_keeps ok hs (by omega)).mono ?_
        rintro e w4 ⟨C, mc, c, rfl, r4, p4, b4⟩
        have B4 := below_chain B3 b4
        clear p3 B3 b4
        go_wp2_with fail
        refine (api.pos (s := s) (u := (a : Int)) p4 noT_keeps ok hs (by omega)).mono ?_
        rintro e w5 ⟨D, md, d, rfl, r5, p5, b5⟩
        have B5 := below_chain B4 b5
        have r4 : RdI w5 C mc c (posF T s j) := RdC.below r4 b5
        rw [HY1.out] at r4
        obtain rfl : md = W := by rw [← r5.len, HW.out]
        have hle : md ≤ mc := by have := r4.len; rw [List.length_append, r5.len] at this; omega
        have hmc := RdC.le r4
        unfold maxLen at hmc
        have j1 : ¬ (mc : Int) < md := by omega
        clear p4 B4 b5
        go_wp2_with fail
        refine (api.ver (s := s) (u := (a : Int)) p5 noT_keeps ok hs (by omega)).mono ?_
        rintro e w6 ⟨rfl, p6, b6⟩
        rw [← HW.out]
        have B6 := below_chain B5 b6
        have r4 : RdI w6 C mc c (posF T s (a : Int) ++ Y) := RdC.below r4 b6
        have r5 : RdI w6 D md d (posF T s (a : Int)) := RdC.below r5 b6
        clear p5 B5 b6
        go_wp2_with fail
        go_loopw [15] (fun iv wr => ∃ (i : Nat), iv = .int .i64 (i : Int) ∧ i ≤ mc ∧ Hid (∃ q, wr = w6.drewN q)) (fun iv _ => mc - (intOf iv).toNat)
        case atStart => exact ⟨0, rfl, Nat.zero_le _, Go.Lib.hid ⟨0, rfl⟩⟩
        case round =>
          obtain ⟨i, rfl, hi, HQ⟩ := hrel
          by_cases hlt2 : i < mc
          · have i4 : (i : Int) < mc := by omega
            have r4' : RdI wr C mc c (posF T s (a : Int) ++ Y) := by obtain ⟨q, rfl⟩ := HQ.out; exact r4
            have r5' : RdI wr D md d (posF T s (a : Int)) := by obtain ⟨q, rfl⟩ := HQ.out; exact r5
            obtain ⟨b1, o1, rfl, _, k1⟩ := RdI.at_ r4' (by omega)
            have y1 := k1 i hlt2
            by_cases his : i < md
            · have i5 : (i : Int) < md := by omega
              obtain ⟨b2, o2, rfl, _, k2⟩ := RdI.at_ r5' (by omega)
              have y2 := k2 i his
              have hle2 := HSM.out _ (getD_in (S := posF T s a) (i := i) (by rw [r5.len]; exact his))
              rw [getD_left (by rw [r5.len]; exact his)] at y1
              clear k1 k2 r4' r5' r4 r5
              generalize (posF T s (a : Int)).getD i 0 = x at *
              have i6 : (x != x) = false := by simp
              go_upto_region 23 with (fail)
              go_quiet (fail)
              go_wp2_with fail
              go_roundw
              case rel => exact ⟨i + 1, by go_num, by omega, Go.Lib.hid (by obtain ⟨q, hq⟩ := HQ.out; exact ⟨_, by rw [hq, World.drewN_drewN]⟩)⟩
              case measure => simp [intOf]; omega
            · have i5 : ¬ (i : Int) < md := by omega
              have hgt := HY2.out _ (getD_right (S := posF T s a) (Y := Y) (i := i) (by rw [r5.len]; omega) (by rw [r4.len]; exact hlt2))
              clear k1 r4' r5' r4 r5
              generalize (posF T s (a : Int) ++ Y).getD i 0 = x at *
              have i6 : ¬ x ≤ (a : Int) := by omega
              go_upto_region 23 with (fail)
              go_quiet (fail)
              go_wp2_with fail
              go_roundw
              case rel => exact ⟨i + 1, by go_num, by omega, Go.Lib.hid (by obtain ⟨q, hq⟩ := HQ.out; exact ⟨_, by rw [hq, World.drewN_drewN]⟩)⟩
              case measure => simp [intOf]; omega
          · obtain rfl : i = mc := by omega
            have i4 : ¬ (i : Int) < i := by omega
            go_wp2_with fail
            go_ret
            refine ⟨rfl, ?_⟩
            obtain ⟨q, rfl⟩ := HQ.out
            exact ⟨B6.os, B6.tape, B6.output, B6.size, B6.block⟩
end

end Go.Proofs.Ytlmdkbhcocfhdaa.SmWalk

/-
  Walk of a statement of layer 12: StreamsOrder.
-/
namespace Go.Proofs.Ytlmdkbhcocfhdaa.SmWalk
open Go.RowKit Go.WideShapes Go.ChangeShapes Go.Proofs.Ytlmdkbhcocfhdaa.MemRow Go.Proofs.Ytlmdkbhcocfhdaa.Ev Go.Proofs.Ytlmdkbhcocfhdaa.Open Go.Proofs.Ytlmdkbhcocfhdaa.NameMath Go.Proofs.Ytlmdkbhcocfhdaa.NameWalk Go.Proofs.Ytlmdkbhcocfhdaa.EvWalk Go.Proofs.Ytlmdkbhcocfhdaa.NumMem Go.Proofs.Ytlmdkbhcocfhdaa.DkWalk

section
variable {St : Nat → Tb → Thing}
/-- The first names' shares. -/
def share (l ns : List ByteArray) (q : Nat) : Nat := ((ns.take q).map fun x => cnt l x).sum
theorem share_zero (l ns : List ByteArray) : share l ns 0 = 0 := rfl
theorem share_succ (l ns : List ByteArray) {q : Nat} (h : q < ns.length) : share l ns (q + 1) = share l ns q + cnt l (ns.getD q ByteArray.empty) := by
  unfold share
  rw [take_get ns q h, List.map_append, List.sum_append]
  simp
theorem share_le (l ns : List ByteArray) (q : Nat) (h : q ≤ ns.length) : share l ns q ≤ q * l.length := by
  induction q with
  | zero => rw [share_zero]; omega
  | succ q ih =>
    have h1 := ih (by omega)
    have h2 := cnt_le l (ns.getD q ByteArray.empty)
    rw [share_succ l ns (by omega), Nat.succ_mul]
    omega
theorem share_all (l m : List ByteArray) (h : ∀ x ∈ l, x ∈ m) {q : Nat} (hq : q = (normTags m).length) : share l (normTags m) q = l.length := by
  unfold share
  rw [List.take_of_length_le (by omega)]
  exact counts_all l (normTags m) (up_nodup (normTags_up m)) fun x hx => (normTags_mem m x).2 (h x hx)
theorem ver_take {ss : List ByteArray} (x : ByteArray) {k i : Nat} (hi : i ≤ k) : (posF (seqT (ss.take k)) x (i : Int)).length = cnt (ss.take i) x := by
  rw [seq_count, List.take_take, Nat.min_eq_left hi]
theorem norm_sz {ss : List ByteArray} (hs : ∀ s ∈ ss, s.size ≤ maxLen) : ∀ s ∈ normTags ss, s.size ≤ maxLen := fun s h => hs s ((normTags_mem ss s).1 h)
theorem take_sz {ss : List ByteArray} (hs : ∀ s ∈ ss, s.size ≤ maxLen) (k : Nat) : ∀ s ∈ ss.take k, s.size ≤ maxLen := fun s h => hs s (List.mem_of_mem_take h)
set_option maxHeartbeats 8000000 in
set_option maxRecDepth 100000 in
theorem order_walk (api : SApi St) (A : Option Addr) (n cap : Nat) (ss : List ByteArray) (w0 : World) (h0 : RdS w0 A n cap ss) (hsz : ∀ x ∈ ss, x.size ≤ maxLen) :
    Calls Try.prog 7 #[.slice A n cap] w0 fun e w' => e = .returned (.bool true) ∧ Below w0.heap.size w0 w' := by
  have hn := RdC.le h0
  unfold maxLen at hn
  have HN := Go.Lib.hid (RdS.len h0)
  have HZ := Go.Lib.hid hsz
  clear hsz
  go_enter Try.func7, Try.ntmps7
  go_wp2_with fail
  refine (shown12_any api w0).mono ?_
  rintro e w1 ⟨rfl, B1⟩
  go_wp2_with fail
  refine (api.new B1.size).mono ?_
  rintro e w2 ⟨g, rfl, p2, b2⟩
  have B2 := below_chain B1 b2
  clear B1 b2
  have hmin : ((min (n : Int) 60) : Int) = ((min n 60 : Nat) : Int) := by omega
  obtain ⟨k, hk⟩ : ∃ k, k = min n 60 := ⟨_, rfl⟩
  have hk60 : k ≤ 60 := by omega
  have hkn : k ≤ n := by omega
  rw [← hk] at hmin
  clear hk
  go_wp2_with fail
  go_loopw [6] (fun iv wr => ∃ (j : Nat), iv = .int .i64 (j : Int) ∧ j ≤ k ∧ Pair w0.heap.size wr (St g (seqT (ss.take j))) NoT ∧ Below w0.heap.size w0 wr) (fun iv _ => k - (intOf iv).toNat)
  case atStart => exact ⟨0, rfl, Nat.zero_le _, p2, B2⟩
  case round =>
    obtain ⟨j, rfl, hj, pj, Bj⟩ := hrel
    clear p2 B2
    by_cases hlt : j < k
    · have i1 : (j : Int) < k := by omega
      obtain ⟨bb, ob, rfl, _, kk⟩ := RdS.at_ h0 (by omega)
      have y1 := bcell Bj (kk j (by omega))
      have hsx := getD_sz HZ.out j
      have hnx := seq_next (l := ss) (j := j) (by rw [HN.out]; omega)
      have HX := Go.Lib.hid hnx
      clear kk hnx
      generalize ss.getD j ByteArray.empty = x at *
      have i2 : IntKind.i64.wrap ((j : Int) + 1) = (j : Int) + 1 := IntWalk.i64_in _ (by omega)
      go_wp2_with fail
      refine (api.add (s := x) (p := (j : Int) + 1) pj noT_keeps Bj.size (take_ok HZ.out (by omega)) (take_seq_len ss (by omega)) hsx (by omega)).mono ?_
      rintro e w3 ⟨rfl, p3, b3⟩
      rw [HX.out] at p3
      have B3 := Bj.trans b3
      clear pj Bj b3
      go_wp2_with fail
      go_roundw
      case rel => exact ⟨j + 1, by go_num, by omega, p3, B3⟩
      case measure => simp [intOf]; omega
    · obtain rfl : j = k := by omega
      have i1 : ¬ (j : Int) < j := by omega
      have ok := take_ok HZ.out (show j ≤ 60 by omega)
      have hlj : (ss.take j).length = j := by rw [List.length_take, HN.out]; omega
      have HLJ := Go.Lib.hid hlj
      have hver := fun (x : ByteArray) (i : Nat) (hi : i ≤ j) => ver_take (ss := ss) x hi
      have HV := Go.Lib.hid hver
      clear hlj hver
      go_wp2_with fail
      refine (api.names pj noT_keeps ok).mono ?_
      rintro e w3 ⟨C, m, c, rfl, r3, p3, b3⟩
      rw [seq_names] at r3
      have B3 := below_chain Bj b3
      have hml := RdS.len r3
      have hm60 : m ≤ j := by have := normTags_len (ss.take j); rw [HLJ.out] at this; omega
      have hsn := norm_sz (take_sz HZ.out j)
      have hall := fun (i : Nat) (hi : i ≤ j) => share_all (ss.take i) (ss.take j) (fun x hx => List.mem_of_mem_take (i := i) (by rw [List.take_take, Nat.min_eq_left hi]; exact hx)) (q := m) hml.symm
      have HA := Go.Lib.hid hall
      have HM := Go.Lib.hid hml
      have HSN := Go.Lib.hid hsn
      have HNT := Go.Lib.hid (seq_names (ss.take j))
      clear pj Bj b3 hall hml hsn
      generalize normTags (ss.take j) = ns at *
      generalize seqT (ss.take j) = T at *
      go_wp2_with fail
      go_loopw [8, 9, 10, 11] (fun iv _ _ _ wr => ∃ (p : Nat), iv = .int .i64 ((p : Int) + 1) ∧ p ≤ j ∧ Hid (RdS wr C m c ns) ∧ Pair w0.heap.size wr (St g T) NoT ∧ Below w0.heap.size w0 wr) (fun iv _ _ _ _ => j + 1 - (intOf iv).toNat)
      case atStart => exact ⟨0, rfl, Nat.zero_le _, Go.Lib.hid r3, p3, B3⟩
      case round =>
        obtain ⟨p, rfl, hp, HR, pj, Bj⟩ := hrel
        clear r3 p3 B3
        by_cases hlt2 : p < j
        · have i3 : (p : Int) + 1 ≤ j := by omega
          have n1 : IntKind.i64.wrap ((p : Int) + 1 - 1) = (p : Int) := by rw [IntWalk.i64_in _ (by omega)]; omega
          have n0 : IntKind.i64.wrap (p : Int) = (p : Int) := IntWalk.i64_in _ (by omega)
          obtain ⟨bl, ol, rfl, _, kl⟩ := RdS.at_ h0 (by omega)
          have z0 := kl p (by omega)
          have hsucc := fun x => cnt_take_succ (l := ss) (j := p) (by rw [HN.out]; omega) x
          have HC := Go.Lib.hid hsucc
          clear kl hsucc
          generalize ss.getD p ByteArray.empty = y at *
          go_wp2_with fail
          obtain ⟨wo, rfl⟩ : ∃ wo : World, wo = wr := ⟨_, rfl⟩
          go_loopw [9, 10, 11] (fun sv qv _ wr => ∃ (q : Nat), sv = .int .i64 ((share (ss.take (p + 1)) ns q : Nat) : Int) ∧ qv = .int .i64 (q : Int) ∧ q ≤ m ∧ Hid (RdS wr C m c ns) ∧ Pair w0.heap.size wr (St g T) NoT ∧ Below w0.heap.size w0 wr) (fun _ qv _ _ => m - (intOf qv).toNat)
          case atStart => exact ⟨0, rfl, rfl, Nat.zero_le _, HR, pj, Bj⟩
          case round =>
            obtain ⟨q, rfl, rfl, hq, HR, pj, Bj⟩ := hrel
            have hsh := share_le (ss.take (p + 1)) ns q (by rw [HM.out]; exact hq)
            have hsh2 : share (ss.take (p + 1)) ns q ≤ 3600 := by
              refine Nat.le_trans hsh (Nat.le_trans (Nat.mul_le_mul (show q ≤ 60 by omega) (show (ss.take (p + 1)).length ≤ 60 by rw [List.length_take]; omega)) (by decide))
            clear hsh
            by_cases hlt3 : q < m
            · have i4 : (q : Int) < m := by omega
              have hstep := share_succ (ss.take (p + 1)) ns (q := q) (by rw [HM.out]; exact hlt3)
              have hxs := getD_sz HSN.out q
              obtain ⟨bn, on, rfl, _, kn⟩ := RdS.at_ HR.out (by omega)
              have y1 := kn q hlt3
              have HST := Go.Lib.hid hstep
              have HSH := Go.Lib.hid hsh2
              clear kn hstep hsh2
              generalize ns.getD q ByteArray.empty = x at *
              have v1 : (posF T x ((p : Int) + 1)).length = cnt (ss.take (p + 1)) x := HV.out x (p + 1) (by omega)
              have v0 := HV.out x p (by omega)
              have e1 := HC.out x
              have hc60 : cnt (ss.take p) x ≤ 60 := Nat.le_trans (cnt_le _ _) (by rw [List.length_take]; omega)
              generalize cnt (ss.take p) x = c0 at *
              generalize cnt (ss.take (p + 1)) x = c1 at *
              generalize share (ss.take (p + 1)) ns q = S at *
              have V1 := Go.Lib.hid v1
              have V0 := Go.Lib.hid v0
              clear v1 v0
              have bd : Below wr.heap.size wr wr.drew := ⟨rfl, rfl, rfl, Nat.le_refl _, fun _ _ => rfl⟩
              have pd := pj.below (api.keeps _ _) noT_keeps bd
              have y1d : wr.drew.cell? ⟨bn, on + q, none⟩ = some (.string x) := y1
              have Bd := below_chain Bj bd
              have HRd : RdS wr.drew (some ⟨bn, on, none⟩) m c ns := RdC.drew HR.out
              have HSH2 := HSH.out
              by_cases hxy : y = x
              · rw [if_pos hxy] at e1
                have n2 : IntKind.i64.wrap ((c1 : Int) - (c0 : Int)) = 1 := by rw [IntWalk.i64_in _ (by omega)]; omega
                have n3 : IntKind.i64.wrap ((S : Int) + (c1 : Int)) = (S : Int) + (c1 : Int) := IntWalk.i64_in _ (by omega)
                subst hxy
                clear e1 pj
                go_upto_region 18 with (fail)
                go_region_held (fun w' => w'.cell? ⟨bn, on + q, none⟩ = some (.string y))
                  (first | exact y1d | exact y14 | exact y15)
                  (first
                    | (go_at_call 20; refine (api.ver (s := y) (u := (p : Int)) p4 noT_keeps ok hxs (by omega)).mono ?_; rintro e w5 ⟨rfl, p5, b5⟩; rw [V0.out]; have y15 := bcell b5 y14; have B5 := below_chain B4 b5; have R5 : RdS w5 (some ⟨bn, on, none⟩) m c ns := RdC.below R4 b5)
                    | (go_at_call 20; refine (api.ver (s := y) (u := (p : Int) + 1) pd noT_keeps ok hxs (by omega)).mono ?_; rintro e w4 ⟨rfl, p4, b4⟩; rw [V1.out]; have y14 := bcell b4 y1d; have B4 := below_chain Bd b4; have R4 : RdS w4 (some ⟨bn, on, none⟩) m c ns := RdC.below HRd b4))
                have z5 := bcell B5 z0
                clear y1d y14 y1 Bd bd pd B4 R4 p4 b4 b5 HRd
                go_upto_region 19 with (fail)
                go_quiet (fail)
                have bq : Below w5.heap.size w5 (w5.drewN nq) := ⟨rfl, rfl, rfl, Nat.le_refl _, fun _ _ => rfl⟩
                have p6 := p5.below (api.keeps _ _) noT_keeps bq
                have y6 := bcell bq y15
                have B6 := below_chain B5 bq
                have R6 : RdS (w5.drewN nq) (some ⟨bn, on, none⟩) m c ns := RdC.below R5 bq
                clear p5 y15 B5 R5 z5 bq n2
                generalize w5.drewN nq = w6 at *
                go_wp2_with fail
                refine (api.ver (s := y) (u := (p : Int) + 1) p6 noT_keeps ok hxs (by omega)).mono ?_
                rintro e w7 ⟨rfl, p7, b7⟩
                rw [V1.out]
                have B7 := below_chain B6 b7
                have R7 : RdS w7 (some ⟨bn, on, none⟩) m c ns := RdC.below R6 b7
                clear p6 B6 R6 b7 y6
                go_wp2_with fail
                go_roundw
                case rel => exact ⟨q + 1, by rw [HST.out]; rfl, by go_num, by omega, Go.Lib.hid R7, p7, B7⟩
                case measure => simp [intOf]; omega
              · rw [if_neg hxy] at e1
                have n2 : IntKind.i64.wrap ((c1 : Int) - (c0 : Int)) = 0 := by rw [IntWalk.i64_in _ (by omega)]; omega
                have n3 : IntKind.i64.wrap ((S : Int) + (c1 : Int)) = (S : Int) + (c1 : Int) := IntWalk.i64_in _ (by omega)
                have hne := str_ne (fun e : x = y => hxy e.symm)
                clear e1 pj
                go_upto_region 18 with (fail)
                go_region_held (fun w' => w'.cell? ⟨bn, on + q, none⟩ = some (.string x))
                  (first | exact y1d | exact y14 | exact y15)
                  (first
                    | (go_at_call 20; refine (api.ver (s := x) (u := (p : Int)) p4 noT_keeps ok hxs (by omega)).mono ?_; rintro e w5 ⟨rfl, p5, b5⟩; rw [V0.out]; have y15 := bcell b5 y14; have B5 := below_chain B4 b5; have R5 : RdS w5 (some ⟨bn, on, none⟩) m c ns := RdC.below R4 b5)
                    | (go_at_call 20; refine (api.ver (s := x) (u := (p : Int) + 1) pd noT_keeps ok hxs (by omega)).mono ?_; rintro e w4 ⟨rfl, p4, b4⟩; rw [V1.out]; have y14 := bcell b4 y1d; have B4 := below_chain Bd b4; have R4 : RdS w4 (some ⟨bn, on, none⟩) m c ns := RdC.below HRd b4))
                have z5 := bcell B5 z0
                clear y1d y14 y1 Bd bd pd B4 R4 p4 b4 b5 HRd
                go_upto_region 19 with (fail)
                go_quiet (fail)
                have bq : Below w5.heap.size w5 (w5.drewN nq) := ⟨rfl, rfl, rfl, Nat.le_refl _, fun _ _ => rfl⟩
                have p6 := p5.below (api.keeps _ _) noT_keeps bq
                have y6 := bcell bq y15
                have B6 := below_chain B5 bq
                have R6 : RdS (w5.drewN nq) (some ⟨bn, on, none⟩) m c ns := RdC.below R5 bq
                clear p5 y15 B5 R5 z5 bq n2
                generalize w5.drewN nq = w6 at *
                go_wp2_with fail
                refine (api.ver (s := x) (u := (p : Int) + 1) p6 noT_keeps ok hxs (by omega)).mono ?_
                rintro e w7 ⟨rfl, p7, b7⟩
                rw [V1.out]
                have B7 := below_chain B6 b7
                have R7 : RdS w7 (some ⟨bn, on, none⟩) m c ns := RdC.below R6 b7
                clear p6 B6 R6 b7 y6
                go_wp2_with fail
                go_roundw
                case rel => exact ⟨q + 1, by rw [HST.out]; rfl, by go_num, by omega, Go.Lib.hid R7, p7, B7⟩
                case measure => simp [intOf]; omega
            · obtain rfl : q = m := by omega
              have i4 : ¬ (q : Int) < q := by omega
              have ha := HA.out (p + 1) (by omega)
              have hlp : (ss.take (p + 1)).length = p + 1 := by rw [List.length_take, HN.out]; omega
              have i5 : (((share (ss.take (p + 1)) ns q : Nat) : Int) != (p : Int) + 1) = false := by rw [ha, hlp, bne_eq_false_iff_eq]; rfl
              clear ha hlp hsh2
              go_wp2_with fail
              go_roundw
              case rel => exact ⟨p + 1, by go_num, by omega, HR, pj, Bj⟩
              case measure => simp [intOf]; omega
        · obtain rfl : p = j := by omega
          have i3 : ¬ (p : Int) + 1 ≤ p := by omega
          have i5 : (m : Int) ≤ (p : Int) := by omega
          go_wp2_with fail
          refine (api.names pj noT_keeps ok).mono ?_
          rintro e w4 ⟨C4, m4, c4, rfl, r4, _, b4⟩
          rw [HNT.out] at r4
          obtain rfl : m4 = m := (RdS.len r4).symm.trans HM.out
          have B4 := below_chain Bj b4
          go_wp2_with fail
          go_ret
          exact ⟨by simp, B4⟩
end

end Go.Proofs.Ytlmdkbhcocfhdaa.SmWalk

/-
  Layer 12: which positions have been seen (StreamsWhole's mathematics); a row of Booleans.
-/
namespace Go.Proofs.Ytlmdkbhcocfhdaa.SmWalk
open Go.RowKit Go.Proofs.Ytlmdkbhcocfhdaa.MemRow Go.Proofs.Ytlmdkbhcocfhdaa.Ev Go.Proofs.Ytlmdkbhcocfhdaa.NameMath Go.Proofs.Ytlmdkbhcocfhdaa.NameWalk Go.Proofs.Ytlmdkbhcocfhdaa.EvWalk Go.Proofs.Ytlmdkbhcocfhdaa.NumMem Go.Proofs.Ytlmdkbhcocfhdaa.DkWalk

theorem mem_pos {ss : List ByteArray} {k u : Nat} (x : ByteArray) (hk : k ≤ ss.length) (h1 : 1 ≤ u) (h2 : u ≤ k) : (u : Int) ∈ posF (seqT (ss.take k)) x k ↔ ss.getD (u - 1) ByteArray.empty = x := by
  have hi : u - 1 < ss.length := by omega
  have e : (ss.take k)[((u : Int) - 1).toNat]? = some (ss.getD (u - 1) ByteArray.empty) := by
    rw [show ((u : Int) - 1).toNat = u - 1 by omega, List.getElem?_take, if_pos (by omega)]
    simp [List.getD, List.getElem?_eq_getElem hi]
  rw [posF_mem, seq_mem, e]
  constructor
  · rintro ⟨⟨_, _, h⟩, _⟩
    injection h
  · intro h
    refine ⟨⟨by omega, by rw [List.length_take]; omega, by rw [h]⟩, by omega⟩
theorem pos_elem {ss : List ByteArray} {k i : Nat} (x : ByteArray) (hk : k ≤ ss.length) (hi : i < (posF (seqT (ss.take k)) x k).length) : ∃ u : Nat, (posF (seqT (ss.take k)) x k).getD i 0 = (u : Int) ∧ 1 ≤ u ∧ u ≤ k ∧ ss.getD (u - 1) ByteArray.empty = x := by
  have hm := getD_in hi
  obtain ⟨h1, h2⟩ := posF_mem.1 hm
  obtain ⟨h3, _, _⟩ := seq_mem.1 h1
  generalize (posF (seqT (ss.take k)) x k).getD i 0 = q at *
  obtain ⟨u, rfl⟩ : ∃ u : Nat, q = (u : Int) := ⟨q.toNat, by omega⟩
  exact ⟨u, rfl, by omega, by omega, (mem_pos x hk (by omega) (by omega)).1 hm⟩
theorem int_take {P : List Int} {i : Nat} (h : i < P.length) : P.take (i + 1) = P.take i ++ [P.getD i 0] := by
  rw [List.take_add_one]
  simp [List.getD, List.getElem?_eq_getElem h]
theorem rise_not {P : List Int} (h : P.Pairwise (· < ·)) {i : Nat} (hi : i < P.length) : P.getD i 0 ∉ P.take i := by
  intro hm
  have h1 := h.sublist (List.take_sublist (i + 1) P)
  rw [int_take hi, List.pairwise_append] at h1
  have := h1.2.2 _ hm _ (List.mem_singleton.2 rfl)
  omega
theorem rise_prev {P : List Int} (h : P.Pairwise (· < ·)) {i : Nat} (hi : i + 1 < P.length) : P.getD i 0 < P.getD (i + 1) 0 := by
  have h1 := List.pairwise_iff_getElem.1 h i (i + 1) (by omega) hi (by omega)
  simpa [List.getD, List.getElem?_eq_getElem hi, List.getElem?_eq_getElem (show i < P.length by omega)] using h1

structure Seen (ss ns : List ByteArray) (q : Nat) (P : List Int) (i k : Nat) (f : List Bool) : Prop where
  len : f.length = k + 1
  at_ : ∀ u, 1 ≤ u → u ≤ k → (f.getD u false = true ↔ (ss.getD (u - 1) ByteArray.empty ∈ ns.take q ∨ (u : Int) ∈ P.take i))
theorem Seen.new (ss ns : List ByteArray) (k : Nat) : Seen ss ns 0 [] 0 k (List.replicate (k + 1) false) :=
  ⟨by simp, fun u _ h => by simp [List.getD, show u < k + 1 by omega]⟩
section
variable {ss ns : List ByteArray} {q i k : Nat} {P : List Int} {f : List Bool}
theorem Seen.enter (h : Seen ss ns q [] 0 k f) (P : List Int) : Seen ss ns q P 0 k f := ⟨h.len, fun u h1 h2 => by simpa using h.at_ u h1 h2⟩
theorem Seen.fresh (h : Seen ss ns q P i k f) (hup : Up ns) (hq : q < ns.length) (hP : P.Pairwise (· < ·)) (hi : i < P.length) {u : Nat} (h1 : 1 ≤ u) (h2 : u ≤ k) (hu : P.getD i 0 = (u : Int)) (hx : ss.getD (u - 1) ByteArray.empty = ns.getD q ByteArray.empty) : f.getD u false = false := by
  cases hf : f.getD u false with
  | false => rfl
  | true =>
    rcases (h.at_ u h1 h2).1 hf with h3 | h3
    · rw [hx] at h3
      exact absurd (List.mem_append_left _ h3) (up_not hup hq)
    · rw [← hu] at h3
      exact absurd h3 (rise_not hP hi)
theorem Seen.step (h : Seen ss ns q P i k f) (hi : i < P.length) {u : Nat} (h2 : u ≤ k) (hu : P.getD i 0 = (u : Int)) : Seen ss ns q P (i + 1) k (f.set u true) := by
  refine ⟨by rw [List.length_set]; exact h.len, fun v v1 v2 => ?_⟩
  rw [int_take hi, hu, List.mem_append, List.mem_singleton]
  have hl : u < f.length := by rw [h.len]; omega
  by_cases e : v = u
  · subst e
    simp [List.getD, hl]
  · have h3 : (f.set u true).getD v false = f.getD v false := by simp [List.getD, show ¬ u = v from fun e2 => e e2.symm]
    rw [h3, h.at_ v v1 v2]
    constructor
    · rintro (a | a)
      · exact .inl a
      · exact .inr (.inl a)
    · rintro (a | a | a)
      · exact .inl a
      · exact .inr a
      · exact absurd (by omega) e
theorem Seen.done {x : ByteArray} (h : Seen ss ns q (posF (seqT (ss.take k)) x k) i k f) (hk : k ≤ ss.length) (hq : q < ns.length) (hx : ns.getD q ByteArray.empty = x) (hi : i = (posF (seqT (ss.take k)) x k).length) : Seen ss ns (q + 1) [] 0 k f := by
  refine ⟨h.len, fun u h1 h2 => ?_⟩
  rw [h.at_ u h1 h2, List.take_of_length_le (show (posF (seqT (ss.take k)) x k).length ≤ i by omega), mem_pos x hk h1 h2, take_get ns q hq, hx, List.mem_append, List.mem_singleton]
  simp
end

/-! ### A row of Booleans -/
def bools (l : List Bool) : List Value := l.map .bool
theorem run_make_bools {P : Program} (T e : TypeId) (hT : P.underlying T = some (.slice e)) (hi : (P.info? e).map (fun i => (i.zero, i.size, i.bytes)) = some (some (.bool false), 1, 1))
    (k : Nat) (hk : k ≤ 281474976710656) (x : Int) (hx : x = (k : Int)) (w : World) :
    (Instr.makeSlice T (.int .i64 x) (.int .i64 x)).run P w = .ok (.slice (some ⟨w.heap.size, 0, none⟩) k k) (w.alloc (.cells (bools (List.replicate k false)).toArray e)) := by
  subst hx
  obtain ⟨i, h1, h2, h3, h4⟩ : ∃ i, P.info? e = some i ∧ i.zero = some (.bool false) ∧ i.size = 1 ∧ i.bytes = 1 := by
    cases hq : P.info? e with
    | none => simp [hq] at hi
    | some i => simp [hq] at hi; exact ⟨i, rfl, hi.1, hi.2.1, hi.2.2⟩
  rw [run_make w T e i (.bool false) hT h1 h2 .i64 .i64 k k (by omega) (by omega) (by rw [h4]; omega) (by omega)]
  have hm : madeCells (Value.bool false).cells ((k : Int).toNat * i.size) = (bools (List.replicate k false)).toArray := by
    apply Array.toList_inj.1
    rw [h3, Nat.mul_one, Int.toNat_natCast]
    show (madeCells #[Value.bool false] k).toList = _
    rw [toList_madeCells_one]
    simp [bools]
  rw [hm, Int.toNat_natCast]
section
variable {w : World} {g : Nat} {t : TypeId} {f : List Bool}
theorem bools_cell (h : w.heap[g]? = some (.cells (bools f).toArray t (0, 0))) {u : Nat} (hu : u < f.length) : w.cell? ⟨g, u, none⟩ = some (.bool (f.getD u false)) := by
  rw [cell_of_row w g u _ t (0, 0) h]
  simp [bools, List.getD, List.getElem?_eq_getElem hu]
theorem bools_kind (h : w.heap[g]? = some (.cells (bools f).toArray t (0, 0))) {u : Nat} {v : Value} (hv : w.cell? ⟨g, u, none⟩ = some v) : ∃ b, v = .bool b := by
  rw [cell_of_row w g u _ t (0, 0) h] at hv
  simp only [bools, List.getElem?_toArray, List.getElem?_map] at hv
  cases hf : f[u]? with
  | none => rw [hf] at hv; cases hv
  | some b => rw [hf] at hv; injection hv with hv; exact ⟨b, hv.symm⟩
theorem bools_set (h : w.heap[g]? = some (.cells (bools f).toArray t (0, 0))) (u : Nat) (b : Bool) : (w.setCell ⟨g, u, none⟩ (.bool b)).heap[g]? = some (.cells (bools (f.set u b)).toArray t (0, 0)) := by
  simp only [World.setCell, Array.getElem?_modify, h]
  simp [bools, List.map_set]
theorem rdc_seen {k : Nat} {A : Option Addr} {n cap : Nat} {cs : List Value} (h : RdC k w A n cap cs) (hk : 0 < k) (hcs : ∀ v ∈ cs, ∀ b, v ≠ .bool b) (hg : w.heap[g]? = some (.cells (bools f).toArray t (0, 0))) (u : Nat) (x : Value) : RdC k (w.setCell ⟨g, u, none⟩ x) A n cap cs := by
  refine h.keepN fun hn b o hA i v hc => ?_
  by_cases hb : b = g
  · subst hb
    exfalso
    obtain ⟨b', o', hA', _, hcell⟩ := h.at_ hk hn
    rw [hA] at hA'
    injection hA' with e
    injection e with e1 e2
    subst e1 e2
    have hl : 0 < cs.length := by rw [h.len]; exact Nat.mul_pos hn hk
    have h1 := hcell 0 (cs[0]) (List.getElem?_eq_getElem hl)
    obtain ⟨bb, hbb⟩ := bools_kind hg h1
    exact hcs _ (List.getElem_mem hl) bb hbb
  · rw [World.cell?_setCell_far w ⟨g, u, none⟩ ⟨b, o + i, none⟩ x (fun e => hb e.symm)]
    exact hc
end
theorem strs_not (ss : List ByteArray) : ∀ v ∈ strs ss, ∀ b, v ≠ .bool b := by
  intro v hv b e
  obtain ⟨x, _, rfl⟩ := List.mem_map.1 hv
  cases e
theorem nums_not (l : List Int) : ∀ v ∈ nums l, ∀ b, v ≠ .bool b := by
  intro v hv b e
  obtain ⟨x, _, rfl⟩ := List.mem_map.1 hv
  cases e

end Go.Proofs.Ytlmdkbhcocfhdaa.SmWalk

/-
  Walk of a statement of layer 12: StreamsWhole.
-/
namespace Go.Proofs.Ytlmdkbhcocfhdaa.SmWalk
open Go.RowKit Go.WideShapes Go.ChangeShapes Go.Proofs.Ytlmdkbhcocfhdaa.MemRow Go.Proofs.Ytlmdkbhcocfhdaa.Ev Go.Proofs.Ytlmdkbhcocfhdaa.Open Go.Proofs.Ytlmdkbhcocfhdaa.NameMath Go.Proofs.Ytlmdkbhcocfhdaa.NameWalk Go.Proofs.Ytlmdkbhcocfhdaa.EvWalk Go.Proofs.Ytlmdkbhcocfhdaa.NumMem Go.Proofs.Ytlmdkbhcocfhdaa.DkWalk

section
variable {St : Nat → Tb → Thing}
theorem bool_info : (Try.prog.info? 4).map (fun i => (i.zero, i.size, i.bytes)) = some (some (.bool false), 1, 1) := by kernel_rfl
/-- The table, and what has been seen. -/
abbrev SeenT (gs : Nat) (f : List Bool) : Thing := With NoT (BxT gs (bools f).toArray 4)
theorem seenT_keeps (gs : Nat) (f : List Bool) : Keeps (SeenT gs f) := with_keeps noT_keeps (bxT_keeps _ _ _)
set_option maxHeartbeats 8000000 in
set_option maxRecDepth 100000 in
theorem whole_walk (api : SApi St) (A : Option Addr) (n cap : Nat) (ss : List ByteArray) (w0 : World) (h0 : RdS w0 A n cap ss) (hsz : ∀ x ∈ ss, x.size ≤ maxLen) :
    Calls Try.prog 4 #[.slice A n cap] w0 fun e w' => e = .returned (.bool true) ∧ Below w0.heap.size w0 w' := by
  have hn := RdC.le h0
  unfold maxLen at hn
  have HN := Go.Lib.hid (RdS.len h0)
  have HZ := Go.Lib.hid hsz
  clear hsz
  go_enter Try.func4, Try.ntmps4
  go_wp2_with fail
  refine (shown12_any api w0).mono ?_
  rintro e w1 ⟨rfl, B1⟩
  go_wp2_with fail
  refine (api.new B1.size).mono ?_
  rintro e w2 ⟨g, rfl, p2, b2⟩
  have B2 := below_chain B1 b2
  clear B1 b2
  have hmin : ((min (n : Int) 60) : Int) = ((min n 60 : Nat) : Int) := by omega
  obtain ⟨k, hk⟩ : ∃ k, k = min n 60 := ⟨_, rfl⟩
  have hk60 : k ≤ 60 := by omega
  have hkn : k ≤ n := by omega
  rw [← hk] at hmin
  clear hk
  go_wp2_with fail
  go_loopw [6, 7, 8, 9] (fun iv _ _ _ wr => ∃ (j : Nat), iv = .int .i64 (j : Int) ∧ j ≤ k ∧ Pair w0.heap.size wr (St g (seqT (ss.take j))) NoT ∧ Below w0.heap.size w0 wr) (fun iv _ _ _ _ => k - (intOf iv).toNat)
  case atStart => exact ⟨0, rfl, Nat.zero_le _, p2, B2⟩
  case round =>
    obtain ⟨j, rfl, hj, pj, Bj⟩ := hrel
    clear p2 B2
    by_cases hlt : j < k
    · have i1 : (j : Int) < k := by omega
      obtain ⟨bb, ob, rfl, _, kk⟩ := RdS.at_ h0 (by omega)
      have y0 := kk j (by omega)
      have y1 := bcell Bj y0
      have hsx := getD_sz HZ.out j
      have hnx := seq_next (l := ss) (j := j) (by rw [HN.out]; omega)
      have hlj : (ss.take j).length = j := by rw [List.length_take, HN.out]; omega
      have v1 : (posF (seqT (ss.take j)) (ss.getD j ByteArray.empty) (k : Int)).length = cnt (ss.take j) (ss.getD j ByteArray.empty) := seq_all _ _ (by rw [hlj]; omega)
      have v2 : (posF (seqT (ss.take (j + 1))) (ss.getD j ByteArray.empty) (j : Int)).length = cnt (ss.take j) (ss.getD j ByteArray.empty) := ver_take _ (by omega)
      have v3 : (posF (seqT (ss.take (j + 1))) (ss.getD j ByteArray.empty) ((j : Int) + 1)).length = cnt (ss.take j) (ss.getD j ByteArray.empty) + 1 := by
        have := ver_take (ss := ss) (ss.getD j ByteArray.empty) (k := j + 1) (i := j + 1) (Nat.le_refl _)
        rw [cnt_take_succ (by rw [HN.out]; omega), if_pos rfl] at this
        exact this
      have hc := cnt_le (ss.take j) (ss.getD j ByteArray.empty)
      have ok1 := take_ok HZ.out (show j + 1 ≤ 60 by omega)
      have ok0 := take_ok HZ.out (show j ≤ 60 by omega)
      have hl0 := take_seq_len ss (show j ≤ 60 by omega)
      rw [hlj] at hc
      have HX := Go.Lib.hid hnx
      have V1 := Go.Lib.hid v1
      have V2 := Go.Lib.hid v2
      have V3 := Go.Lib.hid v3
      clear kk hnx hlj v1 v2 v3
      generalize ss.getD j ByteArray.empty = x at *
      generalize cnt (ss.take j) x = c0 at *
      generalize hT1 : seqT (ss.take (j + 1)) = T1 at *
      have HT1 := Go.Lib.hid hT1
      clear hT1
      generalize seqT (ss.take j) = T0 at *
      have i2 : IntKind.i64.wrap ((j : Int) + 1) = (j : Int) + 1 := IntWalk.i64_in _ (by omega)
      have i3 : IntKind.i64.wrap ((c0 : Int) + 1) = (c0 : Int) + 1 := IntWalk.i64_in _ (by omega)
      have i4 : (((c0 : Int) + 1) != (c0 : Int) + 1) = false := by simp
      have i5 : ((c0 : Int) != (c0 : Int)) = false := by simp
      go_wp2_with fail
      refine (api.ver (s := x) (u := (k : Int)) pj noT_keeps ok0 hsx (by omega)).mono ?_
      rintro e w3 ⟨rfl, p3, b3⟩
      rw [V1.out]
      have B3 := below_chain Bj b3
      have y3 := bcell B3 y0
      clear pj Bj b3 y1
      go_wp2_with fail
      refine (api.add (s := x) (p := (j : Int) + 1) p3 noT_keeps B3.size ok0 hl0 hsx (by omega)).mono ?_
      rintro e w4 ⟨rfl, p4, b4⟩
      rw [HX.out] at p4 ⊢
      have B4 := B3.trans b4
      have y4 := bcell B4 y0
      clear p3 B3 b4 y3
      go_wp2_with fail
      refine (api.ver (s := x) (u := (j : Int)) p4 noT_keeps ok1 hsx (by omega)).mono ?_
      rintro e w5 ⟨rfl, p5, b5⟩
      rw [V2.out]
      have B5 := below_chain B4 b5
      have y5 := bcell B5 y0
      clear p4 B4 b5 y4
      go_wp2_with fail
      refine (api.ver (s := x) (u := (j : Int) + 1) p5 noT_keeps ok1 hsx (by omega)).mono ?_
      rintro e w6 ⟨rfl, p6, b6⟩
      rw [V3.out]
      have B6 := below_chain B5 b6
      clear p5 B5 b6 y5
      go_wp2_with fail
      go_roundw
      case rel => exact ⟨j + 1, by go_num, by omega, by rw [HT1.out]; exact p6, B6⟩
      case measure => simp [intOf]; omega
    · obtain rfl : j = k := by omega
      have i1 : ¬ (j : Int) < j := by omega
      have ok := take_ok HZ.out (show j ≤ 60 by omega)
      have hlj : (ss.take j).length = j := by rw [List.length_take, HN.out]; omega
      have hjs : j ≤ ss.length := by rw [HN.out]; exact hkn
      have hpe := fun (x : ByteArray) (i : Nat) (hi : i < (posF (seqT (ss.take j)) x j).length) => pos_elem x hjs hi
      have hdone := fun (ns : List ByteArray) (q i : Nat) (f : List Bool) (x : ByteArray) (h : Seen ss ns q (posF (seqT (ss.take j)) x j) i j f) (hq : q < ns.length) (hx : ns.getD q ByteArray.empty = x) (hi : i = (posF (seqT (ss.take j)) x j).length) => Seen.done h hjs hq hx hi
      have hall := fun (x : ByteArray) => seq_all (ss.take j) x (u := (j : Int)) (by rw [hlj]; exact Int.le_refl _)
      have HPE := Go.Lib.hid hpe
      have HDN := Go.Lib.hid hdone
      have HAL := Go.Lib.hid hall
      clear hjs hpe hdone hall
      go_wp2_with fail
      refine (api.names pj noT_keeps ok).mono ?_
      rintro e w3 ⟨C, m, c, rfl, r3, p3, b3⟩
      rw [seq_names] at r3
      have B3 := below_chain Bj b3
      have hml := RdS.len r3
      have hm60 : m ≤ j := by have := normTags_len (ss.take j); rw [hlj] at this; omega
      have hsn := norm_sz (take_sz HZ.out j)
      have hsum := share_all (ss.take j) (ss.take j) (fun x hx => hx) (q := m) hml.symm
      rw [hlj] at hsum
      have hup := normTags_up (ss.take j)
      have HS := Go.Lib.hid hsum
      have HM := Go.Lib.hid hml
      have HSN := Go.Lib.hid hsn
      have HUP := Go.Lib.hid hup
      have HRI := Go.Lib.hid (fun x => posF_rise ok.rise x (j : Int))
      have HPL := Go.Lib.hid (fun x => posF_len (seqT (ss.take j)) x (j : Int))
      have HTL := Go.Lib.hid (show (seqT (ss.take j)).length = j by rw [seq_len, hlj])
      have hshl := fun q (hq : q ≤ m) => share_le (ss.take j) (normTags (ss.take j)) q (by rw [hml]; exact hq)
      rw [hlj] at hshl
      have HSL := Go.Lib.hid hshl
      have hstep := fun q (hq : q < m) => share_succ (ss.take j) (normTags (ss.take j)) (q := q) (by rw [hml]; exact hq)
      have HST := Go.Lib.hid hstep
      clear pj Bj b3 hsum hml hsn hup hlj hshl hstep
      generalize normTags (ss.take j) = ns at *
      generalize ss.take j = L at *
      have i2 : IntKind.i64.wrap ((j : Int) + 1) = (j : Int) + 1 := IntWalk.i64_in _ (by omega)
      have hmk := fun W => run_make_bools (P := Try.prog) 42 4 Try.underlying42 bool_info (j + 1) (by omega) ((j : Int) + 1) (by omega) W
      obtain ⟨p4, b4⟩ : Pair w0.heap.size (w3.alloc (.cells (bools (List.replicate (j + 1) false)).toArray 4)) (St g (seqT L)) (SeenT w3.heap.size (List.replicate (j + 1) false)) ∧ Below w3.heap.size w3 (w3.alloc (.cells (bools (List.replicate (j + 1) false)).toArray 4)) := by
        have hb := (Below.refl w3.heap.size w3).alloc (Nat.le_refl _) (.cells (bools (List.replicate (j + 1) false)).toArray 4)
        have hsz : (w3.alloc (.cells (bools (List.replicate (j + 1) false)).toArray 4)).heap.size = w3.heap.size + 1 := by simp only [World.alloc, Array.size_push]
        exact ⟨pair_more p3 (api.keeps _ _) noT_keeps B3.size hb ⟨heap_alloc_new w3 _, ⟨Nat.le_refl _, by omega⟩, fun k hk => hk.2⟩, hb⟩
      have r4 : RdS (w3.alloc (.cells (bools (List.replicate (j + 1) false)).toArray 4)) C m c ns := RdC.below r3 b4
      have B4 := below_chain B3 b4
      have HMK := Go.Lib.hid hmk
      have hmk3 := hmk w3
      clear hmk p3 b4 r3 B3
      generalize w3.heap.size = gs at *
      have sn0 := Seen.new ss ns j
      generalize w3.alloc (.cells (bools (List.replicate (j + 1) false)).toArray 4) = w4 at *
      go_wp2_with fail
      go_loopw [12, 13, 14, 15] (fun mv qv _ _ wr => ∃ (q : Nat) (f : List Bool), mv = .int .i64 ((share L ns q : Nat) : Int) ∧ qv = .int .i64 (q : Int) ∧ q ≤ m ∧ Hid (Seen ss ns q [] 0 j f) ∧ Hid (RdS wr C m c ns) ∧ Pair w0.heap.size wr (St g (seqT L)) (SeenT gs f) ∧ Below w0.heap.size w0 wr) (fun _ qv _ _ _ => m - (intOf qv).toNat)
      case atStart => exact ⟨0, _, rfl, rfl, Nat.zero_le _, Go.Lib.hid sn0, Go.Lib.hid r4, p4, B4⟩
      case round =>
        obtain ⟨q, f, rfl, rfl, hq, HF, HR, pq, Bq⟩ := hrel
        clear r4 p4 B4 sn0 hmk3
        by_cases hlt2 : q < m
        · have i3 : (q : Int) < m := by omega
          have hxs := getD_sz HSN.out q
          obtain ⟨bn, on, rfl, _, kn⟩ := RdS.at_ HR.out (by omega)
          have y1 := kn q hlt2
          have hst := HST.out q hlt2
          have hsl := HSL.out q hq
          have hqn : q < ns.length := by rw [HM.out]; exact hlt2
          obtain ⟨x, hx⟩ : ∃ x, ns.getD q ByteArray.empty = x := ⟨_, rfl⟩
          rw [hx] at y1 hxs hst
          have hpe := HPE.out x
          have hdn := fun i f => HDN.out ns q i f x
          have hal := HAL.out x
          have hri := HRI.out x
          have hpl := HPL.out x
          rw [HTL.out] at hpl
          have hsl2 : share L ns q ≤ 3600 := Nat.le_trans hsl (Nat.le_trans (Nat.mul_le_mul (show q ≤ 60 by omega) (show j ≤ 60 by omega)) (by decide))
          have HX := Go.Lib.hid hx
          have HP := Go.Lib.hid hpe
          have HD := Go.Lib.hid hdn
          have HA := Go.Lib.hid hal
          have HI := Go.Lib.hid hri
          have HT := Go.Lib.hid hst
          have HQ := Go.Lib.hid hqn
          clear kn hst hsl hqn hx hpe hdn hal hri
          go_wp2_with fail
          refine (api.pos (s := x) (u := (j : Int)) pq (seenT_keeps _ _) ok hxs (by omega)).mono ?_
          rintro e w5 ⟨D, M, d, rfl, r5, p5, b5⟩
          have B5 := below_chain Bq b5
          have R5 : RdS w5 (some ⟨bn, on, none⟩) m c ns := RdC.below HR.out b5
          have hM := r5.len
          have hM60 : M ≤ 60 := by omega
          have HMM := Go.Lib.hid hM
          clear pq Bq b5 HR y1 hM hpl
          generalize posF (seqT L) x (j : Int) = P at *
          generalize share L ns q = S at *
          have F5 := Go.Lib.hid (HF.out.enter P)
          clear HF
          go_wp2_with fail
          go_loopw [12, 15] (fun mv iv wr => ∃ (i : Nat) (f : List Bool), mv = .int .i64 ((S : Int) + (i : Int)) ∧ iv = .int .i64 (i : Int) ∧ i ≤ M ∧ Hid (Seen ss ns q P i j f) ∧ Hid (RdS wr (some ⟨bn, on, none⟩) m c ns) ∧ Hid (RdI wr D M d P) ∧ Pair w0.heap.size wr (St g (seqT L)) (SeenT gs f) ∧ Below w0.heap.size w0 wr) (fun _ iv _ => M - (intOf iv).toNat)
          case atStart => exact ⟨0, f, by simp, rfl, Nat.zero_le _, F5, Go.Lib.hid R5, Go.Lib.hid r5, p5, B5⟩
          case round =>
            clear F5 R5 r5 p5 B5
            obtain ⟨i, f, rfl, rfl, hi, HF, HR, HB, pq, Bq⟩ := hrel
            by_cases hlt3 : i < M
            · have i4 : (i : Int) < M := by omega
              have hiP : i < P.length := by rw [HMM.out]; exact hlt3
              obtain ⟨u, hu, u1, u2, hxu⟩ := HP.out i hiP
              have hfr := HF.out.fresh HUP.out HQ.out HI.out hiP u1 u2 hu (hxu.trans HX.out.symm)
              have HF' := Go.Lib.hid (HF.out.step hiP u2 hu)
              have hh := pair_bx pq
              have hfl := HF.out.len
              have sc := bools_cell hh (u := u) (by omega)
              rw [hfr] at sc
              obtain ⟨bp, op, rfl, _, kp⟩ := RdI.at_ HB.out (by omega)
              have yp := kp i hlt3
              rw [hu] at yp
              obtain ⟨bl, ol, rfl, _, kl⟩ := RdS.at_ h0 (by omega)
              have z0 := kl (u - 1) (by omega)
              rw [hxu] at z0
              have z1 := bcell Bq z0
              have yn := RdS.get HR.out hlt2
              rw [HX.out] at yn
              have n1 : IntKind.i64.wrap ((u : Int) - 1) = ((u - 1 : Nat) : Int) := by rw [IntWalk.i64_in _ (by omega)]; omega
              have n3 : IntKind.i64.wrap ((S : Int) + (i : Int) + 1) = (S : Int) + (i : Int) + 1 := IntWalk.i64_in _ (by omega)
              have j1 : ¬ (u : Int) < 1 := by omega
              have j2 : ¬ (j : Int) < u := by omega
              have j3 : u < j + 1 := by omega
              have j4 : ((u - 1 : Nat) : Int) < n := by omega
              have hprev : 0 < i → P.getD (i - 1) 0 < (u : Int) := fun h => by
                have := rise_prev HI.out (i := i - 1) (by omega)
                rw [show i - 1 + 1 = i by omega, hu] at this
                exact this
              have HPV := Go.Lib.hid hprev
              have HU := Go.Lib.hid hu
              have kpi := fun (_ : 0 < i) => kp (i - 1) (by omega)
              have KPI := Go.Lib.hid kpi
              clear hprev hfr hfl hh hxu hu kp kl z0 kpi hiP
              generalize u - 1 = t at *
              go_upto_region 23 with (fail)
              go_cut [157] (fun v wx => v = .bool false ∧ ∃ kq, wx = wr.drewN kq)
              case first =>
                by_cases hi0 : 0 < i
                · have yq := KPI.out hi0
                  have hp := HPV.out hi0
                  have i5 : (0 : Int) < i := by omega
                  have n2 : IntKind.i64.wrap ((i : Int) - 1) = ((i - 1 : Nat) : Int) := by rw [IntWalk.i64_in _ (by omega)]; omega
                  have j6 : ((i - 1 : Nat) : Int) < M := by omega
                  generalize P.getD (i - 1) 0 = q0 at *
                  have j5 : ¬ (u : Int) ≤ q0 := by omega
                  generalize i - 1 = i0 at *
                  go_quiet (fail)
                  go_wp2_with fail
                  go_meet
                  exact ⟨rfl, _, rfl⟩
                · have i5 : ¬ (0 : Int) < i := by omega
                  go_quiet (fail)
                  go_wp2_with fail
                  go_meet
                  exact ⟨rfl, _, rfl⟩
              case rest =>
                obtain ⟨rfl, kq, rfl⟩ := hcut
                have bq : Below wr.heap.size wr (wr.drewN kq) := ⟨rfl, rfl, rfl, Nat.le_refl _, fun _ _ => rfl⟩
                have p6 := pq.below (api.keeps _ _) (seenT_keeps _ _) bq
                have B6 := below_chain Bq bq
                have R6 : RdS (wr.drewN kq) (some ⟨bn, on, none⟩) m c ns := RdC.below HR.out bq
                have I6 : RdI (wr.drewN kq) (some ⟨bp, op, none⟩) M d P := RdC.below HB.out bq
                have y6 := bcell bq yp
                clear yp z1 yn sc pq Bq HR HB KPI HPV
                generalize wr.drewN kq = w6 at *
                have hh := pair_bx p6
                have fz : w6.frozen? ⟨gs, u, none⟩ = false := by simp [World.frozen?, hh]
                have sc := bools_cell hh (u := u) (by have := HF.out.len; omega)
                obtain ⟨p7, b7⟩ := lg_put (v := .bool true) (i := u) (api.keeps _ _) noT_keeps p6 (bools_set hh u true)
                have R7 : RdS (w6.setCell ⟨gs, u, none⟩ (.bool true)) (some ⟨bn, on, none⟩) m c ns := rdc_seen R6 (by decide) (strs_not _) hh u _
                have I7 : RdI (w6.setCell ⟨gs, u, none⟩ (.bool true)) (some ⟨bp, op, none⟩) M d P := rdc_seen I6 (by decide) (nums_not _) hh u _
                have B7 := B6.trans b7
                have P7 := Go.Lib.hid p7
                clear hh p6 R6 I6 B6 b7 p7 HU HF
                go_wp2_with fail
                go_roundw
                case rel => exact ⟨i + 1, _, by go_num, by go_num, by omega, HF', Go.Lib.hid R7, Go.Lib.hid I7, P7.out, B7⟩
                case measure => simp [intOf]; omega
            · obtain rfl : i = M := by omega
              have i4 : ¬ (i : Int) < i := by omega
              have F8 := Go.Lib.hid (HD.out i f HF.out HQ.out HX.out HMM.out.symm)
              have e8 : share L ns (q + 1) = S + i := by rw [HT.out, ← HA.out, HMM.out]
              have E8 := Go.Lib.hid e8
              clear e8 HB
              go_wp2_with fail
              go_roundw
              case rel => exact ⟨q + 1, f, by rw [E8.out]; rfl, by go_num, by omega, F8, HR, pq, Bq⟩
              case measure => simp [intOf]; omega
        · obtain rfl : q = m := by omega
          have i3 : ¬ (q : Int) < q := by omega
          have e8 := HS.out
          rw [e8]
          clear e8
          go_wp2_with fail
          go_ret
          exact ⟨by simp, Bq⟩
end

end Go.Proofs.Ytlmdkbhcocfhdaa.SmWalk

/-
  Contracts of the document's answers of layer 12: Positions, Add, Names, Ints.
-/
namespace Go.Proofs.Ytlmdkbhcocfhdaa.SmWalk
open Go.RowKit Go.Proofs.Ytlmdkbhcocfhdaa.MemRow Go.Proofs.Ytlmdkbhcocfhdaa.Ev Go.Proofs.Ytlmdkbhcocfhdaa.NameMath Go.Proofs.Ytlmdkbhcocfhdaa.NameWalk Go.Proofs.Ytlmdkbhcocfhdaa.EvWalk Go.Proofs.Ytlmdkbhcocfhdaa.NumMem Go.Proofs.Ytlmdkbhcocfhdaa.DkWalk

theorem at_info : (Try.prog.info? 33).map (fun i => (i.zero, i.size, i.bytes)) = some (some (.agg #[.string ⟨#[]⟩, .int .i64 0]), 2, 24) := by kernel_rfl
theorem rdc_keep {k : Nat} {w w' : World} {A : Option Addr} {n cap : Nat} {cs : List Value} (h : RdC k w A n cap cs) (hk : ∀ a, A = some a → w'.heap[a.block]? = w.heap[a.block]?) : RdC k w' A n cap cs :=
  h.keep fun b o hA i v hc => by
    have e := hk _ hA
    exact (World.cell?_of_block (w := w) (a := ⟨b, o + i, none⟩) e).trans hc
/-- The document's table behind a pointer: its box, its row. -/
def RtT (g : Nat) (T : Tb) : Thing := fun w G => ∃ A n c, w.heap[g]? = some (.cells #[.slice A n c] 28 (0, 0)) ∧ RdF w A n c T ∧ G g ∧ (∀ a, A = some a → G a.block ∧ a.block ≠ g) ∧ ∀ k, G k → k < w.heap.size
theorem rtT_keeps (g : Nat) (T : Tb) : Keeps (RtT g T) :=
  ⟨fun ⟨A, n, c, h1, h2, h3, h4, h5⟩ hs hk => ⟨A, n, c, (hk g h3).trans h1, rdc_keep h2 fun a ha => hk _ (h4 a ha).1, h3, h4, fun k h => Nat.lt_of_lt_of_le (h5 k h) hs⟩, fun ⟨_, _, _, _, _, _, _, h⟩ => h⟩
theorem pos_step {T : Tb} {j : Nat} (s : ByteArray) (u : Int) (h : j < T.length) : posF (T.take (j + 1)) s u = posF (T.take j) s u ++ (if (T.getD j (ByteArray.empty, 0)).1 = s ∧ (T.getD j (ByteArray.empty, 0)).2 ≤ u then [(T.getD j (ByteArray.empty, 0)).2] else []) := by
  rw [fs_take T j h, posF_append, posF_cons, posF_nil, List.append_nil]

set_option maxHeartbeats 4000000 in
set_option maxRecDepth 100000 in
theorem refPos_any (g : Nat) (T : Tb) (G : Nat → Prop) (s : ByteArray) (u : Int) (w : World) (h : RtT g T w G) (hl : T.length ≤ 200) :
    Calls Try.prog 19 #[.pointer (some ⟨g, 0, none⟩), .string s, .int .i64 u] w fun e w' => ∃ B m c, e = .returned (.slice B m c) ∧ RdI w' B m c (posF T s u) ∧ Below w.heap.size w w' := by
  obtain ⟨A, n, c, hh, hr, _, _, _⟩ := h
  have hn := RdF.len hr
  have HN := Go.Lib.hid hn
  have k0 : w.cell? ⟨g, 0, none⟩ = some (.slice A n c) := by rw [cell_of_row w g 0 _ _ _ hh]; rfl
  have HP := Go.Lib.hid (fun j (hj : j < T.length) => pos_step (T := T) (j := j) s u hj)
  have HL := Go.Lib.hid (fun j => posF_len (T.take j) s u)
  have HT := Go.Lib.hid (show posF (T.take n) s u = posF T s u by rw [List.take_of_length_le (by omega)])
  have hn2 : n ≤ 200 := by omega
  have al : Below w.heap.size w (w.alloc (.cells #[] 3)) := (Below.refl _ _).alloc (Nat.le_refl _) _
  have o0 : OwnC 1 (w.alloc (.cells #[] 3)) w.heap.size 3 (some ⟨w.heap.size, 0, none⟩) 0 0 [] := OwnC.empty w 3 (Nat.le_refl _)
  clear hn hh hl
  go_enter Try.func19, Try.ntmps19
  go_wp2_with fail
  go_loopw [7, 8] (fun ov iv wr => ∃ (B : Option Addr) (m cb j : Nat), ov = .slice B m cb ∧ iv = .int .i64 (j : Int) ∧ j ≤ n ∧ OwnC 1 wr w.heap.size 3 B m cb (nums (posF (T.take j) s u)) ∧ Below w.heap.size w wr) (fun _ iv _ => n - (intOf iv).toNat)
  case atStart => exact ⟨_, 0, 0, 0, rfl, rfl, Nat.zero_le _, o0, al⟩
  case round =>
    obtain ⟨B, m, cb, j, rfl, rfl, hj, ho, hB⟩ := hrel
    have k1 := bcell hB k0
    by_cases hlt : j < n
    · have i1 : (j : Int) < n := by omega
      obtain ⟨bb, ob, rfl, _, _⟩ := RdF.at_ hr (by omega)
      obtain ⟨y1, y2⟩ := RdF.get (RdC.below hr hB) hlt
      have hst := HP.out j (by rw [HN.out]; exact hlt)
      have HS := Go.Lib.hid hst
      have hlen := HL.out j
      have hm : m = (posF (T.take j) s u).length := by have := ho.len; rw [nums_length] at this; omega
      have hm2 : m ≤ 200 := by rw [List.length_take] at hlen; omega
      clear hst hlen hm o0 al k0
      generalize T.getD j (ByteArray.empty, 0) = x at *
      obtain ⟨xs, xp⟩ := x
      simp only at y1 y2
      by_cases h1 : xs = s
      · subst h1
        by_cases h2 : xp ≤ u
        · have al := (Below.refl wr.heap.size wr).alloc (Nat.le_refl _) (.cells #[.int .i64 xp] 3)
          have d1 : RdC 1 (wr.alloc (.cells #[.int .i64 xp] 3)) (some ⟨wr.heap.size, 0, none⟩) 1 1 (nums [xp]) := RdC.new wr 3 (nums [xp]) rfl (by decide)
          have o1 := ho.below al
          go_wp2_with (at_builtin; refine wpList_append_cells rfl (.tmp 41) (.tmp 50) 38 rfl 3 (.int .i64 0) 8 Try.underlying38 int_info rfl (by decide) rfl rfl o1 d1 (nums_one _) (by unfold maxLen; omega) (by omega) (Nat.le_trans hB.size al.size) ?_; intro A8 c8 w8 o8 g8 _; have b8 := below_grown_own o1 (hB.trans (al.mono hB.size)) g8 (Nat.le_trans hB.size al.size))
          go_roundw
          case rel =>
            refine ⟨A8, m + 1, c8, j + 1, rfl, by go_num, by omega, ?_, b8⟩
            have e := HS.out
            rw [if_pos ⟨rfl, h2⟩] at e
            rw [e, nums_append]
            exact o8
          case measure => simp [intOf]; omega
        · go_wp2_with fail
          go_roundw
          case rel =>
            refine ⟨B, m, cb, j + 1, rfl, by go_num, by omega, ?_, hB⟩
            have e := HS.out
            rw [if_neg (fun h => h2 h.2), List.append_nil] at e
            rw [e]
            exact ho
          case measure => simp [intOf]; omega
      · have hne := str_ne h1
        go_wp2_with fail
        go_roundw
        case rel =>
          refine ⟨B, m, cb, j + 1, rfl, by go_num, by omega, ?_, hB⟩
          have e := HS.out
          rw [if_neg (fun h => h1 h.1), List.append_nil] at e
          rw [e]
          exact ho
        case measure => simp [intOf]; omega
    · obtain rfl : j = n := by omega
      have i1 : ¬ (j : Int) < j := by omega
      go_wp2_with fail
      go_ret
      refine ⟨B, m, cb, rfl, ?_, hB⟩
      have := OwnC.rd ho
      rw [HT.out] at this
      exact this

end Go.Proofs.Ytlmdkbhcocfhdaa.SmWalk

/-
  Contracts of the document's answers of layer 12: Names, Add.
-/
namespace Go.Proofs.Ytlmdkbhcocfhdaa.SmWalk
open Go.RowKit Go.Proofs.Ytlmdkbhcocfhdaa.MemRow Go.Proofs.Ytlmdkbhcocfhdaa.Ev Go.Proofs.Ytlmdkbhcocfhdaa.NameMath Go.Proofs.Ytlmdkbhcocfhdaa.NameWalk Go.Proofs.Ytlmdkbhcocfhdaa.EvWalk Go.Proofs.Ytlmdkbhcocfhdaa.NumMem Go.Proofs.Ytlmdkbhcocfhdaa.DkWalk

set_option maxHeartbeats 4000000 in
set_option maxRecDepth 100000 in
theorem refNames_any (g : Nat) (T : Tb) (G : Nat → Prop) (w : World) (h : RtT g T w G) (hl : T.length ≤ 200) :
    Calls Try.prog 16 #[.pointer (some ⟨g, 0, none⟩)] w fun e w' => ∃ B m c, e = .returned (.slice B m c) ∧ RdS w' B m c (namesT T) ∧ Below w.heap.size w w' := by
  obtain ⟨A, n, c, hh, hr, _, _, _⟩ := h
  have hn := RdF.len hr
  have k0 : w.cell? ⟨g, 0, none⟩ = some (.slice A n c) := by rw [cell_of_row w g 0 _ _ _ hh]; rfl
  have HP := Go.Lib.hid (fun j (hj : j < n) => show normTags ((T.take (j + 1)).map (·.1)) = putL (normTags ((T.take j).map (·.1))) (T.getD j (ByteArray.empty, 0)).1 by
    rw [fs_take T j (by omega), List.map_append, List.map_cons, List.map_nil, normTags_snoc])
  have HL := Go.Lib.hid (fun j => show (normTags ((T.take j).map (·.1))).length ≤ 200 by
    have h1 := normTags_len ((T.take j).map (·.1))
    rw [List.length_map, List.length_take] at h1
    omega)
  have HT := Go.Lib.hid (show normTags ((T.take n).map (·.1)) = namesT T by rw [List.take_of_length_le (by omega)]; rfl)
  have hn2 : n ≤ 200 := by omega
  have al : Below w.heap.size w (w.alloc (.cells #[] 9)) := (Below.refl _ _).alloc (Nat.le_refl _) _
  have r0 : RdS (w.alloc (.cells #[] 9)) (some ⟨w.heap.size, 0, none⟩) 0 0 [] := RdC.empty _ _ (by decide)
  clear hn hh hl
  go_enter Try.func16, Try.ntmps16
  go_wp2_with fail
  go_loopw [3, 4] (fun ov iv wr => ∃ (B : Option Addr) (m cb j : Nat), ov = .slice B m cb ∧ iv = .int .i64 (j : Int) ∧ j ≤ n ∧ RdS wr B m cb (normTags ((T.take j).map (·.1))) ∧ Below w.heap.size w wr) (fun _ iv _ => n - (intOf iv).toNat)
  case atStart => exact ⟨_, 0, 0, 0, rfl, rfl, Nat.zero_le _, r0, al⟩
  case round =>
    obtain ⟨B, m, cb, j, rfl, rfl, hj, ho, hB⟩ := hrel
    have k1 := bcell hB k0
    clear r0 al
    by_cases hlt : j < n
    · have i1 : (j : Int) < n := by omega
      obtain ⟨bb, ob, rfl, _, _⟩ := RdF.at_ hr (by omega)
      obtain ⟨y1, y2⟩ := RdF.get (RdC.below hr hB) hlt
      have hst := HP.out j hlt
      have HS := Go.Lib.hid hst
      have hlen := HL.out j
      have hm : m ≤ 200 := by have := RdS.len ho; omega
      clear hst hlen y2
      generalize (T.getD j (ByteArray.empty, 0)).1 = x at *
      go_wp2_with fail
      refine (refPut_any B m cb _ x wr ho (by omega)).mono ?_
      rintro e w2 ⟨B2, m2, c2, rfl, r2, b2, _⟩
      go_wp2_with fail
      go_roundw
      case rel =>
        refine ⟨B2, m2, c2, j + 1, rfl, by go_num, by omega, ?_, below_chain hB b2⟩
        rw [HS.out]
        exact r2
      case measure => simp [intOf]; omega
    · obtain rfl : j = n := by omega
      have i1 : ¬ (j : Int) < j := by omega
      go_wp2_with fail
      go_ret
      refine ⟨B, m, cb, rfl, ?_, hB⟩
      rw [HT.out] at ho
      exact ho

theorem rt_put {w w1 : World} {g : Nat} {T T' : Tb} {F : Nat → Prop} {A : Option Addr} {n c : Nat} (h : RtT g T w F) (hb : Below w.heap.size w w1) (hr : RdF w1 A n c T') (hA : ∀ a, A = some a → w.heap.size ≤ a.block ∧ a.block < w1.heap.size) :
    RtT g T' (w1.setCell ⟨g, 0, none⟩ (.slice A n c)) (up F w (w1.setCell ⟨g, 0, none⟩ (.slice A n c))) ∧ Ch F w (w1.setCell ⟨g, 0, none⟩ (.slice A n c)) := by
  obtain ⟨A0, n0, c0, hh, _, hg, _, hlt⟩ := h
  have hgs : g < w.heap.size := hlt g hg
  have hsz : (w1.setCell ⟨g, 0, none⟩ (.slice A n c)).heap.size = w1.heap.size := by simp [World.setCell]
  have hk : ∀ k, k ≠ g → (w1.setCell ⟨g, 0, none⟩ (.slice A n c)).heap[k]? = w1.heap[k]? := fun k hk => by
    have : g ≠ k := fun e => hk e.symm
    simp [World.setCell, Array.getElem?_modify, this]
  have h1 : w1.heap[g]? = _ := (hb.block g hgs).trans hh
  refine ⟨⟨A, n, c, ?_, rdc_keep hr fun a ha => hk _ (by have := (hA a ha).1; omega), .inl hg, fun a ha => ⟨.inr ⟨(hA a ha).1, by rw [hsz]; exact (hA a ha).2⟩, by have := (hA a ha).1; omega⟩, fun k hk2 => ?_⟩, ⟨hb.os, hb.tape, hb.output, by rw [hsz]; exact hb.size, fun k h1 h2 => (hk k (fun e => h2 (by rw [e]; exact hg))).trans (hb.block k h1)⟩⟩
  · simp only [World.setCell, Array.getElem?_modify, h1]
    rfl
  · exact up_lt hlt (by rw [hsz]; exact hb.size) hk2

theorem last_get {T : Tb} (h : 0 < T.length) : (T.getD (T.length - 1) (ByteArray.empty, 0)).2 = lastP T := by
  rcases List.eq_nil_or_concat T with rfl | ⟨L, y, rfl⟩
  · cases h
  · rw [List.concat_eq_append, last_snoc]
    simp [List.getD]
set_option maxHeartbeats 4000000 in
set_option maxRecDepth 100000 in
theorem refAdd_any {base : Nat} {w : World} {g : Nat} {T : Tb} {Q : Thing} {s : ByteArray} {p : Int} (hp : Pair base w (RtT g T) Q) (kq : Keeps Q) (hb : base ≤ w.heap.size) (hl : T.length < 200) :
    Calls Try.prog 13 #[.pointer (some ⟨g, 0, none⟩), .string s, .int .i64 p] w fun e w' => e = .returned (.tuple #[.int .i64 (addF T s p).1, .int .i64 (addF T s p).2.1]) ∧ Pair base w' (RtT g (addF T s p).2.2) Q ∧ Below base w w' := by
  obtain ⟨A, n, c, k0, hr, hn, fz⟩ : ∃ A n c, w.cell? ⟨g, 0, none⟩ = some (.slice A n c) ∧ RdF w A n c T ∧ T.length = n ∧ w.frozen? ⟨g, 0, none⟩ = false := by
    obtain ⟨F, G, ⟨A, n, c, hh, hr, _⟩, _⟩ := hp
    exact ⟨A, n, c, by rw [cell_of_row w g 0 _ _ _ hh]; rfl, hr, RdF.len hr, by simp [World.frozen?, hh]⟩
  have HN := Go.Lib.hid hn
  have hn2 : n < 200 := by omega
  have HA := Go.Lib.hid (@last_get T)
  generalize hadd : addF T s p = R
  have HR := Go.Lib.hid hadd
  clear hadd hn hl
  go_enter Try.func13, Try.ntmps13
  go_upto_if 14 with (fail)
  go_cut [8] (fun v wx => v = .int .i64 (lastP T) ∧ ∃ k, wx = w.drewN k)
  case first =>
    by_cases h0 : 0 < n
    · have i1 : (0 : Int) < n := by omega
      have i2 : IntKind.i64.wrap ((n : Int) - 1) = ((n - 1 : Nat) : Int) := by rw [IntWalk.i64_in _ (by omega)]; omega
      obtain ⟨bb, ob, rfl, _, _⟩ := RdF.at_ hr h0
      obtain ⟨y1, y2⟩ := RdF.get hr (show n - 1 < n by omega)
      have e := HA.out (by rw [HN.out]; exact h0)
      rw [HN.out] at e
      rw [e] at y2
      have j1 : ((n - 1 : Nat) : Int) < n := by omega
      have j2 : (0 : Int) ≤ ((n - 1 : Nat) : Int) := by omega
      clear y1 e
      generalize lastP T = z at *
      generalize n - 1 = m at *
      go_wp2_with fail
      go_quiet (fail)
      go_wp2_with fail
      go_meet
      exact ⟨rfl, _, rfl⟩
    · have i1 : ¬ (0 : Int) < n := by omega
      have e : lastP T = 0 := by
        have : T = [] := List.eq_nil_of_length_eq_zero (by have := HN.out; omega)
        rw [this]; rfl
      have E := Go.Lib.hid e
      clear e
      go_wp2_with fail
      go_meet
      exact ⟨by rw [E.out], 0, rfl⟩
  obtain ⟨rfl, q, rfl⟩ := hcut
  have bq : Below w.heap.size w (w.drewN q) := ⟨rfl, rfl, rfl, Nat.le_refl _, fun _ _ => rfl⟩
  have hp := hp.below (rtT_keeps _ _) kq bq
  have hr : RdF (w.drewN q) A n c T := hr
  have fz : (w.drewN q).frozen? ⟨g, 0, none⟩ = false := fz
  have k0 : (w.drewN q).cell? ⟨g, 0, none⟩ = some (.slice A n c) := k0
  have BQ := Go.Lib.hid (ch_below (Below.refl base w) (Ch.of_below (F := fun _ => False) bq) (fun _ h => h.elim) hb)
  have hb : base ≤ (w.drewN q).heap.size := hb
  generalize w.drewN q = w1 at *
  by_cases hc : p < 1 ∨ p ≤ lastP T
  · rw [add_no s hc] at HR
    obtain rfl := HR.out
    by_cases h1 : p < 1
    · go_wp2_with fail
      go_ret2
      exact ⟨rfl, hp, BQ.out⟩
    · have h2 : p ≤ lastP T := by omega
      go_wp2_with fail
      go_ret2
      exact ⟨rfl, hp, BQ.out⟩
  · have h1 : ¬ p < 1 := by omega
    have h2 : ¬ p ≤ lastP T := by omega
    have e : R = (((posF (T ++ [(s, p)]) s p).length : Int), 0, T ++ [(s, p)]) := by rw [← HR.out]; unfold addF; rw [if_neg hc]
    subst e
    clear hc HR HA
    have d0 := hr
    have fq := fz
    have kq0 := k0
    have ba : Below w1.heap.size w1 (w1.alloc (.cells #[] 33)) := (Below.refl _ _).alloc (Nat.le_refl _) _
    have o1 : OwnC 2 (w1.alloc (.cells #[] 33)) w1.heap.size 33 (some ⟨w1.heap.size, 0, none⟩) 0 0 [] := OwnC.empty w1 33 (Nat.le_refl _)
    have d3 := d0.below ba
    have k2 := bcell ba kq0
    go_wp2_with (first
      | (at_builtin; refine wpList_copy_cells rfl (.tmp 36) (.tmp 40) 22 rfl 33 (.agg #[.string ⟨#[]⟩, .int .i64 0]) 24 Try.underlying22 at_info rfl (by decide) rfl rfl o1 d3 (flds_one _) (by unfold maxLen; omega) (by omega) ba.size ba ?_; intro A5 c5 w5 o5 b5; have bb := (Below.refl w5.heap.size w5).alloc (Nat.le_refl _) (.cells #[.string s, .int .i64 p] 33); have o6 := o5.below bb; have d6 : RdC 2 (w5.alloc (.cells #[.string s, .int .i64 p] 33)) (some ⟨w5.heap.size, 0, none⟩) 1 1 (flds [(s, p)]) := RdC.new w5 33 (flds [(s, p)]) rfl (by decide); have b6 := below_chain b5 bb)
      | (at_builtin; refine wpList_more_cells rfl (.tmp 41) (.tmp 45) 22 rfl 33 (.agg #[.string ⟨#[]⟩, .int .i64 0]) 24 Try.underlying22 at_info rfl (by decide) rfl rfl o6 d6 (flds_one _) (by unfold maxLen; omega) (by omega) b6.size b6 ?_; intro A7 c7 w7 o7 b7 g7; have k7 := bcell b7 kq0; have f7 : w7.frozen? ⟨g, 0, none⟩ = false := (b7.frozen (World.block_lt_of_cell? w1 ⟨g, 0, none⟩ kq0)).trans fq))
    obtain ⟨F, G, hpF, hqG, g1, g2, g3⟩ := hp
    have o7' : RdF w7 A7 (n + 1) c7 (T ++ [(s, p)]) := by
      have := OwnC.rd o7
      rw [← flds_append] at this
      exact this
    obtain ⟨r8, ch8⟩ := rt_put (w1 := w7) (A := A7) (n := n + 1) (c := c7) hpF b7 o7' (fun a ha => (OwnC.lt o7 a ha))
    have p8 : Pair base (w7.setCell ⟨g, 0, none⟩ (.slice A7 (n + 1) c7)) (RtT g (T ++ [(s, p)])) Q := Pair.left hqG kq g1 g2 g3 hb r8 ch8
    have B8 := Go.Lib.hid (BQ.out.trans (ch_below (Below.refl base w1) ch8 g1 hb))
    have P8 := Go.Lib.hid p8
    have hlen : (T ++ [(s, p)]).length ≤ 200 := by rw [List.length_append, HN.out]; simp; omega
    have hb8 : base ≤ (w7.setCell ⟨g, 0, none⟩ (.slice A7 (n + 1) c7)).heap.size := Nat.le_trans hb ch8.size
    obtain ⟨F8, G8, h8, _⟩ := p8
    have H8 := Go.Lib.hid h8
    clear h8 ch8 r8 hpF hqG g1 g2 g3 o7 o7' b7 g7 k7 f7 k0 fz hr d0 fq kq0 ba o1 d3 k2 BQ hb bq
    generalize w7.setCell ⟨g, 0, none⟩ (.slice A7 (n + 1) c7) = w8 at *
    go_wp2_with fail
    refine (refPos_any g _ F8 s p w8 H8.out hlen).mono ?_
    rintro e w9 ⟨B, m, c9, rfl, r9, b9⟩
    have p9 := P8.out.below (rtT_keeps _ _) kq b9
    have m9 := r9.len
    have B9 := B8.out.trans (bel_up hb8 b9)
    go_wp2_with fail
    go_ret2
    exact ⟨by first | rfl | (rw [m9]; rfl), p9, B9⟩

end Go.Proofs.Ytlmdkbhcocfhdaa.SmWalk

/-
  A drawing region by hand: an operation that is taken first, its slot named.
-/
namespace Go.Proofs.Ytlmdkbhcocfhdaa.HeldAt
open Go


theorem take_at {P : Program} {ops : Array Oper} {Q : Exit → Act → World → Prop} {md : Region.Mode} {S : World → Prop} {i d : Nat} {oi : Oper} {v : Value} {fuel : Nat} {listed : Array Bool} {a : Act} {w : World} (hi : ops[i]? = some oi) (hd : oi.dst = some d)
    (hs : Region.noSelect ops = true) (hf : Region.free md ops listed i = true) (hr : (Region.ready md ops listed).contains i = true)
    (hQ : ∀ c a w, Q (.panic c) (a.put oi.dst v) w → Q (.panic c) a w) (hy : YieldsIf P ops S oi v a) (hS : S w)
    (h : wpAnyH P md ops Q S fuel (listed.setIfInBounds i true) (a.put (some d) v) w) : wpAnyH P md ops Q S (fuel + 1) listed a w :=
  wpAnyH_take hi hs hf hr hQ hy hS (by rw [hd]; exact h)

/-- From here on a condition that says more: cells that an operation of the region has written. -/
theorem wpAnyH_more {P : Program} {ops : Array Oper} {Q : Exit → Act → World → Prop} {md : Region.Mode} {S S' : World → Prop} (hs : ∀ w, S' w → S w) : ∀ {fuel : Nat} {listed : Array Bool} {a : Act} {w : World}, wpAnyH P md ops Q S' fuel listed a w → wpAnyH P md ops Q S fuel listed a w
  | 0, _, _, _, h => h
  | _ + 1, _, _, _, h => ⟨h.1, fun i hi => wpOp_mono (fun _ w' h' => ⟨hs w' h'.1, wpAnyH_more hs h'.2⟩) (h.2 i hi)⟩

end Go.Proofs.Ytlmdkbhcocfhdaa.HeldAt

/-
  Walk of a statement of layer 12: StreamsPlays.
-/
namespace Go.Proofs.Ytlmdkbhcocfhdaa.SmWalk
open Go.Proofs.Ytlmdkbhcocfhdaa.HeldAt Go.RowKit Go.WideShapes Go.ChangeShapes Go.Proofs.Ytlmdkbhcocfhdaa.MemRow Go.Proofs.Ytlmdkbhcocfhdaa.Ev Go.Proofs.Ytlmdkbhcocfhdaa.Open Go.Proofs.Ytlmdkbhcocfhdaa.NameMath Go.Proofs.Ytlmdkbhcocfhdaa.NameWalk Go.Proofs.Ytlmdkbhcocfhdaa.EvWalk Go.Proofs.Ytlmdkbhcocfhdaa.NumMem Go.Proofs.Ytlmdkbhcocfhdaa.DkWalk

section
variable {base : Nat} {w : World} {g : Nat} {T : Tb} {Q : Thing}
theorem rt_pos (h : Pair base w (RtT g T) Q) (kq : Keeps Q) (hl : T.length ≤ 200) (s : ByteArray) (u : Int) :
    Calls Try.prog 19 #[.pointer (some ⟨g, 0, none⟩), .string s, .int .i64 u] w fun e w' => ∃ B m c, e = .returned (.slice B m c) ∧ RdI w' B m c (posF T s u) ∧ Pair base w' (RtT g T) Q ∧ Below w.heap.size w w' := by
  have h' := h
  obtain ⟨F, G, hp, _⟩ := h
  exact (refPos_any g T F s u w hp hl).mono fun e w' ⟨B, m, c, he, hr, hb⟩ => ⟨B, m, c, he, hr, h'.below (rtT_keeps g T) kq hb, hb⟩
theorem rt_names (h : Pair base w (RtT g T) Q) (kq : Keeps Q) (hl : T.length ≤ 200) :
    Calls Try.prog 16 #[.pointer (some ⟨g, 0, none⟩)] w fun e w' => ∃ B m c, e = .returned (.slice B m c) ∧ RdS w' B m c (namesT T) ∧ Pair base w' (RtT g T) Q ∧ Below w.heap.size w w' := by
  have h' := h
  obtain ⟨F, G, hp, _⟩ := h
  exact (refNames_any g T F w hp hl).mono fun e w' ⟨B, m, c, he, hr, hb⟩ => ⟨B, m, c, he, hr, h'.below (rtT_keeps g T) kq hb, hb⟩
theorem rt_new {P : Thing} (h : Pair base w P NoT) (kp : Keeps P) (hb : base ≤ w.heap.size) : Pair base (w.alloc (.cells #[.slice none 0 0] 28)) P (RtT w.heap.size []) ∧ Below w.heap.size w (w.alloc (.cells #[.slice none 0 0] 28)) := by
  have hbl := (Below.refl w.heap.size w).alloc (Nat.le_refl _) (.cells #[.slice none 0 0] 28)
  have hs : (w.alloc (.cells #[.slice none 0 0] 28)).heap.size = w.heap.size + 1 := by simp only [World.alloc, Array.size_push]
  exact ⟨pair_second (pair_more h kp noT_keeps hb hbl ⟨none, 0, 0, heap_alloc_new w _, RdC.nil _, ⟨Nat.le_refl _, by omega⟩, fun a ha => (by cases ha), fun k hk => hk.2⟩), hbl⟩
end
def tZ : ByteArray := ⟨#[122, 122]⟩
theorem at_sz {T : Tb} (h : ∀ x ∈ T, x.1.size ≤ maxLen) (j : Nat) : (T.getD j (ByteArray.empty, 0)).1.size ≤ maxLen := by
  by_cases hj : j < T.length
  · simp only [List.getD, List.getElem?_eq_getElem hj, Option.getD_some]
    exact h _ (List.getElem_mem hj)
  · simp [List.getD, List.getElem?_eq_none (Nat.le_of_not_lt hj)]
theorem at_rng {T : Tb} (h : ∀ x ∈ T, -9223372036854775808 ≤ x.2 ∧ x.2 ≤ 9223372036854775807) (j : Nat) : -9223372036854775808 ≤ (T.getD j (ByteArray.empty, 0)).2 ∧ (T.getD j (ByteArray.empty, 0)).2 ≤ 9223372036854775807 := by
  by_cases hj : j < T.length
  · simp only [List.getD, List.getElem?_eq_getElem hj, Option.getD_some]
    exact h _ (List.getElem_mem hj)
  · simp [List.getD, List.getElem?_eq_none (Nat.le_of_not_lt hj)]
section
variable {St : Nat → Tb → Thing} {Tw : Nat → Tb → Nat → Tb → Thing}
set_option maxHeartbeats 8000000 in
set_option maxRecDepth 100000 in
theorem splays_walk (api : TwApi St Tw) (A : Option Addr) (n cap : Nat) (I : Tb) (s : ByteArray) (z : Int) (w0 : World) (h0 : RdF w0 A n cap I) (hsz : ∀ x ∈ I, x.1.size ≤ maxLen) (hrg : ∀ x ∈ I, -9223372036854775808 ≤ x.2 ∧ x.2 ≤ 9223372036854775807) (hs : s.size ≤ maxLen) (hz : -9223372036854775808 ≤ z ∧ z ≤ 9223372036854775807) :
    Calls Try.prog 3 #[.slice A n cap, .string s, .int .i64 z] w0 fun e w' => e = .returned (.bool true) ∧ Below w0.heap.size w0 w' := by
  have hn := RdC.le h0
  unfold maxLen at hn
  have HZ := Go.Lib.hid (at_sz hsz)
  have HG := Go.Lib.hid (at_rng hrg)
  clear hsz hrg
  have kS := api.keeps
  go_enter Try.func3, Try.ntmps3
  go_wp2_with fail
  refine (shown12_any api.toSApi w0).mono ?_
  rintro e w1 ⟨rfl, B1⟩
  go_wp2_with fail
  refine (api.new B1.size).mono ?_
  rintro e w2 ⟨g2, rfl, p2, b2⟩
  have B2 := below_chain B1 b2
  obtain ⟨p3, b3⟩ := rt_new p2 (kS _ _) B2.size
  have B3 := below_chain B2 b3
  clear B1 b2 p2 B2 b3
  go_upto_region 4 with (fail)
  generalize w2.alloc (.cells #[.slice none 0 0] 28) = w3 at *
  generalize w2.heap.size = gy at *
  go_wp2_with fail
  go_loopw [8, 10, 11, 12, 13, 14, 15] (fun tv iv _ _ _ _ _ wr => ∃ (g j : Nat) (T : Tb), tv = .pointer (some ⟨g, 0, none⟩) ∧ iv = .int .i64 (j : Int) ∧ j ≤ n ∧ j ≤ 80 ∧ Hid (T.length ≤ j) ∧ Hid (TOk T) ∧ Pair w0.heap.size wr (St g T) (RtT gy T) ∧ Below w0.heap.size w0 wr) (fun _ iv _ _ _ _ _ _ => n - (intOf iv).toNat)
  case atStart => exact ⟨g2, 0, [], rfl, rfl, Nat.zero_le _, by omega, Go.Lib.hid (Nat.le_refl _), Go.Lib.hid TOk.nil, p3, B3⟩
  case round =>
    obtain ⟨g, j, T, rfl, rfl, hjn, hj80, HL, OK, pj, Bj⟩ := hrel
    clear p3 B3
    go_upto_region 7 with (fail)
    go_cut [35] (fun v wx => v = .bool (decide (j < n ∧ j < 80)) ∧ wr = wx)
    case first =>
      by_cases h1 : j < n
      · have i1 : (j : Int) < n := by omega
        by_cases h2 : j < 80
        · have i2 : (j : Int) < 80 := by omega
          go_wp2_with fail
          go_meet
          exact ⟨by simp [h1, h2], rfl⟩
        · have i2 : ¬ (j : Int) < 80 := by omega
          go_wp2_with fail
          go_meet
          exact ⟨by simp [h1, h2], rfl⟩
      · have i1 : ¬ (j : Int) < n := by omega
        go_wp2_with fail
        go_meet
        exact ⟨by simp [h1], rfl⟩
    obtain ⟨rfl, rfl⟩ := hcut
    by_cases hc : j < n ∧ j < 80
    · rw [show decide (j < n ∧ j < 80) = true by simpa using hc]
      obtain ⟨h1, h2⟩ := hc
      have i1 : (j : Int) < n := by omega
      have ht : Int.tmod (j : Int) 9 = ((j % 9 : Nat) : Int) := by
        rw [Int.tmod_eq_emod_of_nonneg (by omega)]
        rfl
      have hl2 : T.length < 200 := by have := HL.out; omega
      go_upto_if 40 with (fail)
      go_cut [8, 11] (fun v _ wx => ∃ ge : Nat, v = .pointer (some ⟨ge, 0, none⟩) ∧ Pair w0.heap.size wx (St ge T) (RtT gy T) ∧ Below w0.heap.size w0 wx)
      case first =>
        by_cases h8 : j % 9 = 8
        · rw [h8] at ht
          have ht : Int.tmod (j : Int) 9 = 8 := ht
          go_wp2_with fail
          refine (api.clone pj (rtT_keeps _ _) Bj.size OK.out).mono ?_
          rintro e w4 ⟨gn, rfl, p4, b4⟩
          have B4 := below_chain Bj b4
          clear pj Bj b4
          go_wp2_with fail
          refine (api.tadd (s := tZ) (p := 1099511627776) p4 (rtT_keeps _ _) B4.size OK.out hl2 (by decide) (by decide)).mono ?_
          rintro e w5 ⟨rfl, p5, b5⟩
          have B5 := B4.trans b5
          have p6 := pair_impL (th_trans (api.swap _ _ _ _) (api.fst _ _ _ _)) p5
          clear p4 p5 B4 b5
          go_wp2_with fail
          go_meet
          exact ⟨gn, rfl, p6, B5⟩
        · have ht : ¬ Int.tmod (j : Int) 9 = 8 := by
            rw [ht]
            omega
          go_wp2_with fail
          go_meet
          exact ⟨g, rfl, pj, Bj⟩
      case rest =>
        obtain ⟨ge, rfl, p1, B1⟩ := hcut
        clear pj Bj ht
        obtain ⟨bi, oi, rfl, _, _⟩ := RdF.at_ h0 (by omega)
        obtain ⟨x0, x1⟩ := RdF.get h0 h1
        have hxs := HZ.out j
        have hxr := HG.out j
        generalize I.getD j (ByteArray.empty, 0) = x at *
        obtain ⟨xs, xp⟩ := x
        simp only at x0 x1 hxs hxr
        have ok2 := add_ok OK.out (s := xs) (p := xp) hl2 hxs hxr.2
        have hlen := add_len T xs xp
        have bd : Below wc.heap.size wc wc.drew := ⟨rfl, rfl, rfl, Nat.le_refl _, fun _ _ => rfl⟩
        have pd := p1.below (kS _ _) (rtT_keeps _ _) bd
        have Bd := below_chain B1 bd
        have y0 := bcell Bd x0
        have y1 := bcell Bd x1
        clear p1 B1 bd
        go_upto_region 15 with (fail)
        refine wp_region_held_drew (S := (fun w' => w'.cell? ⟨bi, oi + j * 2, none⟩ = some (.string xs) ∧ w'.cell? ⟨bi, oi + j * 2 + 1, none⟩ = some (.int .i64 xp))) (by kernel_rfl) ?_ (fun hHeld => ?_)
        · exact ⟨y0, y1⟩
        refine take_at (i := 0) (d := 49) (v := ?_) rfl rfl (by kernel_rfl) (by kernel_rfl) (by kernel_rfl) (fun _ _ _ h => h) (Or.inl ⟨by rfl, ?hy⟩) (by assumption) ?_
        case hy => (intro wS hSw; (try dsimp only at hSw); first | (go_simp; done) | (go_simp; with_reducible rfl))
        simp only [Act.put, List.setIfInBounds_toArray, List.set_cons_zero, List.set_cons_succ]
        refine take_at (i := 1) (d := 50) (v := ?_) rfl rfl (by kernel_rfl) (by kernel_rfl) (by kernel_rfl) (fun _ _ _ h => h) (Or.inl ⟨by rfl, ?hy⟩) (by assumption) ?_
        case hy => (intro wS hSw; (try dsimp only at hSw); first | (go_simp; done) | (go_simp; with_reducible rfl))
        simp only [Act.put, List.setIfInBounds_toArray, List.set_cons_zero, List.set_cons_succ]
        refine take_at (i := 2) (d := 51) (v := ?_) rfl rfl (by kernel_rfl) (by kernel_rfl) (by kernel_rfl) (fun _ _ _ h => h) (Or.inl ⟨by rfl, ?hy⟩) (by assumption) ?_
        case hy => (intro wS hSw; (try dsimp only at hSw); first | (go_simp; done) | (go_simp; with_reducible rfl))
        simp only [Act.put, List.setIfInBounds_toArray, List.set_cons_zero, List.set_cons_succ]
        refine take_at (i := 3) (d := 52) (v := ?_) rfl rfl (by kernel_rfl) (by kernel_rfl) (by kernel_rfl) (fun _ _ _ h => h) (Or.inl ⟨by rfl, ?hy⟩) (by assumption) ?_
        case hy => (intro wS hSw; (try dsimp only at hSw); first | (go_simp; done) | (go_simp; with_reducible rfl))
        simp only [Act.put, List.setIfInBounds_toArray, List.set_cons_zero, List.set_cons_succ]
        refine take_at (i := 4) (d := 53) (v := ?_) rfl rfl (by kernel_rfl) (by kernel_rfl) (by kernel_rfl) (fun _ _ _ h => h) (Or.inl ⟨by rfl, ?hy⟩) (by assumption) ?_
        case hy => (intro wS hSw; (try dsimp only at hSw); first | (go_simp; done) | (go_simp; with_reducible rfl))
        simp only [Act.put, List.setIfInBounds_toArray, List.set_cons_zero, List.set_cons_succ]
        refine take_at (i := 5) (d := 54) (v := ?_) rfl rfl (by kernel_rfl) (by kernel_rfl) (by kernel_rfl) (fun _ _ _ h => h) (Or.inl ⟨by rfl, ?hy⟩) (by assumption) ?_
        case hy => (intro wS hSw; (try dsimp only at hSw); first | (go_simp; done) | (go_simp; with_reducible rfl))
        simp only [Act.put, List.setIfInBounds_toArray, List.set_cons_zero, List.set_cons_succ]
        refine take_at (i := 6) (d := 55) (v := ?_) rfl rfl (by kernel_rfl) (by kernel_rfl) (by kernel_rfl) (fun _ _ _ h => h) (Or.inl ⟨by rfl, ?hy⟩) (by assumption) ?_
        case hy => (intro wS hSw; (try dsimp only at hSw); first | (go_simp; done) | (go_simp; with_reducible rfl))
        simp only [Act.put, List.setIfInBounds_toArray, List.set_cons_zero, List.set_cons_succ]
        refine take_at (i := 7) (d := 56) (v := ?_) rfl rfl (by kernel_rfl) (by kernel_rfl) (by kernel_rfl) (fun _ _ _ h => h) (Or.inl ⟨by rfl, ?hy⟩) (by assumption) ?_
        case hy => (intro wS hSw; (try dsimp only at hSw); first | (go_simp; done) | (go_simp; with_reducible rfl))
        simp only [Act.put, List.setIfInBounds_toArray, List.set_cons_zero, List.set_cons_succ]
        refine take_at (i := 8) (d := 57) (v := ?_) rfl rfl (by kernel_rfl) (by kernel_rfl) (by kernel_rfl) (fun _ _ _ h => h) (Or.inl ⟨by rfl, ?hy⟩) (by assumption) ?_
        case hy => (intro wS hSw; (try dsimp only at hSw); first | (go_simp; done) | (go_simp; with_reducible rfl))
        simp only [Act.put, List.setIfInBounds_toArray, List.set_cons_zero, List.set_cons_succ]
        refine take_at (i := 9) (d := 58) (v := ?_) rfl rfl (by kernel_rfl) (by kernel_rfl) (by kernel_rfl) (fun _ _ _ h => h) (Or.inl ⟨by rfl, ?hy⟩) (by assumption) ?_
        case hy => (intro wS hSw; (try dsimp only at hSw); first | (go_simp; done) | (go_simp; with_reducible rfl))
        simp only [Act.put, List.setIfInBounds_toArray, List.set_cons_zero, List.set_cons_succ]
        refine take_at (i := 10) (d := 59) (v := ?_) rfl rfl (by kernel_rfl) (by kernel_rfl) (by kernel_rfl) (fun _ _ _ h => h) (Or.inl ⟨by rfl, ?hy⟩) (by assumption) ?_
        case hy => (intro wS hSw; (try dsimp only at hSw); first | (go_simp; done) | (go_simp; with_reducible rfl))
        simp only [Act.put, List.setIfInBounds_toArray, List.set_cons_zero, List.set_cons_succ]
        refine wpAnyH_ready (rs := [11]) (by kernel_rfl) (by simp) ?_
        refine AllReadyH.cons rfl (fun K11 hK11 => ?_) AllReadyH.nil
        go_simp
        go_wp2_with (go_at_call 12; refine (api.add (s := xs) (p := xp) pd (rtT_keeps _ _) Bd.size OK.out hl2 hxs hxr).mono ?_; rintro e w5 ⟨rfl, p5, b5⟩; have B5 := Bd.trans b5; have y2 := bcell B5 x0; have y3 := bcell B5 x1)
        refine hK11.out _ _ ?_ (fun hH11 => ?_)
        · exact ⟨y2, y3⟩
        clear hK11 K11 hHeld
        refine take_at (i := 12) (d := 48) (v := ?_) rfl rfl (by kernel_rfl) (by kernel_rfl) (by kernel_rfl) (fun _ _ _ h => h) (Or.inl ⟨by rfl, ?hy⟩) (by assumption) ?_
        case hy => (intro wS hSw; (try dsimp only at hSw); first | (go_simp; done) | (go_simp; with_reducible rfl))
        simp only [Act.put, List.setIfInBounds_toArray, List.set_cons_zero, List.set_cons_succ]
        refine take_at (i := 13) (d := 61) (v := ?_) rfl rfl (by kernel_rfl) (by kernel_rfl) (by kernel_rfl) (fun _ _ _ h => h) (Or.inl ⟨by rfl, ?hy⟩) (by assumption) ?_
        case hy => (intro wS hSw; (try dsimp only at hSw); first | (go_simp; done) | (go_simp; with_reducible rfl))
        simp only [Act.put, List.setIfInBounds_toArray, List.set_cons_zero, List.set_cons_succ]
        refine take_at (i := 14) (d := 62) (v := ?_) rfl rfl (by kernel_rfl) (by kernel_rfl) (by kernel_rfl) (fun _ _ _ h => h) (Or.inl ⟨by rfl, ?hy⟩) (by assumption) ?_
        case hy => (intro wS hSw; (try dsimp only at hSw); first | (go_simp; done) | (go_simp; with_reducible rfl))
        simp only [Act.put, List.setIfInBounds_toArray, List.set_cons_zero, List.set_cons_succ]
        refine take_at (i := 15) (d := 12) (v := ?_) rfl rfl (by kernel_rfl) (by kernel_rfl) (by kernel_rfl) (fun _ _ _ h => h) (Or.inl ⟨by rfl, ?hy⟩) (by assumption) ?_
        case hy => (intro wS hSw; (try dsimp only at hSw); first | (go_simp; done) | (go_simp; with_reducible rfl))
        simp only [Act.put, List.setIfInBounds_toArray, List.set_cons_zero, List.set_cons_succ]
        refine take_at (i := 16) (d := 13) (v := ?_) rfl rfl (by kernel_rfl) (by kernel_rfl) (by kernel_rfl) (fun _ _ _ h => h) (Or.inl ⟨by rfl, ?hy⟩) (by assumption) ?_
        case hy => (intro wS hSw; (try dsimp only at hSw); first | (go_simp; done) | (go_simp; with_reducible rfl))
        simp only [Act.put, List.setIfInBounds_toArray, List.set_cons_zero, List.set_cons_succ]
        refine wpAnyH_done (by kernel_rfl) ?_ _
        clear pd Bd b5 y0 y1 y2 y3
        have bd : Below w5.heap.size w5 w5.drew := ⟨rfl, rfl, rfl, Nat.le_refl _, fun _ _ => rfl⟩
        have pd := (p5.below (kS _ _) (rtT_keeps _ _) bd).swap
        have Bd := below_chain B5 bd
        have y0 := bcell Bd x0
        have y1 := bcell Bd x1
        clear p5 B5 bd
        go_upto_region 16 with (fail)
        refine wp_region_held_drew (S := (fun w' => w'.cell? ⟨bi, oi + j * 2, none⟩ = some (.string xs) ∧ w'.cell? ⟨bi, oi + j * 2 + 1, none⟩ = some (.int .i64 xp))) (by kernel_rfl) ?_ (fun hHeld => ?_)
        · exact ⟨y0, y1⟩
        refine take_at (i := 0) (d := 64) (v := ?_) rfl rfl (by kernel_rfl) (by kernel_rfl) (by kernel_rfl) (fun _ _ _ h => h) (Or.inl ⟨by rfl, ?hy⟩) (by assumption) ?_
        case hy => (intro wS hSw; (try dsimp only at hSw); first | (go_simp; done) | (go_simp; with_reducible rfl))
        simp only [Act.put, List.setIfInBounds_toArray, List.set_cons_zero, List.set_cons_succ]
        refine take_at (i := 1) (d := 65) (v := ?_) rfl rfl (by kernel_rfl) (by kernel_rfl) (by kernel_rfl) (fun _ _ _ h => h) (Or.inl ⟨by rfl, ?hy⟩) (by assumption) ?_
        case hy => (intro wS hSw; (try dsimp only at hSw); first | (go_simp; done) | (go_simp; with_reducible rfl))
        simp only [Act.put, List.setIfInBounds_toArray, List.set_cons_zero, List.set_cons_succ]
        refine take_at (i := 2) (d := 66) (v := ?_) rfl rfl (by kernel_rfl) (by kernel_rfl) (by kernel_rfl) (fun _ _ _ h => h) (Or.inl ⟨by rfl, ?hy⟩) (by assumption) ?_
        case hy => (intro wS hSw; (try dsimp only at hSw); first | (go_simp; done) | (go_simp; with_reducible rfl))
        simp only [Act.put, List.setIfInBounds_toArray, List.set_cons_zero, List.set_cons_succ]
        refine take_at (i := 3) (d := 67) (v := ?_) rfl rfl (by kernel_rfl) (by kernel_rfl) (by kernel_rfl) (fun _ _ _ h => h) (Or.inl ⟨by rfl, ?hy⟩) (by assumption) ?_
        case hy => (intro wS hSw; (try dsimp only at hSw); first | (go_simp; done) | (go_simp; with_reducible rfl))
        simp only [Act.put, List.setIfInBounds_toArray, List.set_cons_zero, List.set_cons_succ]
        refine take_at (i := 4) (d := 68) (v := ?_) rfl rfl (by kernel_rfl) (by kernel_rfl) (by kernel_rfl) (fun _ _ _ h => h) (Or.inl ⟨by rfl, ?hy⟩) (by assumption) ?_
        case hy => (intro wS hSw; (try dsimp only at hSw); first | (go_simp; done) | (go_simp; with_reducible rfl))
        simp only [Act.put, List.setIfInBounds_toArray, List.set_cons_zero, List.set_cons_succ]
        refine take_at (i := 5) (d := 69) (v := ?_) rfl rfl (by kernel_rfl) (by kernel_rfl) (by kernel_rfl) (fun _ _ _ h => h) (Or.inl ⟨by rfl, ?hy⟩) (by assumption) ?_
        case hy => (intro wS hSw; (try dsimp only at hSw); first | (go_simp; done) | (go_simp; with_reducible rfl))
        simp only [Act.put, List.setIfInBounds_toArray, List.set_cons_zero, List.set_cons_succ]
        refine take_at (i := 6) (d := 70) (v := ?_) rfl rfl (by kernel_rfl) (by kernel_rfl) (by kernel_rfl) (fun _ _ _ h => h) (Or.inl ⟨by rfl, ?hy⟩) (by assumption) ?_
        case hy => (intro wS hSw; (try dsimp only at hSw); first | (go_simp; done) | (go_simp; with_reducible rfl))
        simp only [Act.put, List.setIfInBounds_toArray, List.set_cons_zero, List.set_cons_succ]
        refine take_at (i := 7) (d := 71) (v := ?_) rfl rfl (by kernel_rfl) (by kernel_rfl) (by kernel_rfl) (fun _ _ _ h => h) (Or.inl ⟨by rfl, ?hy⟩) (by assumption) ?_
        case hy => (intro wS hSw; (try dsimp only at hSw); first | (go_simp; done) | (go_simp; with_reducible rfl))
        simp only [Act.put, List.setIfInBounds_toArray, List.set_cons_zero, List.set_cons_succ]
        refine take_at (i := 8) (d := 72) (v := ?_) rfl rfl (by kernel_rfl) (by kernel_rfl) (by kernel_rfl) (fun _ _ _ h => h) (Or.inl ⟨by rfl, ?hy⟩) (by assumption) ?_
        case hy => (intro wS hSw; (try dsimp only at hSw); first | (go_simp; done) | (go_simp; with_reducible rfl))
        simp only [Act.put, List.setIfInBounds_toArray, List.set_cons_zero, List.set_cons_succ]
        refine take_at (i := 9) (d := 73) (v := ?_) rfl rfl (by kernel_rfl) (by kernel_rfl) (by kernel_rfl) (fun _ _ _ h => h) (Or.inl ⟨by rfl, ?hy⟩) (by assumption) ?_
        case hy => (intro wS hSw; (try dsimp only at hSw); first | (go_simp; done) | (go_simp; with_reducible rfl))
        simp only [Act.put, List.setIfInBounds_toArray, List.set_cons_zero, List.set_cons_succ]
        refine take_at (i := 10) (d := 74) (v := ?_) rfl rfl (by kernel_rfl) (by kernel_rfl) (by kernel_rfl) (fun _ _ _ h => h) (Or.inl ⟨by rfl, ?hy⟩) (by assumption) ?_
        case hy => (intro wS hSw; (try dsimp only at hSw); first | (go_simp; done) | (go_simp; with_reducible rfl))
        simp only [Act.put, List.setIfInBounds_toArray, List.set_cons_zero, List.set_cons_succ]
        refine wpAnyH_ready (rs := [11]) (by kernel_rfl) (by simp) ?_
        refine AllReadyH.cons rfl (fun K11 hK11 => ?_) AllReadyH.nil
        go_simp
        go_wp2_with (go_at_call 13; refine (refAdd_any (s := xs) (p := xp) pd (kS _ _) Bd.size hl2).mono ?_; rintro e w6 ⟨rfl, p6, b6⟩; have B6 := Bd.trans b6; have y2 := bcell B6 x0; have y3 := bcell B6 x1)
        refine hK11.out _ _ ?_ (fun hH11 => ?_)
        · exact ⟨y2, y3⟩
        clear hK11 K11 hHeld
        refine take_at (i := 12) (d := 63) (v := ?_) rfl rfl (by kernel_rfl) (by kernel_rfl) (by kernel_rfl) (fun _ _ _ h => h) (Or.inl ⟨by rfl, ?hy⟩) (by assumption) ?_
        case hy => (intro wS hSw; (try dsimp only at hSw); first | (go_simp; done) | (go_simp; with_reducible rfl))
        simp only [Act.put, List.setIfInBounds_toArray, List.set_cons_zero, List.set_cons_succ]
        refine take_at (i := 13) (d := 76) (v := ?_) rfl rfl (by kernel_rfl) (by kernel_rfl) (by kernel_rfl) (fun _ _ _ h => h) (Or.inl ⟨by rfl, ?hy⟩) (by assumption) ?_
        case hy => (intro wS hSw; (try dsimp only at hSw); first | (go_simp; done) | (go_simp; with_reducible rfl))
        simp only [Act.put, List.setIfInBounds_toArray, List.set_cons_zero, List.set_cons_succ]
        refine take_at (i := 14) (d := 77) (v := ?_) rfl rfl (by kernel_rfl) (by kernel_rfl) (by kernel_rfl) (fun _ _ _ h => h) (Or.inl ⟨by rfl, ?hy⟩) (by assumption) ?_
        case hy => (intro wS hSw; (try dsimp only at hSw); first | (go_simp; done) | (go_simp; with_reducible rfl))
        simp only [Act.put, List.setIfInBounds_toArray, List.set_cons_zero, List.set_cons_succ]
        refine take_at (i := 15) (d := 14) (v := ?_) rfl rfl (by kernel_rfl) (by kernel_rfl) (by kernel_rfl) (fun _ _ _ h => h) (Or.inl ⟨by rfl, ?hy⟩) (by assumption) ?_
        case hy => (intro wS hSw; (try dsimp only at hSw); first | (go_simp; done) | (go_simp; with_reducible rfl))
        simp only [Act.put, List.setIfInBounds_toArray, List.set_cons_zero, List.set_cons_succ]
        refine take_at (i := 16) (d := 15) (v := ?_) rfl rfl (by kernel_rfl) (by kernel_rfl) (by kernel_rfl) (fun _ _ _ h => h) (Or.inl ⟨by rfl, ?hy⟩) (by assumption) ?_
        case hy => (intro wS hSw; (try dsimp only at hSw); first | (go_simp; done) | (go_simp; with_reducible rfl))
        simp only [Act.put, List.setIfInBounds_toArray, List.set_cons_zero, List.set_cons_succ]
        refine wpAnyH_done (by kernel_rfl) ?_ _
        clear pd Bd b6 y0 y1 y2 y3
        generalize addF T xs xp = R at *
        obtain ⟨ra, re, T2⟩ := R
        simp only at ok2 hlen p6
        have i3 : (ra != ra) = false := by simp
        have i4 : (re != re) = false := by simp
        have p7 := p6.swap
        have HL2 := Go.Lib.hid (show T2.length ≤ j + 1 by have := HL.out; omega)
        have OK2 := Go.Lib.hid ok2
        clear p6 hlen ok2
        go_wp2_with fail
        go_roundw
        case rel => exact ⟨ge, j + 1, T2, rfl, by go_num, by omega, by omega, HL2, OK2, p7, B6⟩
        case measure => simp [intOf]; omega
    · rw [show decide (j < n ∧ j < 80) = false by simpa using hc]
      clear hc
      have hl2 : T.length ≤ 200 := by have := HL.out; omega
      go_wp2_with fail
      refine (api.names pj (rtT_keeps _ _) OK.out).mono ?_
      rintro e w4 ⟨C4, m4, c4, rfl, r4, p4, b4⟩
      have B4 := below_chain Bj b4
      clear pj Bj b4
      go_wp2_with fail
      refine (rt_names p4.swap (kS _ _) hl2).mono ?_
      rintro e w5 ⟨C5, m5, c5, rfl, r5, p5, b5⟩
      have B5 := below_chain B4 b5
      have r4 : RdS w5 C4 m4 c4 (namesT T) := RdC.below r4 b5
      clear p4 B4 b5
      go_wp2_with fail
      refine (refTexts_any _ _ _ _ _ _ _ _ w5 r4 r5).mono ?_
      rintro e w6 ⟨rfl, k6, rfl⟩
      have bq : Below w5.heap.size w5 (w5.drewN k6) := ⟨rfl, rfl, rfl, Nat.le_refl _, fun _ _ => rfl⟩
      have p6 := (p5.below (rtT_keeps _ _) (kS _ _) bq).swap
      have B6 := below_chain B5 bq
      rw [show decide (namesT T = namesT T) = true by simp]
      clear p5 B5 bq r4 r5
      generalize w5.drewN k6 = w6 at *
      go_wp2_with fail
      refine (api.pos (s := s) (u := z) p6 (rtT_keeps _ _) OK.out hs hz).mono ?_
      rintro e w7 ⟨C7, m7, c7, rfl, r7, p7, b7⟩
      have B7 := below_chain B6 b7
      clear p6 B6 b7
      go_wp2_with fail
      refine (rt_pos p7.swap (kS _ _) hl2 s z).mono ?_
      rintro e w8 ⟨C8, m8, c8, rfl, r8, p8, b8⟩
      have B8 := below_chain B7 b8
      have r7 : RdI w8 C7 m7 c7 (posF T s z) := RdC.below r7 b8
      clear p7 B7 b8
      go_wp2_with fail
      refine (refInts_any _ _ _ _ _ _ _ w8 r7 r8).mono ?_
      rintro e w9 ⟨rfl, k9, rfl⟩
      have bq : Below w8.heap.size w8 (w8.drewN k9) := ⟨rfl, rfl, rfl, Nat.le_refl _, fun _ _ => rfl⟩
      have p9 := (p8.below (rtT_keeps _ _) (kS _ _) bq).swap
      have B9 := below_chain B8 bq
      clear p8 B8 bq r7 r8
      generalize w8.drewN k9 = w9 at *
      go_wp2_with fail
      refine (api.ver (s := s) (u := z) p9 (rtT_keeps _ _) OK.out hs hz).mono ?_
      rintro e w10 ⟨rfl, p10, b10⟩
      have B10 := below_chain B9 b10
      clear p9 B9 b10
      go_wp2_with fail
      refine (rt_pos p10.swap (kS _ _) hl2 s z).mono ?_
      rintro e w11 ⟨C11, m11, c11, rfl, r11, _, b11⟩
      obtain rfl : m11 = (posF T s z).length := r11.len.symm
      have B11 := below_chain B10 b11
      go_wp2_with fail
      go_ret
      exact ⟨by simp, B11⟩
end

end Go.Proofs.Ytlmdkbhcocfhdaa.SmWalk

/-
  Layer 12's statements over the values that come in, given what is asked of the landed streams.
-/
namespace Go.Proofs.Ytlmdkbhcocfhdaa.SmWalk
open Go.RowKit Go.WideShapes Go.ChangeShapes Go.Proofs.Ytlmdkbhcocfhdaa.NumMem Go.Proofs.Ytlmdkbhcocfhdaa.Open

section
variable {St : Nat → Tb → DkWalk.Thing} {Tw : Nat → Tb → Nat → Tb → DkWalk.Thing} {H : Type} {enc : TypeId × Value → H}
set_option maxRecDepth 100000 in
theorem splays_main' (api : TwApi St Tw) (W : World) (base : Nat) (v0 v1 v2 : Value) {d0 d1 d2 : DataW H} {p0 p1 p2 : List MemPlace} (o0 : Value.okWide Try.prog W .any base 22 v0) (o1 : Value.okWide Try.prog W .any base 9 v1) (o2 : Value.okWide Try.prog W .any base 3 v2)
    (h0 : DataW.Trod enc Try.prog W 0 (fun _ => true) true 22 v0 d0 p0) (h1 : DataW.Trod enc Try.prog W 0 (fun _ => true) true 9 v1 d1 p1) (h2 : DataW.Trod enc Try.prog W 0 (fun _ => true) true 3 v2 d2 p2) :
    Calls Try.prog 3 #[v0, v1, v2] W fun e W' => e = .returned (.bool true) ∧ Below W.heap.size W W' := by
  obtain ⟨A, n, cap, fs, rfl, r, w1, w2⟩ := op_ats o0 h0
  obtain ⟨s, rfl, ws⟩ := op_string Try.underlying9 o1 h1
  obtain ⟨z, rfl, wz⟩ := op_i64 Try.underlying3 o2 h2
  exact splays_walk api A n cap fs s z W r w1 w2 ws wz
set_option maxRecDepth 100000 in
theorem whole_main' (api : SApi St) (W : World) (base : Nat) (v0 : Value) {d0 : DataW H} {p0 : List MemPlace} (o0 : Value.okWide Try.prog W .any base 35 v0)
    (h0 : DataW.Trod enc Try.prog W 0 (fun _ => true) true 35 v0 d0 p0) :
    Calls Try.prog 4 #[v0] W fun e W' => e = .returned (.bool true) ∧ Below W.heap.size W W' := by
  obtain ⟨A, n, cap, ss, rfl, r, w1⟩ := op_texts o0 h0
  exact whole_walk api A n cap ss W r w1
set_option maxRecDepth 100000 in
theorem upto_main' (api : SApi St) (W : World) (base : Nat) (v0 v1 v2 : Value) {d0 d1 d2 : DataW H} {p0 p1 p2 : List MemPlace} (o0 : Value.okWide Try.prog W .any base 35 v0) (o1 : Value.okWide Try.prog W .any base 9 v1) (o2 : Value.okWide Try.prog W .any base 3 v2)
    (h0 : DataW.Trod enc Try.prog W 0 (fun _ => true) true 35 v0 d0 p0) (h1 : DataW.Trod enc Try.prog W 0 (fun _ => true) true 9 v1 d1 p1) (h2 : DataW.Trod enc Try.prog W 0 (fun _ => true) true 3 v2 d2 p2) :
    Calls Try.prog 5 #[v0, v1, v2] W fun e W' => e = .returned (.bool true) ∧ Below W.heap.size W W' := by
  obtain ⟨A, n, cap, ss, rfl, r, w1⟩ := op_texts o0 h0
  obtain ⟨s, rfl, ws⟩ := op_string Try.underlying9 o1 h1
  obtain ⟨z, rfl, wz⟩ := op_i64 Try.underlying3 o2 h2
  exact upto_walk api A n cap ss s z W r w1 ws
set_option maxRecDepth 100000 in
theorem refuse_main' (api : SApi St) (W : World) (base : Nat) (v0 v1 v2 : Value) {d0 d1 d2 : DataW H} {p0 p1 p2 : List MemPlace} (o0 : Value.okWide Try.prog W .any base 35 v0) (o1 : Value.okWide Try.prog W .any base 9 v1) (o2 : Value.okWide Try.prog W .any base 3 v2)
    (h0 : DataW.Trod enc Try.prog W 0 (fun _ => true) true 35 v0 d0 p0) (h1 : DataW.Trod enc Try.prog W 0 (fun _ => true) true 9 v1 d1 p1) (h2 : DataW.Trod enc Try.prog W 0 (fun _ => true) true 3 v2 d2 p2) :
    Calls Try.prog 6 #[v0, v1, v2] W fun e W' => e = .returned (.bool true) ∧ Below W.heap.size W W' := by
  obtain ⟨A, n, cap, ss, rfl, r, w1⟩ := op_texts o0 h0
  obtain ⟨s, rfl, ws⟩ := op_string Try.underlying9 o1 h1
  obtain ⟨z, rfl, wz⟩ := op_i64 Try.underlying3 o2 h2
  exact refuse_walk api A n cap ss s z W r w1 ws wz
set_option maxRecDepth 100000 in
theorem order_main' (api : SApi St) (W : World) (base : Nat) (v0 : Value) {d0 : DataW H} {p0 : List MemPlace} (o0 : Value.okWide Try.prog W .any base 35 v0)
    (h0 : DataW.Trod enc Try.prog W 0 (fun _ => true) true 35 v0 d0 p0) :
    Calls Try.prog 7 #[v0] W fun e W' => e = .returned (.bool true) ∧ Below W.heap.size W W' := by
  obtain ⟨A, n, cap, ss, rfl, r, w1⟩ := op_texts o0 h0
  exact order_walk api A n cap ss W r w1
set_option maxRecDepth 100000 in
theorem copies_main' (api : TwApi St Tw) (W : World) (base : Nat) (v0 v1 v2 : Value) {d0 d1 d2 : DataW H} {p0 p1 p2 : List MemPlace} (o0 : Value.okWide Try.prog W .any base 35 v0) (o1 : Value.okWide Try.prog W .any base 9 v1) (o2 : Value.okWide Try.prog W .any base 9 v2)
    (h0 : DataW.Trod enc Try.prog W 0 (fun _ => true) true 35 v0 d0 p0) (h1 : DataW.Trod enc Try.prog W 0 (fun _ => true) true 9 v1 d1 p1) (h2 : DataW.Trod enc Try.prog W 0 (fun _ => true) true 9 v2 d2 p2) :
    Calls Try.prog 8 #[v0, v1, v2] W fun e W' => e = .returned (.bool true) ∧ Below W.heap.size W W' := by
  obtain ⟨A, n, cap, ss, rfl, r, w1⟩ := op_texts o0 h0
  obtain ⟨a, rfl, wa⟩ := op_string Try.underlying9 o1 h1
  obtain ⟨b, rfl, wb⟩ := op_string Try.underlying9 o2 h2
  exact copies_walk api A n cap ss a b W r w1 wa wb
end

end Go.Proofs.Ytlmdkbhcocfhdaa.SmWalk

/-
  Layer 12's mathematics, more: a stream's whole list; which part of it a bound tells; the landed Version's count. No walk here.
-/
namespace Go.Proofs.Ytlmdkbhcocfhdaa.SmWalk
open Go.RowKit Go.Proofs.Ytlmdkbhcocfhdaa.MemRow Go.Proofs.Ytlmdkbhcocfhdaa.Ev Go.Proofs.Ytlmdkbhcocfhdaa.NameMath Go.Proofs.Ytlmdkbhcocfhdaa.NameWalk Go.Proofs.Ytlmdkbhcocfhdaa.EvWalk

def allP (T : Tb) (s : ByteArray) : List Int := (T.filter fun x => decide (x.1 = s)).map (·.2)
theorem allP_nil (s : ByteArray) : allP [] s = [] := rfl
theorem allP_hit (T : Tb) (s : ByteArray) (p : Int) : allP (T ++ [(s, p)]) s = allP T s ++ [p] := by
  unfold allP
  rw [List.filter_append, List.map_append]
  simp
theorem allP_miss (T : Tb) {s t : ByteArray} (h : t ≠ s) (p : Int) : allP (T ++ [(s, p)]) t = allP T t := by
  unfold allP
  rw [List.filter_append, List.map_append]
  have : ¬ s = t := fun e => h e.symm
  simp [this]
theorem namesT_mem {T : Tb} {s : ByteArray} : s ∈ namesT T ↔ ∃ x ∈ T, x.1 = s := by
  unfold namesT
  rw [normTags_mem, List.mem_map]
theorem namesT_up (T : Tb) : Up (namesT T) := normTags_up _
theorem namesT_more {T : Tb} {s : ByteArray} {p : Int} (t : ByteArray) : t ∈ namesT (T ++ [(s, p)]) ↔ t = s ∨ t ∈ namesT T := by
  rw [namesT_mem, namesT_mem]
  constructor
  · rintro ⟨x, hx, rfl⟩
    rcases List.mem_append.1 hx with hx | hx
    · exact .inr ⟨x, hx, rfl⟩
    · rw [List.mem_singleton] at hx
      exact .inl (by rw [hx])
  · rintro (rfl | ⟨x, hx, rfl⟩)
    · exact ⟨(t, p), by simp, rfl⟩
    · exact ⟨x, by simp [hx], rfl⟩
theorem allP_some {T : Tb} {s : ByteArray} (h : s ∈ namesT T) : 0 < (allP T s).length := by
  obtain ⟨x, hx, rfl⟩ := namesT_mem.1 h
  unfold allP
  rw [List.length_map]
  exact List.length_pos_of_mem (List.mem_filter.2 ⟨hx, by simp⟩)
theorem allP_none {T : Tb} {s : ByteArray} (h : ¬ s ∈ namesT T) : allP T s = [] := by
  unfold allP
  rw [List.map_eq_nil_iff, List.filter_eq_nil_iff]
  intro x hx e
  exact h (namesT_mem.2 ⟨x, hx, by simpa using e⟩)
theorem allP_len (T : Tb) (s : ByteArray) : (allP T s).length ≤ T.length := by
  unfold allP
  rw [List.length_map]
  exact List.length_filter_le _ _
theorem namesT_len (T : Tb) : (namesT T).length ≤ T.length := by
  have := normTags_len (T.map (·.1))
  unfold namesT
  rwa [List.length_map] at this
theorem namesT_sz {T : Tb} (h : TOk T) {s : ByteArray} (hs : s ∈ namesT T) : s.size ≤ maxLen := by
  obtain ⟨x, hx, rfl⟩ := namesT_mem.1 hs
  exact h.sz x hx
theorem allP_rise {T : Tb} (h : RiseT T) (s : ByteArray) : (allP T s).Pairwise (· < ·) := by
  unfold allP
  rw [List.pairwise_map]
  exact h.1.sublist List.filter_sublist
theorem posF_all (T : Tb) (s : ByteArray) (u : Int) : posF T s u = (allP T s).filter fun q => decide (q ≤ u) := by
  induction T with
  | nil => rfl
  | cons x T ih =>
    have e : allP (x :: T) s = (if x.1 = s then [x.2] else []) ++ allP T s := by
      unfold allP
      rw [List.filter_cons]
      by_cases h : x.1 = s
      · rw [if_pos (by simpa using h), if_pos h]; rfl
      · rw [if_neg (by simpa using h), if_neg h]; rfl
    rw [posF_cons, e, List.filter_append, ih]
    congr 1
    by_cases h : x.1 = s
    · by_cases h2 : x.2 ≤ u
      · simp [h, h2]
      · simp [h, h2]
    · simp [h]
/-- How many of a rising row are not greater, as a search tells it. -/
def verN (l : List Int) (u : Int) : Nat := l.countP (· < u) + if u ∈ l then 1 else 0
theorem verN_filter {u : Int} : ∀ {l : List Int}, l.Pairwise (· < ·) → (l.filter fun q => decide (q ≤ u)) = l.take (verN l u) ∧ (l.filter fun q => decide (q ≤ u)).length = verN l u
  | [], _ => by simp [verN]
  | a :: l, h => by
    obtain ⟨h1, h2⟩ := List.pairwise_cons.1 h
    obtain ⟨i1, i2⟩ := verN_filter (u := u) h2
    rcases Int.lt_trichotomy a u with hl | rfl | hg
    · have e : verN (a :: l) u = verN l u + 1 := by
        unfold verN
        rw [List.countP_cons_of_pos (by simpa using hl)]
        have : u ∈ a :: l ↔ u ∈ l := by
          rw [List.mem_cons]
          exact ⟨fun h => h.resolve_left (by omega), .inr⟩
        by_cases hm : u ∈ l
        · rw [if_pos hm, if_pos (this.2 hm)]
        · rw [if_neg hm, if_neg fun h => hm (this.1 h)]
      have hle : a ≤ u := by omega
      rw [e, List.take_succ_cons, List.filter_cons, if_pos (by simpa using hle), List.length_cons, ← i1, i2]
      exact ⟨rfl, rfl⟩
    · have hz : (l.filter fun q => decide (q ≤ a)) = [] := List.filter_eq_nil_iff.2 fun q hq => by
        have := h1 q hq
        simp only [decide_eq_true_eq]
        omega
      have hc : l.countP (· < a) = 0 := List.countP_eq_zero.2 fun q hq => by
        have := h1 q hq
        simp only [decide_eq_true_eq]
        omega
      have e : verN (a :: l) a = 1 := by
        unfold verN
        rw [List.countP_cons_of_neg (by simp), hc, if_pos (by simp)]
      rw [e, List.filter_cons, if_pos (by simp), hz]
      exact ⟨by simp, rfl⟩
    · have hz : (l.filter fun q => decide (q ≤ u)) = [] := List.filter_eq_nil_iff.2 fun q hq => by
        have := h1 q hq
        simp only [decide_eq_true_eq]
        omega
      have hc : l.countP (· < u) = 0 := List.countP_eq_zero.2 fun q hq => by
        have := h1 q hq
        simp only [decide_eq_true_eq]
        omega
      have e : verN (a :: l) u = 0 := by
        unfold verN
        rw [List.countP_cons_of_neg (by simp only [decide_eq_true_eq]; omega), hc, if_neg]
        rintro h
        rcases List.mem_cons.1 h with h | h
        · omega
        · have := h1 u h
          omega
      rw [e, List.filter_cons, if_neg (by simp only [decide_eq_true_eq]; omega), hz]
      exact ⟨rfl, rfl⟩
theorem posF_take {T : Tb} (h : RiseT T) (s : ByteArray) (u : Int) : posF T s u = (allP T s).take (verN (allP T s) u) := by rw [posF_all, (verN_filter (allP_rise h s)).1]
theorem posF_ver {T : Tb} (h : RiseT T) (s : ByteArray) (u : Int) : (posF T s u).length = verN (allP T s) u := by rw [posF_all, (verN_filter (allP_rise h s)).2]
theorem verN_le {l : List Int} (h : l.Pairwise (· < ·)) (u : Int) : verN l u ≤ l.length := by
  rw [← (verN_filter h).2]
  exact List.length_filter_le _ _

end Go.Proofs.Ytlmdkbhcocfhdaa.SmWalk

/-
  Contracts of the library's own texts that the landed streams calls: slices.BinarySearch and slices.Clone at []int.
-/
namespace Go.Proofs.Ytlmdkbhcocfhdaa.SmWalk
open Go.RowKit Go.Proofs.Ytlmdkbhcocfhdaa.MemRow Go.Proofs.Ytlmdkbhcocfhdaa.Ev Go.Proofs.Ytlmdkbhcocfhdaa.NameMath Go.Proofs.Ytlmdkbhcocfhdaa.NameWalk Go.Proofs.Ytlmdkbhcocfhdaa.EvWalk Go.Proofs.Ytlmdkbhcocfhdaa.NumMem

set_option maxRecDepth 100000 in
theorem cmpNaN_any (x : Int) (w : World) : Calls Try.prog 34 #[.int .i64 x] w fun e w' => e = .returned (.bool false) ∧ w' = w := by
  have h : (x != x) = false := by simp
  go_enter Try.func34, Try.ntmps34
  go_wp2_with fail
  go_ret
  exact ⟨by simp, rfl⟩
set_option maxRecDepth 100000 in
theorem slNaN_any (x : Int) (w : World) : Calls Try.prog 30 #[.int .i64 x] w fun e w' => e = .returned (.bool false) ∧ w' = w := by
  have h : (x != x) = false := by simp
  go_enter Try.func30, Try.ntmps30
  go_wp2_with fail
  go_ret
  exact ⟨by simp, rfl⟩
set_option maxRecDepth 100000 in
theorem cmpLess_any (x y : Int) (w : World) : Calls Try.prog 29 #[.int .i64 x, .int .i64 y] w fun e w' => e = .returned (.bool (decide (x < y))) ∧ w' = w := by
  go_enter Try.func29, Try.ntmps29
  go_wp2_with (go_at_call 34; refine (cmpNaN_any _ _).mono ?_; rintro e w' ⟨rfl, rfl⟩)
  go_ret
  exact ⟨rfl, rfl⟩

set_option maxHeartbeats 4000000 in
set_option maxRecDepth 100000 in
theorem search_any (A : Option Addr) (n c : Nat) (l : List Int) (x : Int) (w : World) (h : RdI w A n c l) (hn : n ≤ 1000000) (hp : l.Pairwise (· ≤ ·)) :
    Calls Try.prog 25 #[.slice A n c, .int .i64 x] w fun e w' => e = .returned (.tuple #[.int .i64 (l.countP (· < x) : Nat), .bool (decide (x ∈ l))]) ∧ ∃ q, w' = w.drewN q := by
  have hlen := h.len
  have S : Hid (∀ a b, a ≤ b → b < n → l.getD a 0 ≤ l.getD b 0) := Go.Lib.hid (Lib.sorted_at l n (by omega) (by rw [← hlen, List.take_length]; exact hp))
  have EN : ∀ i, i ≤ n → (∀ t, t < i → l.getD t 0 < x) → (∀ t, i ≤ t → t < n → x ≤ l.getD t 0) → l.countP (· < x) = i ∧ decide (x ∈ l) = decide (i < n ∧ l.getD i 0 = x) := fun i hi h1 h2 => by
    obtain ⟨e1, e2⟩ := Lib.search_end l n i x (by omega) hi h1 h2 S.out
    rw [← hlen, List.take_length] at e1 e2
    refine ⟨e1, ?_⟩
    rw [← hlen]
    rw [← e2, List.contains_eq_mem]
  have EN := Go.Lib.hid EN
  have hc : ∀ j, j < n → ∃ b o, A = some ⟨b, o, none⟩ ∧ w.cell? ⟨b, o + j, none⟩ = some (.int .i64 (l.getD j 0)) := fun j hj => by
    obtain ⟨b, o, e, _, k⟩ := RdI.at_ h (by omega)
    exact ⟨b, o, e, k j hj⟩
  have HC := Go.Lib.hid hc
  clear hp hc h
  go_enter Try.func25, Try.ntmps25
  go_wp2_with fail
  go_loopw [7, 8] (fun s7 s8 wr => ∃ lo hi q : Nat, s7 = .int .i64 lo ∧ s8 = .int .i64 hi ∧ lo ≤ hi ∧ hi ≤ n ∧ wr = w.drewN q ∧ Hid ((∀ t, t < lo → l.getD t 0 < x) ∧ (∀ t, hi ≤ t → t < n → x ≤ l.getD t 0))) (fun s7 s8 _ => (intOf s8).toNat - (intOf s7).toNat)
  case atStart => exact ⟨0, n, 0, rfl, rfl, Nat.zero_le _, Nat.le_refl _, rfl, Go.Lib.hid ⟨fun t ht => absurd ht (Nat.not_lt_zero _), fun t h1 h2 => by omega⟩⟩
  case round =>
    obtain ⟨lo, hi, q, rfl, rfl, hlh, hin, rfl, I⟩ := hrel
    by_cases hlt : lo < hi
    · obtain ⟨b, o, rfl, cm⟩ := HC.out ((lo + hi) / 2) (by omega)
      have i1 : (lo : Int) < hi := by omega
      obtain ⟨y, hy⟩ : ∃ y, l.getD ((lo + hi) / 2) 0 = y := ⟨_, rfl⟩
      rw [hy] at cm
      have Y := Go.Lib.hid hy
      clear hy
      by_cases hyx : y < x
      · go_wp2_with (first | (go_at_call 29; refine (cmpLess_any _ _ _).mono ?_; rintro e w' ⟨rfl, rfl⟩))
        go_roundw
        case rel =>
          refine ⟨(lo + hi) / 2 + 1, hi, _, by rw [show ((lo : Int) + (hi : Int)) / 2 + 1 = (((lo + hi) / 2 + 1 : Nat) : Int) by omega], rfl, by omega, hin, rfl, Go.Lib.hid ⟨fun t ht => ?_, I.out.2⟩⟩
          have := S.out t ((lo + hi) / 2) (by omega) (by omega)
          rw [Y.out] at this
          omega
        case measure => simp [intOf]; omega
      · go_wp2_with (first | (go_at_call 29; refine (cmpLess_any _ _ _).mono ?_; rintro e w' ⟨rfl, rfl⟩))
        go_roundw
        case rel =>
          refine ⟨lo, (lo + hi) / 2, _, rfl, by rw [show ((lo : Int) + (hi : Int)) / 2 = (((lo + hi) / 2 : Nat) : Int) by omega], by omega, by omega, rfl, Go.Lib.hid ⟨I.out.1, fun t ht htn => ?_⟩⟩
          have := S.out ((lo + hi) / 2) t ht htn
          rw [Y.out] at this
          omega
        case measure => simp [intOf]; omega
    · obtain rfl : hi = lo := by omega
      have i1 : ¬ (hi : Int) < hi := by omega
      obtain ⟨e1, e2⟩ := EN.out hi hin I.out.1 I.out.2
      have E1 := Go.Lib.hid e1
      have E2 := Go.Lib.hid e2
      clear e1 e2
      by_cases hn2 : hi < n
      · obtain ⟨b, o, rfl, cl⟩ := HC.out hi hn2
        have i2 : (hi : Int) < n := by omega
        obtain ⟨y, hy⟩ : ∃ y, l.getD hi 0 = y := ⟨_, rfl⟩
        rw [hy] at cl
        have Y := Go.Lib.hid hy
        clear hy
        have i3 : (x != x) = false := by simp
        by_cases hyx : y = x
        · subst hyx
          go_wp2_with (first | (go_at_call 30; refine (slNaN_any _ _).mono ?_; rintro e w' ⟨rfl, rfl⟩))
          go_ret2
          refine ⟨?_, _, rfl⟩
          rw [E1.out, E2.out, Y.out, decide_eq_true (show hi < n ∧ y = y from ⟨hn2, rfl⟩)]
          first | rfl | simp [*]
        · 
          have i4 : (y == x) = false := by simpa using hyx
          go_wp2_with (first | (go_at_call 30; refine (slNaN_any _ _).mono ?_; rintro e w' ⟨rfl, rfl⟩))
          go_ret2
          refine ⟨?_, _, rfl⟩
          rw [E1.out, E2.out, Y.out, decide_eq_false (show ¬ (hi < n ∧ y = x) from fun h => hyx h.2)]
          first | rfl | simp [*]
      · have i2 : ¬ (hi : Int) < n := by omega
        go_wp2_with (first | (go_at_call 30; refine (slNaN_any _ _).mono ?_; rintro e w' ⟨rfl, rfl⟩))
        go_ret2
        refine ⟨?_, _, rfl⟩
        rw [E1.out, E2.out, decide_eq_false (show ¬ (hi < n ∧ l.getD hi 0 = x) from fun h => hn2 h.1)]
        first | rfl | simp [*]

set_option maxHeartbeats 4000000 in
set_option maxRecDepth 100000 in
theorem cloneI_any (A : Option Addr) (n c : Nat) (l : List Int) (w : World) (h : RdI w A n c l) (hnil : A = none → n = 0) (hn : n ≤ 1000000) :
    Calls Try.prog 24 #[.slice A n c] w fun e w' => ∃ B m cb, e = .returned (.slice B m cb) ∧ RdI w' B m cb l ∧ OwnC 1 w' w.heap.size 3 B m cb (nums l) ∧ Below w.heap.size w w' := by
  have qn : ∀ W, (binOp .eql 38 (.slice A n c) (.slice none 0 0)).run Try.prog W = .ok (.bool A.isNone) W := fun W => Lib.run_eql_slice_nil W _ _ _ _ _ _ _ Try.underlying38
  have hlen := h.len
  cases A with
  | none =>
    have h0 := hnil rfl
    subst h0
    obtain rfl : l = [] := List.eq_nil_of_length_eq_zero hlen
    go_enter Try.func24, Try.ntmps24
    go_wp2_with fail
    go_ret
    exact ⟨none, 0, 0, rfl, RdC.nil _, OwnC.nil _ _, Below.refl _ _⟩
  | some a =>
    have al : Below w.heap.size w (w.alloc (.cells #[] 3)) := (Below.refl _ _).alloc (Nat.le_refl _) _
    have r2 : RdC 1 (w.alloc (.cells #[] 3)) (some a) n c (nums l) := RdC.below h al
    go_enter Try.func24, Try.ntmps24
    go_wp2_with (at_builtin; refine wpList_copy_cells rfl (.tmp 5) (.tmp 6) 38 rfl 3 (.int .i64 0) 8 Try.underlying38 int_info rfl (by decide) rfl rfl (OwnC.empty w 3 (Nat.le_refl _)) r2 (nums_one l) (by unfold maxLen; omega) (by omega) al.size al ?_; intro A5 c5 w5 o5 b5)
    go_ret
    exact ⟨A5, n, c5, rfl, OwnC.rd o5, o5, b5⟩

end Go.Proofs.Ytlmdkbhcocfhdaa.SmWalk

/-
  Maps by names: a map's entries as a function of texts; a range over it, what has come. No function of the program here.
-/
namespace Go.Proofs.Ytlmdkbhcocfhdaa.NMap
open Go.RowKit Go.Maps Go.Proofs.Ytlmdkbhcocfhdaa.MemRow Go.Proofs.Ytlmdkbhcocfhdaa.Ev Go.Proofs.Ytlmdkbhcocfhdaa.NameMath Go.Proofs.Ytlmdkbhcocfhdaa.NameWalk Go.Proofs.Ytlmdkbhcocfhdaa.EvWalk

/-! ### Keys -/
def keyN (s : ByteArray) : Lit := .string s.data.toList
theorem keyN_inj {a b : ByteArray} (h : keyN a = keyN b) : a = b := by
  unfold keyN at h
  injection h with h
  exact ByteArray.ext (Array.ext' h)
theorem keyN_same (a b : ByteArray) : (keyN a).sameKey (keyN b) = decide (a = b) := by
  by_cases h : a = b
  · subst h
    simp [keyN, Lit.sameKey]
  · rw [decide_eq_false h]
    exact sameKey_ne fun e => h (keyN_inj e)
/-- What is still to come behind the name s. -/
def cutN (left : Lit → Bool) (s : ByteArray) : Lit → Bool := fun z => left z && !z.sameKey (keyN s)
theorem cutN_at (left : Lit → Bool) (s t : ByteArray) : cutN left s (keyN t) = (left (keyN t) && !decide (t = s)) := by
  unfold cutN
  rw [keyN_same]
theorem keyedN : Keyed Try.prog 9 := string_keyed Try.underlying9
theorem keyN_of {s : ByteArray} (h : s.size ≤ maxLen) : keyOf Try.prog 9 (.string s) = some (keyN s) := Go.WideMaps.keyOf_string_mk Try.underlying9 h

/-! ### What has come already -/
def cameN (left : Lit → Bool) (ns : List ByteArray) : List ByteArray := ns.filter fun s => !left (keyN s)
theorem cameN_start {left : Lit → Bool} {ns : List ByteArray} (h : ∀ s ∈ ns, left (keyN s) = true) : cameN left ns = [] :=
  List.filter_eq_nil_iff.2 fun s hs => by rw [h s hs]; decide
theorem cameN_end {left : Lit → Bool} (ns : List ByteArray) (h : ∀ kl, left kl = false) : cameN left ns = ns :=
  List.filter_eq_self.2 fun s _ => by rw [h]; rfl
theorem cameN_mem {left : Lit → Bool} {ns : List ByteArray} {t : ByteArray} : t ∈ cameN left ns ↔ t ∈ ns ∧ left (keyN t) = false := by
  unfold cameN
  rw [List.mem_filter]
  simp
theorem cameN_step {left : Lit → Bool} {ns : List ByteArray} {s : ByteArray} (hs : s ∈ ns) (t : ByteArray) : t ∈ cameN (cutN left s) ns ↔ t = s ∨ t ∈ cameN left ns := by
  rw [cameN_mem, cameN_mem, cutN_at]
  by_cases h : t = s
  · subst h
    simp [hs]
  · simp [h]

/-! ### The map as data -/
section
variable {H : Type}
/-- The map holds just these names, each with its datum. -/
structure NOf (M : DataW H) (ns : List ByteArray) (h : ByteArray → H) : Prop where
  keys : ∀ kl, has M kl = true ↔ ∃ s ∈ ns, kl = keyN s
  at_ : ∀ s ∈ ns, ∀ z, M.atKey (keyN s) z = .held (h s)
theorem NOf.empty (h : ByteArray → H) : NOf (.map []) [] h := ⟨fun kl => ⟨fun h => (by cases h), fun ⟨_, h, _⟩ => (by simp at h)⟩, fun _ h => (by simp at h)⟩
variable {M : DataW H} {ns ns' : List ByteArray} {h h' : ByteArray → H}
theorem NOf.same (o : NOf M ns h) (hn : ∀ s, s ∈ ns' ↔ s ∈ ns) (hk : ∀ s ∈ ns, h' s = h s) : NOf M ns' h' := by
  refine ⟨fun kl => (o.keys kl).trans ⟨fun ⟨s, hs, e⟩ => ⟨s, (hn s).2 hs, e⟩, fun ⟨s, hs, e⟩ => ⟨s, (hn s).1 hs, e⟩⟩, fun s hs z => ?_⟩
  rw [o.at_ s ((hn s).1 hs), hk s ((hn s).1 hs)]
theorem NOf.put (o : NOf M ns h) (hM : IsMap M) {s : ByteArray} (hn : ∀ t, t ∈ ns' ↔ t = s ∨ t ∈ ns) (ho : ∀ t, t ≠ s → h' t = h t) : NOf (M.put (keyN s) (.held (h' s))) ns' h' := by
  refine ⟨fun kl => ?_, fun t ht z => ?_⟩
  · by_cases e : kl = keyN s
    · subst e
      rw [show has (M.put (keyN s) (.held (h' s))) (keyN s) = true from has_put_same (k := .string _) hM trivial _]
      exact ⟨fun _ => ⟨s, (hn s).2 (.inl rfl), rfl⟩, fun _ => rfl⟩
    · rw [has_put_other e, o.keys]
      constructor
      · rintro ⟨t, ht, rfl⟩
        exact ⟨t, (hn t).2 (.inr ht), rfl⟩
      · rintro ⟨t, ht, rfl⟩
        rcases (hn t).1 ht with rfl | ht
        · exact absurd rfl e
        · exact ⟨t, ht, rfl⟩
  · by_cases e : t = s
    · subst e
      exact atKey_put_same (k := .string _) hM trivial _ _
    · rw [atKey_put_other (fun x => e (keyN_inj x)), o.at_ t (((hn t).1 ht).resolve_left e), ho _ e]
theorem NOf.yes (o : NOf M ns h) {s : ByteArray} (hk : s ∈ ns) : has M (keyN s) = true := (o.keys _).2 ⟨s, hk, rfl⟩
theorem NOf.no (o : NOf M ns h) {s : ByteArray} (hk : ¬ s ∈ ns) : has M (keyN s) = false := by
  rw [← Bool.not_eq_true, o.keys]
  rintro ⟨t, ht, e⟩
  rw [keyN_inj e] at hk
  exact hk ht
theorem nodup_keysN (hr : ns.Nodup) : (ns.map keyN).Nodup := by
  unfold List.Nodup at hr ⊢
  rw [List.pairwise_map]
  exact hr.imp fun h1 e => h1 (keyN_inj e)
theorem NOf.perm (o : NOf M ns h) (c : Canon M) (hr : ns.Nodup) : ∃ es, M = .map es ∧ (es.map (·.1)).Perm (ns.map keyN) := by
  obtain ⟨es, rfl, hp, hk⟩ := c
  refine ⟨es, rfl, (List.perm_ext_iff_of_nodup ?_ (nodup_keysN hr)).2 fun kl => ?_⟩
  · unfold List.Nodup
    rw [List.pairwise_map]
    exact apart_of_rising hp
  · have h1 := o.keys kl
    rw [has_eq, List.any_eq_true] at h1
    rw [List.mem_map, List.mem_map]
    constructor
    · rintro ⟨p, hp', rfl⟩
      obtain ⟨f, hf, e⟩ := h1.1 ⟨p, hp', WideAt.sameKey_self (hk p hp')⟩
      exact ⟨f, hf, e.symm⟩
    · rintro ⟨f, hf, rfl⟩
      obtain ⟨p, hp', e⟩ := h1.2 ⟨f, hf, rfl⟩
      exact ⟨p, hp', WideAt.sameKey_eq e⟩
theorem NOf.size (o : NOf M ns h) (c : Canon M) (hr : ns.Nodup) : Maps.size M = ns.length := by
  obtain ⟨es, rfl, hp⟩ := o.perm c hr
  have := hp.length_eq
  rw [size_eq]
  simpa using this
theorem NOf.strs (o : NOf M ns h) (c : Canon M) (hr : ns.Nodup) : (strKeys M).Perm (ns.map fun s => s.data.toList) := by
  obtain ⟨es, rfl, hp⟩ := o.perm c hr
  have := hp.map strOf
  rw [List.map_map, List.map_map] at this
  exact this
end
theorem sorted_strs {ns : List ByteArray} (hr : Up ns) {ss : List (List UInt8)} (hp : ss.Perm (ns.map fun s => s.data.toList)) : (ss.mergeSort leB).map Go.Proofs.encStr = MemRow.strs ns := by
  have h : (ns.map fun s => s.data.toList).Pairwise fun a b => leB a b = true := by
    unfold Up at hr
    rw [List.pairwise_map]
    refine hr.imp fun {a b} h1 => ?_
    rw [less_eq] at h1
    simp only [leB, decide_eq_true_eq] at h1 ⊢
    exact List.le_of_lt h1
  rw [mergeSort_of_perm hp, List.mergeSort_of_pairwise h]
  unfold MemRow.strs
  rw [List.map_map]
  refine List.map_congr_left fun f _ => ?_
  simp [Go.Proofs.encStr]
theorem up_nodupN {ns : List ByteArray} (h : Up ns) : ns.Nodup := h.imp fun h1 => less_ne h1

/-! ### The map in memory -/
section
variable {H : Type}
theorem tightN {w : World} {P : Program} {k : TypeId} {R : Value → Option (DataW H × List MemPlace)} {b n : Nat} {M : DataW H} (h : w.ownsMap P k R b n M) : w.ownsMap P k R b (Maps.size M) M := by
  obtain ⟨es, clock, hb, F, hs, hD⟩ := h
  refine ⟨es, clock, hb, F, ?_, hD⟩
  rw [hD, size_eq, length_sorted]
  simp
theorem isMapN {w : World} {R : Value → Option (DataW H × List MemPlace)} {b n : Nat} {M : DataW H} (h : w.ownsMap Try.prog 9 R b n M) : IsMap M := by
  obtain ⟨es, e, _⟩ := h.canon keyedN
  exact ⟨es, e⟩
theorem run_makeHintN {P : Program} {t k e : TypeId} (hu : P.underlying t = some (.map k e)) (q : IntKind) (n : Int) (w : World) : (Instr.makeMap t (some (.int q n))).run P w = .ok (.map (some w.heap.size)) (w.alloc (.map #[] 0)) := by
  simp [Instr.makeMap, run_underlying hu, asInt, asIntOf, Result.andThen]

variable (w : World) {ops : Array Oper} {rest : List Oper} {o : Oper} {a : Act} {Q : Exit → Act → World → Prop}
/-- The step of a range over a map by names; mkV, inv: the elements' shape; val: the element of a name. -/
theorem wpList_next_ns {β : Type} (R : Value → Option (DataW H × List MemPlace)) (mkV : β → Value) (inv : ∀ v y, R v = some y → ∃ c, v = mkV c) (val : H → Value) (hval : ∀ v x ps, R v = some (.held x, ps) → v = val x)
    (hg : o.guard = none) (it : Operand) (hop : o.op = Op.next it false) {M : DataW H} {ns : List ByteArray} {h : ByteArray → H} (mp : NOf M ns h) (b r n : Nat) (left : Lit → Bool) (cnt : Nat)
    (hit : a.eval it = .pointer (some ⟨r, 0, none⟩)) (hr : w.ranges Try.prog 9 R b r n M left cnt)
    (hDone : cnt = 0 → (∀ kl, left kl = false) → wpList Try.prog ops Q rest (a.put o.dst (.tuple #[.bool false])) w)
    (hMore : ∀ (s : ByteArray), s ∈ ns → ∀ (w' : World) (cnt' : Nat), left (keyN s) = true → s.size ≤ maxLen → w'.ranges Try.prog 9 R b r n M (cutN left s) cnt' → cnt' < cnt → w.grownBy w' (some r) → w'.heap.size = w.heap.size →
      (Instr.entry (.pointer (some ⟨r, 0, none⟩))).run Try.prog w' = .ok (.tuple #[.string s, val (h s)]) w' → wpList Try.prog ops Q rest (a.put o.dst (.tuple #[.bool true, .string s, val (h s)])) w') :
    wpList Try.prog ops Q (o :: rest) a w := by
  refine wpList_next_ranges w hg it hop 9 keyedN R Go.Proofs.encStr mkV (fun key kl hk => by obtain ⟨x, hx, _⟩ := Maps.keyOf_str Try.underlying9 hk; exact ⟨x, hx⟩) inv b r n M left cnt hit hr hDone ?_
  intro x c kl y w' cnt' hkey hlk hv hat hrg hlt hgr hsz hen
  obtain ⟨x', ex, rfl, hxl⟩ := Maps.keyOf_str Try.underlying9 hkey
  obtain rfl := encStr_inj ex
  obtain ⟨s, hs, ek⟩ := (mp.keys _).1 (has_true_of_atKey hat)
  have hx : x = s.data.toList := by
    unfold keyN at ek
    injection ek
  have e1 : Go.Proofs.encStr x = .string s := by
    rw [hx]
  obtain ⟨yd, yp⟩ := y
  have e2 : mkV c = val (h s) := by
    have h1 := hat .nil
    rw [ek, mp.at_ s hs] at h1
    refine hval _ _ yp ?_
    rw [hv]
    simp only at h1
    rw [h1]
  rw [ek] at hlk hrg
  rw [e1, e2] at hen ⊢
  refine hMore s hs w' cnt' hlk ?_ hrg hlt hgr hsz hen
  have := size_list s
  rw [hx] at hxl
  omega
end

end Go.Proofs.Ytlmdkbhcocfhdaa.NMap

/-
  The landed streams in memory: a table's box, its map of names to lists; lists that two tables may share: what an append of one number does to a list, and to those that share it.
-/
namespace Go.Proofs.Ytlmdkbhcocfhdaa.SmWalk
open Go.RowKit Go.Maps Go.Proofs.Ytlmdkbhcocfhdaa.MemRow Go.Proofs.Ytlmdkbhcocfhdaa.Ev Go.Proofs.Ytlmdkbhcocfhdaa.NameMath Go.Proofs.Ytlmdkbhcocfhdaa.NameWalk Go.Proofs.Ytlmdkbhcocfhdaa.EvWalk Go.Proofs.Ytlmdkbhcocfhdaa.NumMem Go.Proofs.Ytlmdkbhcocfhdaa.NMap Go.Proofs.Ytlmdkbhcocfhdaa.DkWalk

/-! ### A list: a slice of numbers -/
structure Hr where
  b : Nat
  n : Nat
  c : Nat
abbrev valL (h : Hr) : Value := .slice (some ⟨h.b, 0, none⟩) h.n h.c
def slR (v : Value) : Option (DataW Hr × List MemPlace) :=
  match v with
  | .slice (some ⟨b, 0, none⟩) n c => some (.held ⟨b, n, c⟩, [])
  | .slice none 0 0 => some (.nil, [])
  | _ => none
theorem slR_some (h : Hr) : slR (valL h) = some (.held h, []) := rfl
theorem slR_none : slR (.slice none 0 0) = some (.nil, []) := rfl
theorem slR_held (v : Value) (h : Hr) (ps : List MemPlace) (e : slR v = some (.held h, ps)) : v = valL h := by
  unfold slR at e
  split at e
  · simp only [Option.some.injEq, Prod.mk.injEq, DataW.held.injEq] at e
    rw [← e.1]
  · simp at e
  · cases e
theorem slR_nil {v : Value} {ps : List MemPlace} (e : slR v = some (.nil, ps)) : v = .slice none 0 0 := by
  unfold slR at e
  split at e
  · simp at e
  · rfl
  · cases e
def mkL (c : Option Hr) : Value := match c with | none => .slice none 0 0 | some h => valL h
theorem mkL_inv (v : Value) (y : DataW Hr × List MemPlace) (h : slR v = some y) : ∃ c, v = mkL c := by
  unfold slR at h
  split at h
  · exact ⟨some ⟨_, _, _⟩, rfl⟩
  · exact ⟨none, rfl⟩
  · cases h

structure LiR (w : World) (F G : Nat → Prop) (h : Hr) (l : List Int) : Prop where
  ex : ∃ cur, w.heap[h.b]? = some (.cells cur 3 (0, 0)) ∧ h.c ≤ cur.size ∧ cur.toList.take h.n = nums l
  len : l.length = h.n
  pos : 0 < h.n
  le : h.n ≤ h.c
  cap : h.c ≤ maxLen
  own : h.n < h.c → F h.b
  gb : G h.b
section
variable {w w' : World} {F F' G G' : Nat → Prop} {h : Hr} {l : List Int}
theorem LiR.rd (r : LiR w F G h l) : RdI w (some ⟨h.b, 0, none⟩) h.n h.c l := by
  obtain ⟨cur, hb, _, ht⟩ := r.ex
  refine RdC.of_block hb (by rw [nums_length, r.len, Nat.mul_one]) r.le r.cap fun i v hi => ?_
  rw [← ht] at hi
  have hlt : i < h.n := by
    have := (List.getElem?_eq_some_iff.1 hi).1
    rw [List.length_take] at this
    omega
  rw [List.getElem?_take_of_lt hlt] at hi
  simpa using hi
theorem LiR.blt (r : LiR w F G h l) : h.b < w.heap.size := by
  obtain ⟨cur, hb, _⟩ := r.ex
  exact (Array.getElem?_eq_some_iff.1 hb).1
theorem LiR.kept (r : LiR w F G h l) (hk : w'.heap[h.b]? = w.heap[h.b]?) : LiR w' F G h l := by
  obtain ⟨cur, hb, hc⟩ := r.ex
  exact ⟨⟨cur, hk.trans hb, hc⟩, r.len, r.pos, r.le, r.cap, r.own, r.gb⟩
theorem LiR.wide (r : LiR w F G h l) (hF : ∀ k, F k → F' k) (hG : ∀ k, G k → G' k) : LiR w F' G' h l := ⟨r.ex, r.len, r.pos, r.le, r.cap, fun e => hF _ (r.own e), hG _ r.gb⟩
theorem LiR.not {g : Nat} {o : Obj} (r : LiR w F G h l) (hg : w.heap[g]? = some o) (ho : ∀ cs T fr, o = .cells cs T fr → T ≠ 3) : h.b ≠ g := by
  intro e
  obtain ⟨cur, hb, _⟩ := r.ex
  rw [e, hg] at hb
  injection hb with hb
  exact ho _ _ _ hb rfl
theorem block_put (w : World) (b i : Nat) (v : Value) {cur : Array Value} {t : TypeId} {fr : Nat × Nat} (hb : w.heap[b]? = some (.cells cur t fr)) : (w.setCell ⟨b, i, none⟩ v).heap[b]? = some (.cells (cur.setIfInBounds i v) t fr) := by
  simp only [World.setCell, Array.getElem?_modify, hb]
  rfl
theorem block_other (w : World) (b i : Nat) (v : Value) {k : Nat} (h : k ≠ b) : (w.setCell ⟨b, i, none⟩ v).heap[k]? = w.heap[k]? := by
  have : b ≠ k := fun e => h e.symm
  simp [World.setCell, Array.getElem?_modify, this]
theorem setGrown (w : World) (g i : Nat) (x : Value) : w.grownBy (w.setCell ⟨g, i, none⟩ x) (some g) := by
  refine ⟨rfl, rfl, rfl, by simp [World.setCell], fun k _ hne => ?_⟩
  exact block_other w g i x fun e => hne (by rw [e])
/-- A number laid behind a list's own ones. -/
theorem LiR.put (r : LiR w F G h l) {b i : Nat} (v : Value) (hi : b = h.b → h.n ≤ i) : LiR (w.setCell ⟨b, i, none⟩ v) F G h l := by
  by_cases e : h.b = b
  · obtain ⟨cur, hb, hc, ht⟩ := r.ex
    have hin := hi e.symm
    subst e
    refine ⟨⟨_, block_put w _ i v hb, by simpa using hc, ?_⟩, r.len, r.pos, r.le, r.cap, r.own, r.gb⟩
    rw [← ht, Array.toList_setIfInBounds, List.take_set_of_le hin]
  · exact r.kept (block_other w b i v e)

/-! ### append(list, p) -/
/-- What was there: a list, or none. -/
def OldL (w : World) (F G : Nat → Prop) (old : Option Hr) (l : List Int) : Prop := (∃ h, old = some h ∧ LiR w F G h l) ∨ (old = none ∧ l = [])
structure AppOut (w w' : World) (F G : Nat → Prop) (old : Option Hr) (l : List Int) (p : Int) (h' : Hr) : Prop where
  li : LiR w' (up F w w') (up G w w') h' (l ++ [p])
  size : w.heap.size ≤ w'.heap.size
  how : (∃ h, old = some h ∧ h.n < h.c ∧ F h.b ∧ h' = ⟨h.b, h.n + 1, h.c⟩ ∧ w' = w.setCell ⟨h.b, h.n, none⟩ (.int .i64 p)) ∨ (Below w.heap.size w w' ∧ w.heap.size ≤ h'.b)
theorem app_room (r : LiR w F G h l) (hs : h.n < h.c) (p : Int) {a : Addr} {c : Nat} (hl : w.cell? (a.add 0) = some (.int .i64 p)) (ty : TypeId) :
    (Builtin.append_ #[38, 38] ty #[valL h, .slice (some a) 1 c]).run Try.prog w = .ok (valL ⟨h.b, h.n + 1, h.c⟩) (w.setCell ⟨h.b, h.n, none⟩ (.int .i64 p)) ∧ AppOut w (w.setCell ⟨h.b, h.n, none⟩ (.int .i64 p)) F G (some h) l p ⟨h.b, h.n + 1, h.c⟩ := by
  have hi := int_info
  have hT := Try.underlying38
  obtain ⟨i, h1, h2, h3, h4⟩ : ∃ i, Try.prog.info? 3 = some i ∧ i.zero = some (.int .i64 0) ∧ i.size = 1 ∧ i.bytes = 8 := by
    cases hq : Try.prog.info? 3 with
    | none => simp [hq] at hi
    | some i => simp [hq] at hi; exact ⟨i, rfl, hi.1, hi.2.1, hi.2.2⟩
  obtain ⟨cur, hb, hc, ht⟩ := r.ex
  have hcell : w.cell? ⟨h.b, h.n, none⟩ = some (cur[h.n]'(by omega)) := by
    rw [cell_of_row w h.b h.n _ _ _ hb, Array.getElem?_eq_getElem (by omega)]
  have hfr : w.frozen? ⟨h.b, h.n, none⟩ = false := by simp [World.frozen?, hb]
  have run := run_append_room_cells (P := Try.prog) w 38 ty 3 i hT h1 h.b 0 h.n h.c a 1 c [.int .i64 p] (by simp [h3]) (fun j u hj => by
    have : j = 0 := by
      have := (List.getElem?_eq_some_iff.1 hj).1
      simpa using this
    subst this
    simp only [List.getElem?_cons_zero, Option.some.injEq] at hj
    rw [← hj]
    exact hl) (fun u hu => by
    rw [List.mem_singleton] at hu
    rw [hu]
    rfl) (by omega) (fun j hj => by
    obtain rfl : j = 0 := by simpa using hj
    simp only [h3, Nat.mul_one, Nat.zero_add, Nat.add_zero, hcell]
    rfl) (fun j hj => by
    obtain rfl : j = 0 := by simpa using hj
    simp only [h3, Nat.mul_one, Nat.zero_add, Nat.add_zero, hfr])
  have e : w.setCells h.b (0 + h.n * i.size) [.int .i64 p] = w.setCell ⟨h.b, h.n, none⟩ (.int .i64 p) := by
    simp only [h3, Nat.mul_one, Nat.zero_add]
    rfl
  rw [e] at run
  have hsz : (w.setCell ⟨h.b, h.n, none⟩ (.int .i64 p)).heap.size = w.heap.size := by simp [World.setCell]
  refine ⟨run, ⟨⟨⟨_, block_put w _ h.n _ hb, by simpa using hc, ?_⟩, by rw [List.length_append, r.len]; rfl, by simp, by simp only; omega, r.cap, fun _ => .inl (r.own hs), .inl r.gb⟩, by omega, .inl ⟨h, rfl, hs, r.own hs, rfl, rfl⟩⟩⟩
  have hn : h.n < cur.toList.length := by simp; omega
  simp only
  rw [Array.toList_setIfInBounds, nums_append, ← ht]
  rw [List.take_add_one, List.getElem?_set_self hn, List.take_set_of_le (Nat.le_refl _)]
  rfl
theorem app_grow {old : Option Hr} (hold : OldL w F G old l) (hfull : ∀ h, old = some h → h.n = h.c) (hlen : l.length ≤ 1000000) (p : Int) {a : Addr} {c : Nat} (hl : w.cell? (a.add 0) = some (.int .i64 p)) (ty : TypeId) :
    ∃ h' w', (Builtin.append_ #[38, 38] ty #[mkL old, .slice (some a) 1 c]).run Try.prog w = .ok (valL h') w' ∧ AppOut w w' F G old l p h' := by
  have hi := int_info
  have hT := Try.underlying38
  obtain ⟨i, h1, h2, h3, h4⟩ : ∃ i, Try.prog.info? 3 = some i ∧ i.zero = some (.int .i64 0) ∧ i.size = 1 ∧ i.bytes = 8 := by
    cases hq : Try.prog.info? 3 with
    | none => simp [hq] at hi
    | some i => simp [hq] at hi; exact ⟨i, rfl, hi.1, hi.2.1, hi.2.2⟩
  have hnew : ∀ j u, [Value.int .i64 p][j]? = some u → w.cell? (a.add j) = some u := fun j u hj => by
    have : j = 0 := by
      have := (List.getElem?_eq_some_iff.1 hj).1
      simpa using this
    subst this
    simp only [List.getElem?_cons_zero, Option.some.injEq] at hj
    rw [← hj]
    exact hl
  have fin : ∀ v' w', w'.ownsRow w.heap.size 3 1 v' (l.length + 1) (nums l ++ [.int .i64 p]) → w.grownBy w' none → ∃ h', v' = valL h' ∧ AppOut w w' F G old l p h' := by
    intro v' w' ho hg
    rcases ho.2 with ⟨rfl, hn⟩ | ⟨g, c2, cur, rfl, hbg, hgb, hnc, hcm, hcs, htk⟩
    · omega
    · refine ⟨⟨g, l.length + 1, c2⟩, rfl, ⟨⟨⟨cur, hgb, by simp only; omega, ?_⟩, by rw [List.length_append]; rfl, by simp, hnc, hcm, fun _ => ?_, ?_⟩, hg.size, .inr ⟨grown_below hg, hbg⟩⟩⟩
      · rw [nums_append, ← Nat.mul_one (l.length + 1)]
        exact htk
      · have := (Array.getElem?_eq_some_iff.1 hgb).1
        exact .inr ⟨hbg, this⟩
      · have := (Array.getElem?_eq_some_iff.1 hgb).1
        exact .inr ⟨hbg, this⟩
  rcases hold with ⟨h, rfl, r⟩ | ⟨rfl, rfl⟩
  · have hn := r.len
    have hc := hfull h rfl
    obtain ⟨v', w', hrun, ho, hg⟩ := run_append_arg_grows (P := Try.prog) w 38 ty 3 i (.int .i64 0) 1 8 hT h1 h2 h3 h4 rfl (by omega) ⟨h.b, 0, none⟩ h.n h.c (nums l) (by rw [nums_length, r.len, Nat.mul_one]) (fun j u hj => by
      obtain ⟨b, o, hA, hcl⟩ := r.rd.2.2.2 r.pos
      injection hA with hA
      rw [hA, add_plain]
      exact hcl j u hj) a 1 c [.int .i64 p] (by simp) hnew (by omega) (by unfold maxLen; omega) (by omega)
    rw [← hn] at ho
    obtain ⟨h', rfl, out⟩ := fin v' w' ho hg
    exact ⟨h', w', hrun, out⟩
  · obtain ⟨v', w', hrun, ho, hg, _⟩ := run_append_own_at (P := Try.prog) w w.heap.size 38 ty 3 i (.int .i64 0) 1 8 hT h1 h2 h3 h4 rfl (by omega) (.slice none 0 0) 0 [] ⟨by simp, .inl ⟨rfl, rfl⟩⟩ a 1 c [.int .i64 p] (by simp) hnew (fun u hu => by
      rw [List.mem_singleton] at hu
      rw [hu]
      rfl) (by unfold maxLen; omega) (by omega) (Nat.le_refl _)
    obtain ⟨h', rfl, out⟩ := fin v' w' (by simpa [nums] using ho) hg
    exact ⟨h', w', hrun, out⟩
theorem app_any {old : Option Hr} (hold : OldL w F G old l) (hlen : l.length ≤ 1000000) (p : Int) {a : Addr} {c : Nat} (hl : w.cell? (a.add 0) = some (.int .i64 p)) (ty : TypeId) :
    ∃ h' w', (Builtin.append_ #[38, 38] ty #[mkL old, .slice (some a) 1 c]).run Try.prog w = .ok (valL h') w' ∧ AppOut w w' F G old l p h' := by
  by_cases hf : ∀ h, old = some h → h.n = h.c
  · exact app_grow hold hf hlen p hl ty
  · rcases hold with ⟨h, rfl, r⟩ | ⟨rfl, rfl⟩
    · have hs : h.n < h.c := by
        have := r.le
        rcases Nat.lt_or_ge h.n h.c with h1 | h1
        · exact h1
        · exact absurd (fun h' e => by injection e with e; rw [← e]; omega) hf
      obtain ⟨run, out⟩ := app_room r hs p hl ty
      exact ⟨_, _, run, out⟩
    · exact absurd (fun h' e => by cases e) hf
theorem wpList_app1 {old : Option Hr} {ops : Array Oper} {rest : List Oper} {o : Oper} {ac : Act} {Q : Exit → Act → World → Prop} (hgd : o.guard = none) (s x : Operand)
    (ho : o.op = .call { callee := .builtin .append, args := #[s, x], argTypes := #[38, 38] })
    {sv : Value} (hs : ac.eval s = sv) (hsv : sv = mkL old) {a : Addr} {c : Nat} (hx : ac.eval x = .slice (some a) 1 c) (hold : OldL w F G old l) (hlen : l.length ≤ 1000000) (p : Int) (hl : w.cell? (a.add 0) = some (.int .i64 p))
    (h : ∀ h' w', AppOut w w' F G old l p h' → wpList Try.prog ops Q rest (ac.put o.dst (.slice (some ⟨h'.b, 0, none⟩) h'.n h'.c)) w') : wpList Try.prog ops Q (o :: rest) ac w := by
  obtain ⟨h', w', hrun, out⟩ := app_any hold hlen p hl o.type
  refine wpList_plain hgd fun _ hK => ?_
  unfold Oper.wp execOp
  simp only [ho, resolve, invoke, builtin, Sem.run_bind, Sem.run_pure, Result.andThen_ok, List.map_toArray, List.map_cons, List.map_nil, hs, hsv, hx]
  rw [hrun]
  exact hK _ _ (h h' w' out)
theorem AppOut.other {old : Option Hr} {p : Int} {h' : Hr} (a : AppOut w w' F G old l p h') {k : Nat} (hk : k < w.heap.size) (hn : ∀ h, old = some h → k ≠ h.b) : w'.heap[k]? = w.heap[k]? := by
  rcases a.how with ⟨h, ho, _, _, _, rfl⟩ | ⟨hb, _⟩
  · exact block_other w _ _ _ (hn h ho)
  · exact hb.block k hk
end

end Go.Proofs.Ytlmdkbhcocfhdaa.SmWalk

/-
  The landed streams in memory: a table, and what Add's stores make of it, and of a table that shares its lists.
-/
namespace Go.Proofs.Ytlmdkbhcocfhdaa.SmWalk
open Go.RowKit Go.Maps Go.Proofs.Ytlmdkbhcocfhdaa.MemRow Go.Proofs.Ytlmdkbhcocfhdaa.Ev Go.Proofs.Ytlmdkbhcocfhdaa.NameMath Go.Proofs.Ytlmdkbhcocfhdaa.NameWalk Go.Proofs.Ytlmdkbhcocfhdaa.EvWalk Go.Proofs.Ytlmdkbhcocfhdaa.NumMem Go.Proofs.Ytlmdkbhcocfhdaa.NMap Go.Proofs.Ytlmdkbhcocfhdaa.DkWalk

/-- The table T behind g: its own blocks F, all blocks that it reads G. -/
structure TbR (w : World) (F G : Nat → Prop) (g : Nat) (T : Tb) (mb : Nat) (M : DataW Hr) (hd : ByteArray → Hr) : Prop where
  box : w.heap[g]? = some (.cells #[.map (some mb), .int .i64 (lastP T)] 48 (0, 0))
  own : w.ownsMap Try.prog 9 slR mb (Maps.size M) M
  nm : NOf M (namesT T) hd
  li : ∀ s ∈ namesT T, LiR w F G (hd s) (allP T s)
  apart : ∀ s ∈ namesT T, ∀ t ∈ namesT T, t ≠ s → (hd s).n < (hd s).c → (hd t).b ≠ (hd s).b
  fg : F g
  fm : F mb
  fG : ∀ k, F k → G k
  lt : ∀ k, G k → k < w.heap.size
/-- Where the first one may still write, the second one reads no more than the first. -/
def Apt (T : Tb) (hd : ByteArray → Hr) (T' : Tb) (hd' : ByteArray → Hr) : Prop := ∀ s ∈ namesT T, ∀ t ∈ namesT T', (hd s).n < (hd s).c → (hd' t).b = (hd s).b → (hd' t).n ≤ (hd s).n
def setHr (hd : ByteArray → Hr) (s : ByteArray) (x : Hr) : ByteArray → Hr := fun t => if t = s then x else hd t
theorem setHr_at (hd : ByteArray → Hr) (s : ByteArray) (x : Hr) : setHr hd s x s = x := if_pos rfl
theorem setHr_ne (hd : ByteArray → Hr) {s t : ByteArray} (x : Hr) (h : t ≠ s) : setHr hd s x t = hd t := if_neg h
section
variable {w w' : World} {F F' G G' : Nat → Prop} {g mb : Nat} {T : Tb} {M : DataW Hr} {hd : ByteArray → Hr}
theorem TbR.c0 (h : TbR w F G g T mb M hd) : w.cell? ⟨g, 0, none⟩ = some (.map (some mb)) := by rw [cell_of_row w g 0 _ _ _ h.box]; rfl
theorem TbR.c1 (h : TbR w F G g T mb M hd) : w.cell? ⟨g, 1, none⟩ = some (.int .i64 (lastP T)) := by rw [cell_of_row w g 1 _ _ _ h.box]; rfl
theorem TbR.frozen (h : TbR w F G g T mb M hd) (i : Nat) : w.frozen? ⟨g, i, none⟩ = false := by simp [World.frozen?, h.box]
theorem TbR.glt (h : TbR w F G g T mb M hd) : g < w.heap.size := h.lt _ (h.fG _ h.fg)
theorem TbR.mlt (h : TbR w F G g T mb M hd) : mb < w.heap.size := h.lt _ (h.fG _ h.fm)
theorem TbR.block (h : TbR w F G g T mb M hd) : ∃ es clock, w.heap[mb]? = some (.map es clock) := by
  obtain ⟨es, clock, hb, _⟩ := h.own
  exact ⟨es, clock, hb⟩
theorem TbR.ne (h : TbR w F G g T mb M hd) : mb ≠ g := by
  obtain ⟨es, clock, hb⟩ := h.block
  intro e
  rw [e, h.box] at hb
  injection hb with hb
  cases hb
theorem TbR.far (h : TbR w F G g T mb M hd) {F' G' : Nat → Prop} {x : Hr} {l : List Int} (r : LiR w F' G' x l) : x.b ≠ g ∧ x.b ≠ mb := by
  obtain ⟨es, clock, hb⟩ := h.block
  exact ⟨r.not h.box fun cs T fr e => by injection e with _ e _; subst e; decide, r.not hb fun cs T fr e => by cases e⟩
theorem TbR.keep (h : TbR w F G g T mb M hd) (hs : w.heap.size ≤ w'.heap.size) (hk : ∀ k, G k → w'.heap[k]? = w.heap[k]?) : TbR w' F G g T mb M hd := by
  obtain ⟨es, clock, hb, ft, hn, hD⟩ := h.own
  exact ⟨(hk g (h.fG _ h.fg)).trans h.box, ⟨es, clock, (hk mb (h.fG _ h.fm)).trans hb, ft, hn, hD⟩, h.nm, fun s hs => (h.li s hs).kept (hk _ (h.li s hs).gb), h.apart, h.fg, h.fm, h.fG, fun k hg => Nat.lt_of_lt_of_le (h.lt k hg) hs⟩
theorem TbR.below (h : TbR w F G g T mb M hd) (hb : Below w.heap.size w w') : TbR w' F G g T mb M hd := h.keep hb.size fun k hk => hb.block k (h.lt k hk)
theorem TbR.wide (h : TbR w F G g T mb M hd) (hs : ∀ k, G k → G' k) (hl : ∀ k, G' k → k < w.heap.size) : TbR w F G' g T mb M hd :=
  ⟨h.box, h.own, h.nm, fun s hk => (h.li s hk).wide (fun _ h => h) hs, h.apart, h.fg, h.fm, fun k hk => hs k (h.fG k hk), hl⟩
theorem TbR.size (h : TbR w F G g T mb M hd) : Maps.size M = (namesT T).length := h.nm.size (h.own.canon keyedN) (up_nodupN (namesT_up T))
theorem TbR.isMap (h : TbR w F G g T mb M hd) : IsMap M := isMapN h.own
/-- What a name is given by the map. -/
def oldOf (T : Tb) (hd : ByteArray → Hr) (s : ByteArray) (old : Option Hr) : Prop := (s ∈ namesT T ∧ old = some (hd s)) ∨ (¬ s ∈ namesT T ∧ old = none)
theorem oldOf_any (T : Tb) (hd : ByteArray → Hr) (s : ByteArray) : ∃ old, oldOf T hd s old := by
  by_cases h : s ∈ namesT T
  · exact ⟨_, .inl ⟨h, rfl⟩⟩
  · exact ⟨_, .inr ⟨h, rfl⟩⟩
theorem TbR.old (h : TbR w F G g T mb M hd) {s : ByteArray} {old : Option Hr} (ho : oldOf T hd s old) : OldL w F G old (allP T s) := by
  rcases ho with ⟨hs, rfl⟩ | ⟨hs, rfl⟩
  · exact .inl ⟨_, rfl, h.li s hs⟩
  · exact .inr ⟨rfl, allP_none hs⟩
theorem zeroSl (W : World) : (zeroValue 38).run Try.prog W = .ok (.slice none 0 0) W := Try.zeroValue38 W
theorem TbR.look (h : TbR w F G g T mb M hd) {s : ByteArray} {old : Option Hr} (ho : oldOf T hd s old) (hs : s.size ≤ maxLen) : (Instr.lookup 46 (.map (some mb)) (.string s) false).run Try.prog w = .ok (mkL old) w := by
  obtain ⟨v, ps, hrun, hv⟩ := h.own.lookup keyedN Try.underlying46 (zeroSl w) slR_none (keyN_of hs)
  rw [hrun]
  congr 1
  rcases ho with ⟨hk, rfl⟩ | ⟨hk, rfl⟩
  · rw [h.nm.at_ s hk] at hv
    exact slR_held _ _ _ hv
  · rw [atKey_of_not_has (h.nm.no hk)] at hv
    exact slR_nil hv
theorem mkL_rd (h : TbR w F G g T mb M hd) {s : ByteArray} {old : Option Hr} (ho : oldOf T hd s old) : ∃ A n c, mkL old = .slice A n c ∧ RdI w A n c (allP T s) ∧ (A = none → n = 0) := by
  rcases ho with ⟨hk, rfl⟩ | ⟨hk, rfl⟩
  · exact ⟨_, _, _, rfl, (h.li s hk).rd, fun e => by cases e⟩
  · rw [allP_none hk]
    exact ⟨none, 0, 0, rfl, RdC.nil _, fun _ => rfl⟩

/-! ### Add's stores -/
def Kin (w w' : World) (F : Nat → Prop) (T : Tb) (hd : ByteArray → Hr) (T1 : Tb) (hd1 : ByteArray → Hr) : Prop :=
  ∀ (F' G' : Nat → Prop) (g' : Nat) (T' : Tb) (mb' : Nat) (M' : DataW Hr) (hd' : ByteArray → Hr), TbR w F' G' g' T' mb' M' hd' → (∀ k, F k → ¬ F' k) → Apt T hd T' hd' → Apt T' hd' T hd → TbR w' F' G' g' T' mb' M' hd' ∧ Apt T1 hd1 T' hd' ∧ Apt T' hd' T1 hd1
theorem Kin.same (hb : Below w.heap.size w w') (F : Nat → Prop) (T : Tb) (hd : ByteArray → Hr) : Kin w w' F T hd T hd := fun _ _ _ _ _ _ _ h _ a1 a2 => ⟨h.below hb, a1, a2⟩
theorem Kin.from (hb : Below w.heap.size w w') {w2 : World} {T1 : Tb} {hd1 : ByteArray → Hr} (h : Kin w' w2 F T hd T1 hd1) : Kin w w2 F T hd T1 hd1 := fun _ _ _ _ _ _ _ h' hd a1 a2 => h _ _ _ _ _ _ _ (h'.below hb) hd a1 a2

variable {w2 w3 : World} {s : ByteArray} {p : Int} {old : Option Hr} {h' : Hr}
theorem TbR.app_box (h : TbR w F G g T mb M hd) (ho : oldOf T hd s old) (ap : AppOut w w2 F G old (allP T s) p h') : w2.heap[g]? = w.heap[g]? ∧ w2.heap[mb]? = w.heap[mb]? := by
  have hne : ∀ x, old = some x → g ≠ x.b ∧ mb ≠ x.b := fun x hx => by
    rcases ho with ⟨hs, rfl⟩ | ⟨_, rfl⟩
    · injection hx with hx
      subst hx
      obtain ⟨h1, h2⟩ := h.far (h.li s hs)
      exact ⟨h1.symm, h2.symm⟩
    · cases hx
  exact ⟨ap.other h.glt fun x hx => (hne x hx).1, ap.other h.mlt fun x hx => (hne x hx).2⟩
theorem TbR.app_own (h : TbR w F G g T mb M hd) (ho : oldOf T hd s old) (ap : AppOut w w2 F G old (allP T s) p h') : w2.ownsMap Try.prog 9 slR mb (Maps.size M) M := by
  obtain ⟨es, clock, hb, ft, hn, hD⟩ := h.own
  exact ⟨es, clock, (h.app_box ho ap).2.trans hb, ft, hn, hD⟩
theorem AppOut.ch (ap : AppOut w w2 F G old (allP T s) p h') : Ch F w w2 := by
  rcases ap.how with ⟨x, _, _, hF, _, rfl⟩ | ⟨hb, _⟩
  · exact Ch.of_grown (setGrown w x.b x.n (.int .i64 p)) fun r e => by injection e with e; subst e; exact .inl hF
  · exact Ch.of_below hb
theorem TbR.added (h : TbR w F G g T mb M hd) (ho : oldOf T hd s old) (ap : AppOut w w2 F G old (allP T s) p h') (hg3 : w2.grownBy w3 (some mb)) {n : Nat} (ho3 : w3.ownsMap Try.prog 9 slR mb n (M.put (keyN s) (.held h'))) :
    TbR (w3.setCell ⟨g, 1, none⟩ (.int .i64 p)) (up F w (w3.setCell ⟨g, 1, none⟩ (.int .i64 p))) (up G w (w3.setCell ⟨g, 1, none⟩ (.int .i64 p))) g (T ++ [(s, p)]) mb (M.put (keyN s) (.held h')) (setHr hd s h') ∧ Ch F w (w3.setCell ⟨g, 1, none⟩ (.int .i64 p)) ∧ Kin w (w3.setCell ⟨g, 1, none⟩ (.int .i64 p)) F T hd (T ++ [(s, p)]) (setHr hd s h') := by
  obtain ⟨e1, e2⟩ := h.app_box ho ap
  have hs4 := setGrown w3 g 1 (.int .i64 p)
  have hne := h.ne
  have glt := h.glt
  have mlt := h.mlt
  have z1 := ap.size
  have z2 := hg3.size
  have z3 := hs4.size
  have b2 := e1.trans h.box
  have b3 := (hg3.block g (by omega) (fun e => hne (by injection e with e; exact e.symm))).trans b2
  have b4 := two_set1 (v := .int .i64 p) b3
  have ch : Ch F w (w3.setCell ⟨g, 1, none⟩ (.int .i64 p)) := (ap.ch.then_grown hg3 fun r e => by injection e with e; subst e; exact .inl (.inl h.fm)).then_grown hs4 fun r e => by injection e with e; subst e; exact .inl (.inl h.fg)
  have m2 : ∃ es clock, w2.heap[mb]? = some (.map es clock) := by
    obtain ⟨es, clock, hb⟩ := h.block
    exact ⟨es, clock, e2.trans hb⟩
  -- a list of the world behind the append stays
  have L2 : ∀ {F' G' : Nat → Prop} {x : Hr} {l : List Int}, LiR w2 F' G' x l → LiR (w3.setCell ⟨g, 1, none⟩ (.int .i64 p)) F' G' x l := fun {F' G' x l} r => by
    have n1 : x.b ≠ g := r.not b2 fun cs T fr e => by injection e with _ e _; subst e; decide
    obtain ⟨es, clock, hb⟩ := m2
    have n2 : x.b ≠ mb := r.not hb fun cs T fr e => by cases e
    have := r.blt
    exact r.kept ((hs4.block _ (by omega) (fun e => n1 (by injection e))).trans (hg3.block _ this (fun e => n2 (by injection e))))
  -- a list of the world ahead of it, where it reads no more than was there
  have L0 : ∀ {F' G' : Nat → Prop} {x : Hr} {l : List Int}, LiR w F' G' x l → (s ∈ namesT T → (hd s).n < (hd s).c → (hd s).b = x.b → x.n ≤ (hd s).n) → LiR (w3.setCell ⟨g, 1, none⟩ (.int .i64 p)) F' G' x l := fun {F' G' x l} r hx => by
    refine L2 ?_
    rcases ap.how with ⟨y, hy, hsp, hF, _, rfl⟩ | ⟨hb, _⟩
    · rcases ho with ⟨hs, rfl⟩ | ⟨_, rfl⟩
      · injection hy with hy
        subst hy
        exact r.put _ fun e => hx hs hsp e
      · cases hy
    · exact r.kept (hb.block _ r.blt)
  have hh : ∀ t ∈ namesT T, (hd t).b < w.heap.size := fun t ht => (h.li t ht).blt
  have hnew : ((s ∈ namesT T ∧ (hd s).n < (hd s).c ∧ F (hd s).b ∧ h' = ⟨(hd s).b, (hd s).n + 1, (hd s).c⟩) ∨ w.heap.size ≤ h'.b) := by
    rcases ap.how with ⟨y, hy, hsp, hF, e, _⟩ | ⟨_, hb⟩
    · rcases ho with ⟨hs, rfl⟩ | ⟨_, rfl⟩
      · injection hy with hy
        subst hy
        exact .inl ⟨hs, hsp, hF, e⟩
      · cases hy
    · exact .inr hb
  refine ⟨⟨?_, tightN (ho3.kept hs4 (fun e => hne (by injection e))), ?_, fun t ht => ?_, fun a ha t ht hta hsp => ?_, .inl h.fg, .inl h.fm, fun k hk => ?_, fun k hk => up_lt h.lt ch.size hk⟩, ch, ?_⟩
  · rw [last_snoc]
    exact b4
  · have := h.nm.put (s := s) (h' := setHr hd s h') h.isMap (ns' := namesT (T ++ [(s, p)])) (fun t => namesT_more t) (fun t ht => setHr_ne _ _ ht)
    rwa [setHr_at] at this
  · by_cases e : t = s
    · subst e
      rw [setHr_at, allP_hit]
      exact (L2 ap.li).wide (fun k hk => up_mono (by omega) hk) (fun k hk => up_mono (by omega) hk)
    · have ht' := ((namesT_more t).1 ht).resolve_left e
      rw [setHr_ne _ _ e, allP_miss T e]
      exact (L0 (h.li t ht') fun hs hsp hb => absurd hb.symm (h.apart s hs t ht' e hsp)).wide (fun k hk => .inl hk) (fun k hk => .inl hk)
  · by_cases e : a = s
    · subst e
      have ht' := ((namesT_more t).1 ht).resolve_left hta
      rw [setHr_at] at hsp ⊢
      rw [setHr_ne _ _ hta]
      rcases hnew with ⟨hs, hsp', _, rfl⟩ | hb
      · exact h.apart a hs t ht' hta hsp'
      · have := hh t ht'
        omega
    · have ha' := ((namesT_more a).1 ha).resolve_left e
      rw [setHr_ne _ _ e] at hsp ⊢
      by_cases e2 : t = s
      · subst e2
        rw [setHr_at]
        rcases hnew with ⟨hs, _, _, rfl⟩ | hb
        · exact h.apart a ha' t hs hta hsp
        · have := hh a ha'
          omega
      · rw [setHr_ne _ _ e2]
        exact h.apart a ha' t (((namesT_more t).1 ht).resolve_left e2) hta hsp
  · rcases hk with hk | hk
    · exact .inl (h.fG k hk)
    · exact .inr hk
  · intro F' G' g' T' mb' M' hd' y hFF a1 a2
    have kn : ∀ k, F' k → (w3.setCell ⟨g, 1, none⟩ (.int .i64 p)).heap[k]? = w.heap[k]? := fun k hk => ch.block k (y.lt k (y.fG k hk)) fun hf => hFF k hf hk
    obtain ⟨es, clock, hb, ft, hn, hD⟩ := y.own
    refine ⟨⟨(kn g' y.fg).trans y.box, ⟨es, clock, (kn mb' y.fm).trans hb, ft, hn, hD⟩, y.nm, fun t ht => L0 (y.li t ht) fun hs hsp e => a1 s hs t ht hsp e.symm, y.apart, y.fg, y.fm, y.fG, fun k hk => Nat.lt_of_lt_of_le (y.lt k hk) ch.size⟩, fun a ha t ht hsp e => ?_, fun t ht a ha hsp e => ?_⟩
    · by_cases ea : a = s
      · subst ea
        rw [setHr_at] at hsp e ⊢
        rcases hnew with ⟨hs, hsp', _, rfl⟩ | hb
        · have := a1 a hs t ht hsp' e
          simp only
          omega
        · have := (y.li t ht).blt
          omega
      · rw [setHr_ne _ _ ea] at hsp e ⊢
        exact a1 a (((namesT_more a).1 ha).resolve_left ea) t ht hsp e
    · by_cases ea : a = s
      · subst ea
        rw [setHr_at] at e ⊢
        rcases hnew with ⟨hs, _, hF, rfl⟩ | hb
        · exact absurd ((y.li t ht).own hsp) (by rw [← e]; exact hFF _ hF)
        · have := (y.li t ht).blt
          omega
      · rw [setHr_ne _ _ ea] at e ⊢
        exact a2 t ht a (((namesT_more a).1 ha).resolve_left ea) hsp e
end

/-! ### Tables as things -/
def StL (g : Nat) (T : Tb) : Thing := fun w G => ∃ F mb M hd, TbR w F G g T mb M hd
/-- Two tables that may share lists. -/
def TwL (g : Nat) (T : Tb) (g' : Nat) (T' : Tb) : Thing := fun w G => ∃ F mb M hd F' mb' M' hd', TbR w F G g T mb M hd ∧ TbR w F' G g' T' mb' M' hd' ∧ (∀ k, F k → ¬ F' k) ∧ Apt T hd T' hd' ∧ Apt T' hd' T hd
theorem stL_keeps (g : Nat) (T : Tb) : Keeps (StL g T) := ⟨fun ⟨F, mb, M, hd, h⟩ hs hk => ⟨F, mb, M, hd, h.keep hs hk⟩, fun ⟨_, _, _, _, h⟩ => h.lt⟩
theorem twL_keeps (g : Nat) (T : Tb) (g' : Nat) (T' : Tb) : Keeps (TwL g T g' T') := ⟨fun ⟨F, mb, M, hd, F', mb', M', hd', h, h', hx⟩ hs hk => ⟨F, mb, M, hd, F', mb', M', hd', h.keep hs hk, h'.keep hs hk, hx⟩, fun ⟨_, _, _, _, _, _, _, _, h, _⟩ => h.lt⟩
theorem twL_swap (g : Nat) (T : Tb) (g' : Nat) (T' : Tb) : Imp (TwL g T g' T') (TwL g' T' g T) := fun _ _ ⟨F, mb, M, hd, F', mb', M', hd', h, h', h1, h2, h3⟩ => ⟨F', mb', M', hd', F, mb, M, hd, h', h, fun k hk hf => h1 k hf hk, h3, h2⟩
theorem twL_fst (g : Nat) (T : Tb) (g' : Nat) (T' : Tb) : Imp (TwL g T g' T') (StL g T) := fun _ _ ⟨F, mb, M, hd, _, _, _, _, h, _⟩ => ⟨F, mb, M, hd, h⟩

end Go.Proofs.Ytlmdkbhcocfhdaa.SmWalk

