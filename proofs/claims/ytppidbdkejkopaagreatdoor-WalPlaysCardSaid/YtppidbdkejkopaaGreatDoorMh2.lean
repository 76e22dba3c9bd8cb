/-
  Joined texts: DkMem, DkRefA, DkRefB, DkRefC, DkRefD, DkRefE, DkRefF, DkRefG, DkRefH, DkRefI, DkOk, DkUp, DlMath, WlName, WlShelf, WlSeg, WlDisk, CrcMath, CrcTurn.
-/
import Derived.Deep.DeepCutAuto
import Derived.Deep.QuietTactic
import Derived.BigQuiet
import Derived.Deep.RegionLaw
import Derived.Deep.RegionHeld
import Derived.Deep.RegionHeldLaw
import Derived.Maps.OwnSet
import Derived.Maps.Ext
import Derived.Maps.RangeWalk
import Derived.Sort.KeysCollected
import Derived.Lib.ItoaNum
import Derived.Shelf.Strconv.Itoa0
import Derived.Shelf.Strconv.Itoa1
import Derived.Shelf.LaysM
import Derived.Shelf.Strconv.Itoa2
import Derived.Shelf.Strconv.Itoa3
import Derived.Test.YtppidbdkejkopaaGreatDoorProg
import Derived.Lib.SmallJoins
import Derived.Lib.AppendIntMem
import Derived.Laws.Concat
import Derived.Test.YtppidbdkejkopaaGreatDoorMh1
namespace Go.Proofs.YtppidbdkejkopaaGreatDoor.DkWalk
open Go.RowKit MemRow Ev NameMath NameWalk EvWalk NumMem
structure Ch (F : Nat → Prop) (w w' : World) : Prop where
  os : w'.os = w.os
  tape : w'.tape = w.tape
  output : w'.output = w.output
  size : w.heap.size ≤ w'.heap.size
  block : ∀ k, k < w.heap.size → ¬ F k → w'.heap[k]? = w.heap[k]?
def up (F : Nat → Prop) (w w' : World) (k : Nat) : Prop := F k ∨ (w.heap.size ≤ k ∧ k < w'.heap.size)
section
variable {F G : Nat → Prop} {w w1 w' : World}
theorem Ch.refl (F : Nat → Prop) (w : World) : Ch F w w := ⟨rfl, rfl, rfl, Nat.le_refl _, fun _ _ _ => rfl⟩
theorem Ch.trans (h : Ch F w w1) (k : Ch (up F w w1) w1 w') : Ch F w w' :=
  ⟨k.os.trans h.os, k.tape.trans h.tape, k.output.trans h.output, Nat.le_trans h.size k.size, fun i hi hn => (k.block i (Nat.lt_of_lt_of_le hi h.size) (fun hu => by
    rcases hu with hu | hu
    · exact hn hu
    · omega)).trans (h.block i hi hn)⟩
theorem Ch.wide (h : Ch F w w') (hs : ∀ k, F k → G k) : Ch G w w' := ⟨h.os, h.tape, h.output, h.size, fun k hk hn => h.block k hk fun hf => hn (hs k hf)⟩
theorem Ch.of_below (h : Below w.heap.size w w') : Ch F w w' := ⟨h.os, h.tape, h.output, h.size, fun k hk _ => h.block k hk⟩
theorem Ch.of_grown {row : Option Nat} (h : w.grownBy w' row) (hr : ∀ r, row = some r → F r ∨ w.heap.size ≤ r) : Ch F w w' :=
  ⟨h.os, h.tape, h.output, h.size, fun k hk hn => h.block k hk fun e => by
    rcases hr k e.symm with h1 | h1
    · exact hn h1
    · omega⟩
theorem Ch.then_below (h : Ch F w w1) (k : Below w1.heap.size w1 w') : Ch F w w' := h.trans (Ch.of_below k)
theorem Ch.then_grown {row : Option Nat} (h : Ch F w w1) (k : w1.grownBy w' row) (hr : ∀ r, row = some r → up F w w1 r ∨ w1.heap.size ≤ r) : Ch F w w' := h.trans (Ch.of_grown k hr)
theorem up_mono (hs : w1.heap.size ≤ w'.heap.size) {k : Nat} (h : up F w w1 k) : up F w w' k := by
  rcases h with h | h
  · exact .inl h
  · exact .inr ⟨h.1, Nat.lt_of_lt_of_le h.2 hs⟩
theorem up_up (h1 : w.heap.size ≤ w1.heap.size) (h2 : w1.heap.size ≤ w'.heap.size) {k : Nat} (h : up (up F w w1) w1 w' k) : up F w w' k := by
  rcases h with h | h
  · exact up_mono h2 h
  · exact .inr ⟨by omega, h.2⟩
theorem up_lt (hF : ∀ k, F k → k < w.heap.size) (hs : w.heap.size ≤ w'.heap.size) {k : Nat} (h : up F w w' k) : k < w'.heap.size := by
  rcases h with h | h
  · exact Nat.lt_of_lt_of_le (hF k h) hs
  · exact h.2
end
theorem own_keep {k : Nat} {w w' : World} {base : Nat} {t : TypeId} {A : Option Addr} {n cap : Nat} {cs : List Value} (h : OwnC k w base t A n cap cs) (hk : ∀ a, A = some a → w'.heap[a.block]? = w.heap[a.block]?) : OwnC k w' base t A n cap cs := by
  refine ⟨h.1, ?_⟩
  rcases h.2 with h2 | ⟨g, c, cur, hv, hb, hg, rest⟩
  · exact .inl h2
  · have e1 : A = some ⟨g, 0, none⟩ := by injection hv
    exact .inr ⟨g, c, cur, hv, hb, (hk ⟨g, 0, none⟩ e1).trans hg, rest⟩
theorem rd_keep {w w' : World} {A : Option Addr} {n cap : Nat} {l : List UInt8} (h : Rd w A n cap l) (hk : ∀ a, A = some a → w'.heap[a.block]? = w.heap[a.block]?) : Rd w' A n cap l :=
  h.keep fun b o hA _ i _ => World.cell?_of_block (w := w) (a := ⟨b, o + i, none⟩) (hk ⟨b, o, none⟩ hA)
theorem own8_keep {w w' : World} {base : Nat} {t : TypeId} {A : Option Addr} {n cap : Nat} {l : List UInt8} (h : Own w base t A n cap l) (hk : ∀ a, A = some a → w'.heap[a.block]? = w.heap[a.block]?) : Own w' base t A n cap l := own_keep (k := 1) (cs := cellsOf l) h hk
theorem own8_grown {w w' : World} {base : Nat} {t : TypeId} {A : Option Addr} {n cap : Nat} {l : List UInt8} {row : Option Nat} (h : Own w base t A n cap l) (hg : w.grownBy w' row) (hne : ∀ a, A = some a → some a.block ≠ row) : Own w' base t A n cap l := OwnC.grown (k := 1) (cs := cellsOf l) h hg hne
theorem own8_lower {w : World} {base : Nat} {t : TypeId} {A : Option Addr} {n cap : Nat} {l : List UInt8} (h : Own w base t A n cap l) : Own w 0 t A n cap l := by
  refine ⟨h.1, ?_⟩
  rcases h.2 with h2 | ⟨g, c, cur, hv, _, rest⟩
  · exact .inl h2
  · exact .inr ⟨g, c, cur, hv, Nat.zero_le _, rest⟩
theorem own_not {k : Nat} {w : World} {base : Nat} {t T : TypeId} {A : Option Addr} {n cap g : Nat} {cs : List Value} {x : Array Value} {fr : Nat × Nat} (h : OwnC k w base t A n cap cs) (hg : w.heap[g]? = some (.cells x T fr)) (ht : t ≠ T) : ∀ a, A = some a → a.block ≠ g := by
  intro a ha e
  rcases h.2 with ⟨hv, _⟩ | ⟨g', c, cur, hv, _, hg', _⟩
  · rw [ha] at hv
    cases hv
  · have e1 : A = some ⟨g', 0, none⟩ := by injection hv
    rw [ha] at e1
    injection e1 with e1
    rw [e1] at e
    simp only at e
    rw [e, hg] at hg'
    injection hg' with hg'
    injection hg' with _ e3
    exact ht e3.symm
theorem own8_not {w : World} {base : Nat} {t T : TypeId} {A : Option Addr} {n cap g : Nat} {l : List UInt8} {x : Array Value} {fr : Nat × Nat} (h : Own w base t A n cap l) (hg : w.heap[g]? = some (.cells x T fr)) (ht : t ≠ T) : ∀ a, A = some a → a.block ≠ g := own_not (k := 1) (cs := cellsOf l) h hg ht
def FlsR (w : World) (F : Nat → Prop) : List Fl → List Value → Prop
  | [], cs => cs = []
  | f :: fs, cs => ∃ B nb cb cs', cs = .string f.name :: .slice B nb cb :: .int .i64 f.safe :: cs' ∧ Own w 0 5 B nb cb f.b ∧ (∀ a, B = some a → F a.block) ∧ FlsR w F fs cs'
theorem FlsR.map {w w' : World} {F G : Nat → Prop} (h1 : ∀ (A : Option Addr) (n c : Nat) (l : List UInt8), Own w 0 5 A n c l → (∀ a, A = some a → F a.block) → Own w' 0 5 A n c l) (h2 : ∀ k, F k → G k) : ∀ (fs : List Fl) (cs : List Value), FlsR w F fs cs → FlsR w' G fs cs
  | [], _, h => h
  | _ :: fs, _, ⟨B, nb, cb, cs', e, r, hb, h⟩ => ⟨B, nb, cb, cs', e, h1 _ _ _ _ r hb, fun a ha => h2 _ (hb a ha), FlsR.map h1 h2 fs cs' h⟩
theorem FlsR.snoc {w : World} {F : Nat → Prop} {f : Fl} {B : Option Addr} {nb cb : Nat} (r : Own w 0 5 B nb cb f.b) (hb : ∀ a, B = some a → F a.block) : ∀ (fs : List Fl) (cs : List Value), FlsR w F fs cs → FlsR w F (fs ++ [f]) (cs ++ [.string f.name, .slice B nb cb, .int .i64 f.safe])
  | [], cs, h => by
    obtain rfl : cs = [] := h
    exact ⟨B, nb, cb, [], rfl, r, hb, rfl⟩
  | x :: fs, cs, ⟨B1, n1, c1, cs', hc, p, q, h⟩ => by
    subst hc
    exact ⟨B1, n1, c1, cs' ++ [.string f.name, .slice B nb cb, .int .i64 f.safe], rfl, p, q, FlsR.snoc r hb fs cs' h⟩
theorem FlsR.at_ {w : World} {F : Nat → Prop} : ∀ (fs : List Fl) (cs : List Value), FlsR w F fs cs → ∀ i, i < fs.length →
    ∃ B nb cb, cs[i * 3]? = some (.string (fs.getD i noFl).name) ∧ cs[i * 3 + 1]? = some (.slice B nb cb) ∧ cs[i * 3 + 2]? = some (.int .i64 (fs.getD i noFl).safe) ∧ Own w 0 5 B nb cb (fs.getD i noFl).b ∧ ∀ a, B = some a → F a.block
  | [], _, _, i, hi => by simp at hi
  | f :: fs, cs, ⟨B, nb, cb, cs', hc, r, hb, h⟩, i, hi => by
    subst hc
    cases i with
    | zero => exact ⟨B, nb, cb, rfl, rfl, rfl, r, hb⟩
    | succ i =>
      obtain ⟨B1, n1, c1, q0, q1, q2, p, pb⟩ := FlsR.at_ fs cs' h i (by simpa using hi)
      have e3 : (i + 1) * 3 = i * 3 + 3 := by omega
      rw [e3]
      exact ⟨B1, n1, c1, by simpa using q0, by simpa using q1, by simpa using q2, by simpa using p, pb⟩
theorem FlsR.append {w : World} {F : Nat → Prop} : ∀ (fs : List Fl) (cs : List Value) (gs : List Fl) (ds : List Value), FlsR w F fs cs → FlsR w F gs ds → FlsR w F (fs ++ gs) (cs ++ ds)
  | [], cs, gs, ds, h, h' => by
    obtain rfl : cs = [] := h
    exact h'
  | f :: fs, cs, gs, ds, ⟨B, nb, cb, cs', hc, r, hb, h⟩, h' => by
    subst hc
    exact ⟨B, nb, cb, cs' ++ ds, rfl, r, hb, FlsR.append fs cs' gs ds h h'⟩
theorem FlsR.take {w : World} {F : Nat → Prop} : ∀ (fs : List Fl) (cs : List Value) (k : Nat), FlsR w F fs cs → FlsR w F (fs.take k) (cs.take (k * 3))
  | [], cs, k, h => by
    obtain rfl : cs = [] := h
    simp [FlsR]
  | f :: fs, cs, 0, h => by simp [FlsR]
  | f :: fs, cs, k + 1, ⟨B, nb, cb, cs', hc, r, hb, h⟩ => by
    subst hc
    have e3 : (k + 1) * 3 = k * 3 + 3 := by omega
    rw [e3]
    exact ⟨B, nb, cb, cs'.take (k * 3), by simp, r, hb, FlsR.take fs cs' k h⟩
theorem FlsR.drop {w : World} {F : Nat → Prop} : ∀ (fs : List Fl) (cs : List Value) (k : Nat), FlsR w F fs cs → FlsR w F (fs.drop k) (cs.drop (k * 3))
  | [], cs, k, h => by
    obtain rfl : cs = [] := h
    simp [FlsR]
  | f :: fs, cs, 0, h => by simpa using h
  | f :: fs, cs, k + 1, ⟨B, nb, cb, cs', hc, r, hb, h⟩ => by
    subst hc
    have e3 : (k + 1) * 3 = k * 3 + 3 := by omega
    rw [e3]
    simpa using FlsR.drop fs cs' k h
structure RefAt (w : World) (g : Nat) (D : Dk) (F : Nat → Prop) (A : Option Addr) (n cap : Nat) (cs : List Value) : Prop where
  box : w.heap[g]? = some (.cells #[.int .i64 D.quota, .int .i64 D.left, .slice A n cap] 75 (0, 0))
  own : OwnC 3 w 0 99 A n cap cs
  len : D.fs.length = n
  fls : FlsR w F D.fs cs
  fg : F g
  fa : ∀ a, A = some a → F a.block
  lt : ∀ k, F k → k < w.heap.size
section
variable {w w' : World} {g : Nat} {D : Dk} {F G : Nat → Prop} {A : Option Addr} {n cap : Nat} {cs : List Value}
theorem RefAt.keep (h : RefAt w g D F A n cap cs) (hs : w.heap.size ≤ w'.heap.size) (hk : ∀ k, F k → w'.heap[k]? = w.heap[k]?) : RefAt w' g D F A n cap cs :=
  ⟨(hk g h.fg).trans h.box, own_keep h.own fun a ha => hk _ (h.fa a ha), h.len, FlsR.map (fun _ _ _ _ r hb => own8_keep r fun a ha => hk _ (hb a ha)) (fun _ hf => hf) _ _ h.fls, h.fg, h.fa, fun k hf => Nat.lt_of_lt_of_le (h.lt k hf) hs⟩
theorem RefAt.below (h : RefAt w g D F A n cap cs) (hb : Below w.heap.size w w') : RefAt w' g D F A n cap cs := h.keep hb.size fun k hf => hb.block k (h.lt k hf)
theorem RefAt.wide (h : RefAt w g D F A n cap cs) (hs : ∀ k, F k → G k) (hl : ∀ k, G k → k < w.heap.size) : RefAt w g D G A n cap cs :=
  ⟨h.box, h.own, h.len, FlsR.map (fun _ _ _ _ r _ => r) hs _ _ h.fls, hs _ h.fg, fun a ha => hs _ (h.fa a ha), hl⟩
theorem RefAt.c0 (h : RefAt w g D F A n cap cs) : w.cell? ⟨g, 0, none⟩ = some (.int .i64 D.quota) := by rw [cell_of_row w g 0 _ _ _ h.box]; rfl
theorem RefAt.c1 (h : RefAt w g D F A n cap cs) : w.cell? ⟨g, 1, none⟩ = some (.int .i64 D.left) := by rw [cell_of_row w g 1 _ _ _ h.box]; rfl
theorem RefAt.c2 (h : RefAt w g D F A n cap cs) : w.cell? ⟨g, 2, none⟩ = some (.slice A n cap) := by rw [cell_of_row w g 2 _ _ _ h.box]; rfl
theorem RefAt.frozen (h : RefAt w g D F A n cap cs) (i : Nat) : w.frozen? ⟨g, i, none⟩ = false := by simp [World.frozen?, h.box]
theorem RefAt.files (h : RefAt w g D F A n cap cs) {i : Nat} (hi : i < n) : ∃ b o B nb cb, A = some ⟨b, o, none⟩ ∧ w.cell? ⟨b, o + i * 3, none⟩ = some (.string (D.fs.getD i noFl).name) ∧ w.cell? ⟨b, o + i * 3 + 1, none⟩ = some (.slice B nb cb) ∧ w.cell? ⟨b, o + i * 3 + 2, none⟩ = some (.int .i64 (D.fs.getD i noFl).safe) ∧ Own w 0 5 B nb cb (D.fs.getD i noFl).b ∧ ∀ a, B = some a → F a.block := by
  obtain ⟨b, o, hA, _, hc⟩ := RdC.at_ (OwnC.rd h.own) (by omega) (by omega)
  obtain ⟨B, nb, cb, q0, q1, q2, r, hb⟩ := FlsR.at_ _ _ h.fls i (by rw [h.len]; exact hi)
  exact ⟨b, o, B, nb, cb, hA, hc _ _ q0, by rw [Nat.add_assoc]; exact hc _ _ q1, by rw [Nat.add_assoc]; exact hc _ _ q2, r, hb⟩
theorem RefAt.le (h : RefAt w g D F A n cap cs) : n ≤ maxLen := RdC.le (OwnC.rd h.own)
end
def RefIs (w : World) (g : Nat) (D : Dk) (F : Nat → Prop) : Prop := ∃ A n cap cs, RefAt w g D F A n cap cs
end Go.Proofs.YtppidbdkejkopaaGreatDoor.DkWalk
namespace Go.Proofs.YtppidbdkejkopaaGreatDoor.DkWalk
open Go.RowKit MemRow Ev NameMath NameWalk EvWalk NumMem
def chN (c : UInt8) : Bool := decide ((97 ≤ c.toNat ∧ c.toNat ≤ 122) ∨ (48 ≤ c.toNat ∧ c.toNat ≤ 57) ∨ c.toNat = 95)
def mayN (s : ByteArray) : Bool := s.data.toList.all chN && decide (1 ≤ s.size ∧ s.size ≤ 20)
theorem take_byte (s : ByteArray) (j : Nat) (h : j < s.size) : s.data.toList.take (j + 1) = s.data.toList.take j ++ [s[j]'h] := by
  have hl : j < s.data.toList.length := by have := size_list s; omega
  rw [List.take_succ_eq_append_getElem hl]
  simp
  rfl
set_option maxHeartbeats 4000000 in
set_option maxRecDepth 100000 in
theorem refMayN_any (s : ByteArray) (w : World) (hs : s.size ≤ maxLen) :
    Calls Tryz.prog 87 #[.string s] w fun e w' => e = .returned (.bool (mayN s)) ∧ w = w' := by
  have hsz := size_list s
  unfold maxLen at hs
  generalize hR : mayN s = R
  have HR := Go.Lib.hid hR
  have HSZ := Go.Lib.hid hsz
  clear hR hsz
  go_enter Tryz.func87, Tryz.ntmps87
  go_wp2_with fail
  go_loopw [3] (fun i wr => ∃ j : Nat, j ≤ s.size ∧ i = .int .i64 j ∧ Hid ((s.data.toList.take j).all chN = true) ∧ w = wr) (fun i _ => s.size - (intOf i).toNat)
  case atStart => exact ⟨0, Nat.zero_le _, rfl, Go.Lib.hid rfl, rfl⟩
  case round =>
    obtain ⟨j, hj, rfl, HQ, rfl⟩ := hrel
    by_cases hlt : j < s.size
    · have i1 : (j : Int) < s.size := by omega
      have i0 : (0 : Int) ≤ j := by omega
      have HT := Go.Lib.hid (take_byte s j hlt)
      go_upto_region 5 with (fail)
      generalize hc : s[j]'hlt = c at *
      have hch : chN c = decide ((97 ≤ c.toNat ∧ c.toNat ≤ 122) ∨ (48 ≤ c.toNat ∧ c.toNat ≤ 57) ∨ c.toNat = 95) := rfl
      have hx := UInt8.toNat_lt c
      have HA : Hid ((s.data.toList.take (j + 1)).all chN = chN c) := Go.Lib.hid (by rw [HT.out, List.all_append, HQ.out]; simp)
      have HM : Hid (chN c = false → mayN s = false) := Go.Lib.hid (fun h => by
        have h1 := HA.out
        rw [h] at h1
        unfold mayN
        cases ha : s.data.toList.all chN with
        | false => rfl
        | true =>
          exfalso
          have h2 : (s.data.toList.take (j + 1)).all chN = true := List.all_eq_true.2 fun x hx => List.all_eq_true.1 ha x (List.mem_of_mem_take hx)
          rw [h2] at h1
          cases h1)
      clear hc HT
      generalize chN c = b at *
      generalize c.toNat = x at *
      have HB := Go.Lib.hid hch
      clear hch
      go_cut [32] (fun v wx => v = .bool (!b) ∧ w = wx)
      case first =>
        have cases5 : (97 ≤ x ∧ x ≤ 122) ∨ 122 < x ∨ x < 48 ∨ (48 ≤ x ∧ x ≤ 57) ∨ (57 < x ∧ x < 97) := by omega
        rcases cases5 with ⟨h1, h2⟩ | h1 | h1 | ⟨h1, h2⟩ | ⟨h1, h2⟩
        · have hb : b = true := by rw [HB.out]; exact decide_eq_true (by omega)
          subst hb
          have k1 : (97 : Int) ≤ x := by omega
          have k2 : (x : Int) ≤ 122 := by omega
          go_wp2_with fail
          go_meet
          exact ⟨rfl, rfl⟩
        · have hb : b = false := by rw [HB.out]; exact decide_eq_false (by omega)
          subst hb
          have k1 : (97 : Int) ≤ x := by omega
          have k2 : ¬ (x : Int) ≤ 122 := by omega
          have k3 : (48 : Int) ≤ x := by omega
          have k4 : ¬ (x : Int) ≤ 57 := by omega
          have k6 : ((x : Int) == 95) = false := by rw [beq_eq_false_iff_ne]; omega
          go_wp2_with fail
          go_meet
          exact ⟨by simp, rfl⟩
        · have hb : b = false := by rw [HB.out]; exact decide_eq_false (by omega)
          subst hb
          have k1 : ¬ (97 : Int) ≤ x := by omega
          have k3 : ¬ (48 : Int) ≤ x := by omega
          have k6 : ((x : Int) == 95) = false := by rw [beq_eq_false_iff_ne]; omega
          go_wp2_with fail
          go_meet
          exact ⟨by simp, rfl⟩
        · have hb : b = true := by rw [HB.out]; exact decide_eq_true (by omega)
          subst hb
          have k1 : ¬ (97 : Int) ≤ x := by omega
          have k3 : (48 : Int) ≤ x := by omega
          have k4 : (x : Int) ≤ 57 := by omega
          go_wp2_with fail
          go_meet
          exact ⟨rfl, rfl⟩
        · have k1 : ¬ (97 : Int) ≤ x := by omega
          have k3 : (48 : Int) ≤ x := by omega
          have k4 : ¬ (x : Int) ≤ 57 := by omega
          by_cases h95 : x = 95
          · subst h95
            have hb : b = true := by rw [HB.out]; rfl
            subst hb
            go_wp2_with fail
            go_meet
            exact ⟨rfl, rfl⟩
          · have hb : b = false := by rw [HB.out]; exact decide_eq_false (by omega)
            subst hb
            have k6 : ((x : Int) == 95) = false := by rw [beq_eq_false_iff_ne]; omega
            go_wp2_with fail
            go_meet
            exact ⟨by simp, rfl⟩
      case rest =>
        obtain ⟨rfl, rfl⟩ := hcut
        cases b with
        | true =>
          go_wp2_with fail
          go_roundw
          case rel => exact ⟨j + 1, by omega, by go_num, HA, by trivial⟩
          case measure => simp [intOf]; omega
        | false =>
          have hr : R = false := by rw [← HR.out]; exact HM.out rfl
          subst hr
          go_wp2_with fail
          go_ret
          exact ⟨rfl, rfl⟩
    · obtain rfl : s.size = j := by omega
      have hall : s.data.toList.all chN = true := by
        have h1 := HQ.out
        rwa [HSZ.out, List.take_length] at h1
      have hr : R = decide (1 ≤ s.size ∧ s.size ≤ 20) := by rw [← HR.out]; unfold mayN; rw [hall]; rfl
      have HRR := Go.Lib.hid hr
      clear hall hr HQ HR HSZ
      by_cases h1 : 1 ≤ s.size
      · have k1 : (1 : Int) ≤ s.size := by omega
        by_cases h2 : s.size ≤ 20
        · have k2 : (s.size : Int) ≤ 20 := by omega
          obtain rfl : R = true := by rw [HRR.out]; exact decide_eq_true ⟨h1, h2⟩
          go_wp2_with fail
          go_ret
          exact ⟨rfl, rfl⟩
        · have k2 : ¬ (s.size : Int) ≤ 20 := by omega
          obtain rfl : R = false := by rw [HRR.out]; exact decide_eq_false (fun h => h2 h.2)
          go_wp2_with fail
          go_ret
          exact ⟨rfl, rfl⟩
      · have k1 : ¬ (1 : Int) ≤ s.size := by omega
        obtain rfl : R = false := by rw [HRR.out]; exact decide_eq_false (fun h => h1 h.1)
        go_wp2_with fail
        go_ret
        exact ⟨rfl, rfl⟩
def newD (q : Int) : Dk := ⟨max q 0, -1, []⟩
set_option maxRecDepth 100000 in
theorem refNew_any (q : Int) (w : World) (hq : -9223372036854775808 ≤ q ∧ q ≤ 9223372036854775807) :
    Calls Tryz.prog 12 #[.int .i64 q] w fun e w' => ∃ g, e = .returned (.pointer (some ⟨g, 0, none⟩)) ∧ RefIs w' g (newD q) (fun k => w.heap.size ≤ k ∧ k < w'.heap.size) ∧ Below w.heap.size w w' := by
  have b1 : Below w.heap.size w (w.alloc (.cells #[.int .i64 (max q 0), .int .i64 (-1), .slice none 0 0] 75)) := (Below.refl _ _).alloc (Nat.le_refl _) _
  have h1 : RefIs (w.alloc (.cells #[.int .i64 (max q 0), .int .i64 (-1), .slice none 0 0] 75)) w.heap.size (newD q) (fun k => w.heap.size ≤ k ∧ k < (w.alloc (.cells #[.int .i64 (max q 0), .int .i64 (-1), .slice none 0 0] 75)).heap.size) :=
    ⟨none, 0, 0, [], heap_alloc_new w _, OwnC.nil _ _, rfl, rfl, ⟨Nat.le_refl _, by simp⟩, fun a ha => (by cases ha), fun k hk => hk.2⟩
  by_cases h0 : q ≤ 0
  · have hm : max q 0 = 0 := by omega
    rw [hm] at b1 h1
    go_enter Tryz.func12, Tryz.ntmps12
    go_wp2
    go_ret
    exact ⟨_, rfl, h1, b1⟩
  · have hm : max q 0 = q := by omega
    rw [hm] at b1 h1
    go_enter Tryz.func12, Tryz.ntmps12
    go_wp2
    go_ret
    exact ⟨_, rfl, h1, b1⟩
set_option maxHeartbeats 4000000 in
set_option maxRecDepth 100000 in
theorem refAt_any (g : Nat) (D : Dk) (F : Nat → Prop) (A : Option Addr) (n cap : Nat) (cs : List Value) (s : ByteArray) (w : World) (h : RefAt w g D F A n cap cs) :
    Calls Tryz.prog 54 #[.pointer (some ⟨g, 0, none⟩), .string s] w fun e w' => e = .returned (.int .i64 (atI D.fs s)) ∧ w = w' := by
  have HL := Go.Lib.hid h.len
  have hmax := h.le
  unfold maxLen at hmax
  generalize hR : atI D.fs s = R
  have HR := Go.Lib.hid hR
  clear hR
  have k2 := h.c2
  go_enter Tryz.func54, Tryz.ntmps54
  go_wp2_with fail
  go_loopw [5] (fun i wr => ∃ j : Nat, j ≤ n ∧ i = .int .i64 j ∧ Hid (∀ k, k < j → eqN (D.fs.getD k noFl).name s = false) ∧ w = wr) (fun i _ => n - (intOf i).toNat)
  case atStart => exact ⟨0, Nat.zero_le _, rfl, Go.Lib.hid (fun k hk => absurd hk (by omega)), rfl⟩
  case round =>
    obtain ⟨j, hj, rfl, HQ, rfl⟩ := hrel
    by_cases hlt : j < n
    · obtain ⟨b, o, B, nb, cb, rfl, x0, _, _, _, _⟩ := h.files hlt
      have i1 : (j : Int) < n := by omega
      have hjl : j < D.fs.length := by rw [HL.out]; exact hlt
      cases he : eqN (D.fs.getD j noFl).name s with
      | true =>
        have hr : R = (j : Int) := by
          rw [← HR.out]
          unfold atI
          rw [idxF_some hjl HQ.out he, if_pos hjl]
        subst hr
        generalize (D.fs.getD j noFl).name = nm at *
        have e1 : (nm.toList == s.toList) = true := he
        clear he HQ HR
        go_wp2_with fail
        go_ret
        exact ⟨rfl, rfl⟩
      | false =>
        have HQ' : Hid (∀ k, k < j + 1 → eqN (D.fs.getD k noFl).name s = false) := Go.Lib.hid (fun k hk => by
          by_cases hkj : k = j
          · rw [hkj]; exact he
          · exact HQ.out k (by omega))
        generalize (D.fs.getD j noFl).name = nm at *
        have e1 : (nm.toList == s.toList) = false := he
        clear he HQ
        go_wp2_with fail
        go_roundw
        case rel => exact ⟨j + 1, by omega, by go_num, HQ', by trivial⟩
        case measure => simp [intOf]; omega
    · obtain rfl : n = j := by omega
      have hr : R = -1 := by
        rw [← HR.out]
        unfold atI
        rw [idxF_none (by rw [HL.out]; exact HQ.out), if_neg (Nat.lt_irrefl _)]
      subst hr
      clear HQ HR
      go_wp2_with fail
      go_ret
      exact ⟨rfl, rfl⟩
def burnD (D : Dk) : Dk := ⟨D.quota, if 0 < D.left then D.left - 1 else D.left, D.fs⟩
theorem box_set {w : World} {g i : Nat} {c0 c1 c2 x : Value} {T : TypeId} (h : w.heap[g]? = some (.cells #[c0, c1, c2] T (0, 0))) (hi : i < 3) : (w.setCell ⟨g, i, none⟩ x).heap[g]? = some (.cells (#[c0, c1, c2].set i x (by simpa using hi)) T (0, 0)) := by
  simp only [World.setCell, Array.getElem?_modify, h]
  match i, hi with
  | 0, _ => rfl
  | 1, _ => rfl
  | 2, _ => rfl
theorem grownSet (w : World) (g i : Nat) (x : Value) : w.grownBy (w.setCell ⟨g, i, none⟩ x) (some g) := by
  refine ⟨rfl, rfl, rfl, by simp [World.setCell], fun k _ hne => ?_⟩
  have : g ≠ k := fun e => hne (by rw [e])
  simp [World.setCell, Array.getElem?_modify, this]
theorem RefAt.apart {w : World} {g : Nat} {D : Dk} {F : Nat → Prop} {A : Option Addr} {n cap : Nat} {cs : List Value} (h : RefAt w g D F A n cap cs) : (∀ a, A = some a → a.block ≠ g) ∧ ∀ o k, w.cell? ⟨g, o, none⟩ ≠ some (.int .u8 k) := by
  refine ⟨fun a ha e => ?_, fun o k => ?_⟩
  · rcases h.own.2 with ⟨hv, _⟩ | ⟨g', c, cur, hv, _, hg, _⟩
    · rw [ha] at hv
      cases hv
    · have e1 : A = some ⟨g', 0, none⟩ := by injection hv
      rw [ha] at e1
      injection e1 with e1
      rw [e1] at e
      simp only at e
      rw [e, h.box] at hg
      injection hg with hg
      injection hg with _ e3
      exact absurd e3 (by decide)
  · rw [cell_of_row w g o _ _ _ h.box]
    match o with
    | 0 => simp
    | 1 => simp
    | 2 => simp
    | n + 3 => simp
theorem RefAt.setL {w : World} {g : Nat} {D : Dk} {F : Nat → Prop} {A : Option Addr} {n cap : Nat} {cs : List Value} (h : RefAt w g D F A n cap cs) (x : Int) : RefAt (w.setCell ⟨g, 1, none⟩ (.int .i64 x)) g ⟨D.quota, x, D.fs⟩ F A n cap cs := by
  obtain ⟨a1, _⟩ := h.apart
  have hs := grownSet w g 1 (.int .i64 x)
  exact ⟨box_set h.box (by omega), OwnC.grown h.own hs (fun a ha e => a1 a ha (by injection e)), h.len, FlsR.map (fun _ _ _ _ r _ => own8_grown r hs (fun a ha e => own8_not r h.box (by decide) a ha (by injection e))) (fun _ hf => hf) _ _ h.fls, h.fg, h.fa, fun k hf => Nat.lt_of_lt_of_le (h.lt k hf) hs.size⟩
set_option maxRecDepth 100000 in
theorem refBurn_any (g : Nat) (D : Dk) (F : Nat → Prop) (A : Option Addr) (n cap : Nat) (cs : List Value) (w : World) (h : RefAt w g D F A n cap cs) (hl : -1 ≤ D.left ∧ D.left ≤ 9223372036854775807) :
    Calls Tryz.prog 75 #[.pointer (some ⟨g, 0, none⟩)] w fun e w' => e = .returned (.bool (decide (D.left = 0))) ∧ RefAt w' g (burnD D) F A n cap cs ∧ w.grownBy w' (some g) := by
  have k1 := h.c1
  have z1 := h.frozen 1
  by_cases h0 : D.left = 0
  · have hb : burnD D = D := by
      unfold burnD
      rw [if_neg (by omega)]
    rw [hb, decide_eq_true h0]
    rw [h0] at k1
    go_enter Tryz.func75, Tryz.ntmps75
    go_wp2
    go_ret
    exact ⟨rfl, h, ⟨rfl, rfl, rfl, Nat.le_refl _, fun _ _ _ => rfl⟩⟩
  · have e0 : (D.left == 0) = false := by rw [beq_eq_false_iff_ne]; exact h0
    rw [decide_eq_false h0]
    by_cases hp : 0 < D.left
    · have hb : burnD D = ⟨D.quota, D.left - 1, D.fs⟩ := by
        unfold burnD
        rw [if_pos hp]
      have h1 := h.setL (D.left - 1)
      have hs := grownSet w g 1 (.int .i64 (D.left - 1))
      rw [hb]
      go_enter Tryz.func75, Tryz.ntmps75
      go_wp2
      go_ret
      exact ⟨rfl, h1, hs⟩
    · have hb : burnD D = D := by
        unfold burnD
        rw [if_neg hp]
      rw [hb]
      go_enter Tryz.func75, Tryz.ntmps75
      go_wp2
      go_ret
      exact ⟨rfl, h, ⟨rfl, rfl, rfl, Nat.le_refl _, fun _ _ _ => rfl⟩⟩
def usedF (fs : List Fl) : Nat := (fs.map fun f => f.b.length).sum
theorem usedF_snoc (fs : List Fl) (f : Fl) : usedF (fs ++ [f]) = usedF fs + f.b.length := by simp [usedF]
theorem usedF_le {fs : List Fl} (h : ∀ f ∈ fs, f.b.length ≤ 65536) : usedF fs ≤ 65536 * fs.length := by
  induction fs with
  | nil => simp [usedF]
  | cons f fs ih =>
    have h1 := h f (by simp)
    have h2 := ih fun x hx => h x (by simp [hx])
    have e : usedF (f :: fs) = f.b.length + usedF fs := by simp [usedF]
    rw [e, List.length_cons]
    omega
set_option maxHeartbeats 4000000 in
set_option maxRecDepth 100000 in
theorem refUsed_any (g : Nat) (D : Dk) (F : Nat → Prop) (A : Option Addr) (n cap : Nat) (cs : List Value) (w : World) (h : RefAt w g D F A n cap cs) (hn : n ≤ 1000) (hb : ∀ f ∈ D.fs, f.b.length ≤ 65536) :
    Calls Tryz.prog 88 #[.pointer (some ⟨g, 0, none⟩)] w fun e w' => e = .returned (.int .i64 (usedF D.fs : Nat)) ∧ w = w' := by
  have HL := Go.Lib.hid h.len
  have HB := Go.Lib.hid hb
  have k2 := h.c2
  clear hb
  go_enter Tryz.func88, Tryz.ntmps88
  go_wp2_with fail
  go_loopw [3, 4] (fun s i wr => ∃ (j u : Nat), j ≤ n ∧ i = .int .i64 j ∧ s = .int .i64 u ∧ Hid (u = usedF (D.fs.take j)) ∧ w = wr) (fun _ i _ => n - (intOf i).toNat)
  case atStart => exact ⟨0, 0, Nat.zero_le _, rfl, rfl, Go.Lib.hid rfl, rfl⟩
  case round =>
    obtain ⟨j, u, hj, rfl, rfl, HQ, rfl⟩ := hrel
    by_cases hlt : j < n
    · obtain ⟨b, o, B, nb, cb, rfl, _, x1, _, rB, _⟩ := h.files hlt
      have i1 : (j : Int) < n := by omega
      have hjl : j < D.fs.length := by rw [HL.out]; exact hlt
      have hu : u ≤ 65536000 := by
        have h1 := usedF_le (fs := D.fs.take j) fun x hx => HB.out x (List.mem_of_mem_take hx)
        rw [HQ.out]
        have h2 : (D.fs.take j).length ≤ 1000 := by rw [List.length_take]; omega
        omega
      have hnb : nb ≤ 65536 := by
        rw [← rB.len]
        exact HB.out _ (fl_get hjl)
      have HQ' : Hid (u + nb = usedF (D.fs.take (j + 1))) := Go.Lib.hid (by rw [fl_take _ _ hjl, usedF_snoc, HQ.out, rB.len])
      clear rB
      go_wp2_with fail
      go_roundw
      case rel => exact ⟨j + 1, u + nb, by omega, by go_num, by go_num, HQ', by trivial⟩
      case measure => simp [intOf]; omega
    · obtain rfl : n = j := by omega
      have hu : u = usedF D.fs := by rw [HQ.out, List.take_of_length_le (by rw [HL.out]; exact Nat.le_refl _)]
      have HU := Go.Lib.hid hu
      clear hu HQ
      go_wp2_with fail
      go_ret
      exact ⟨by rw [HU.out]; exact rfl, rfl⟩
end Go.Proofs.YtppidbdkejkopaaGreatDoor.DkWalk
namespace Go.Proofs.YtppidbdkejkopaaGreatDoor.DkWalk
open Go.RowKit MemRow Ev NameMath NameWalk EvWalk NumMem
def FAt (w : World) (g : Nat) (v0 v1 v2 : Value) : Prop := w.heap[g]? = some (.cells #[v0, v1, v2] 99 (0, 0))
theorem FAt.new (w : World) (v0 v1 v2 : Value) : FAt (w.alloc (.cells #[v0, v1, v2] 99)) w.heap.size v0 v1 v2 := heap_alloc_new w _
section
variable {w w' : World} {g : Nat} {v0 v1 v2 : Value}
theorem FAt.lt (h : FAt w g v0 v1 v2) : g < w.heap.size := (Array.getElem?_eq_some_iff.1 h).1
theorem FAt.below (h : FAt w g v0 v1 v2) (hb : Below w.heap.size w w') : FAt w' g v0 v1 v2 := (hb.block g h.lt).trans h
theorem FAt.c0 (h : FAt w g v0 v1 v2) : w.cell? ⟨g, 0, none⟩ = some v0 := by rw [cell_of_row w g 0 _ _ _ h]; rfl
theorem FAt.c1 (h : FAt w g v0 v1 v2) : w.cell? ⟨g, 1, none⟩ = some v1 := by rw [cell_of_row w g 1 _ _ _ h]; rfl
theorem FAt.c2 (h : FAt w g v0 v1 v2) : w.cell? ⟨g, 2, none⟩ = some v2 := by rw [cell_of_row w g 2 _ _ _ h]; rfl
theorem FAt.frozen (h : FAt w g v0 v1 v2) (i : Nat) : w.frozen? ⟨g, i, none⟩ = false := by
  unfold FAt at h
  simp [World.frozen?, h]
theorem FAt.grown {row : Option Nat} (h : FAt w g v0 v1 v2) (hg : w.grownBy w' row) (hne : some g ≠ row) : FAt w' g v0 v1 v2 := (hg.block g h.lt hne).trans h
end
theorem file_info : (Tryz.prog.info? 99).map (fun i => (i.zero, i.size, i.bytes)) = some (some (.agg #[.string ⟨#[]⟩, .slice none 0 0, .int .i64 0]), 3, 48) := by kernel_rfl
theorem file_size : (Tryz.prog.info? 99).map (·.size) = some 3 := by kernel_rfl
theorem elem_files : Tryz.prog.elem 73 = 99 := by kernel_rfl
theorem fl_one (s : ByteArray) (B : Option Addr) (m c : Nat) (k : Int) : ∀ v ∈ ([.string s, .slice B m c, .int .i64 k] : List Value), v.oneCell' = true := by
  intro v hv
  simp only [List.mem_cons, List.not_mem_nil, or_false] at hv
  rcases hv with rfl | rfl | rfl <;> rfl
theorem row_low {k : Nat} {w : World} {base : Nat} {t : TypeId} {A : Option Addr} {n cap : Nat} {cs : List Value} (h : OwnC k w base t A n cap cs) {r : Nat} (e : A.map (·.block) = some r) : base ≤ r := by
  cases A with
  | none => cases e
  | some a =>
    simp only [Option.map_some, Option.some.injEq] at e
    have := (OwnC.lt h a rfl).1
    omega
theorem own_lower {k : Nat} {w : World} {base base' : Nat} {t : TypeId} {A : Option Addr} {n cap : Nat} {cs : List Value} (h : OwnC k w base t A n cap cs) (hb : base' ≤ base) : OwnC k w base' t A n cap cs := by
  refine ⟨h.1, ?_⟩
  rcases h.2 with h2 | ⟨g, c, cur, hv, hg, rest⟩
  · exact .inl h2
  · exact .inr ⟨g, c, cur, hv, Nat.le_trans hb hg, rest⟩
structure PtAt (w wr : World) (F : Nat → Prop) (gf : Nat) (v0 v1 v2 : Value) (A : Option Addr) (m c : Nat) (fs : List Fl) : Prop where
  box : FAt wr gf v0 v1 v2
  own : ∃ cs, OwnC 3 wr (gf + 1) 99 A m c cs ∧ fs.length = m ∧ FlsR w F fs cs
  bel : Below w.heap.size w wr
  lo : w.heap.size ≤ gf
section
variable {w wr w' : World} {F : Nat → Prop} {gf m c : Nat} {v0 v1 v2 : Value} {A : Option Addr} {fs : List Fl}
theorem PtAt.below (h : PtAt w wr F gf v0 v1 v2 A m c fs) (hb : Below wr.heap.size wr w') : PtAt w w' F gf v0 v1 v2 A m c fs := by
  obtain ⟨cs, o, hl, hf⟩ := h.own
  exact ⟨h.box.below hb, ⟨cs, OwnC.below o hb, hl, hf⟩, below_chain h.bel hb, h.lo⟩
theorem PtAt.more {A' : Option Addr} {c' : Nat} {cs : List Value} {f : Fl} {B : Option Addr} {nb cb : Nat} (h : PtAt w wr F gf v0 v1 v2 A m c fs) (o : OwnC 3 wr (gf + 1) 99 A m c cs) (hl : fs.length = m) (hf : FlsR w F fs cs)
    (r : Own w 0 5 B nb cb f.b) (hb : ∀ a, B = some a → F a.block) (o' : OwnC 3 w' (gf + 1) 99 A' (m + 1) c' (cs ++ [.string f.name, .slice B nb cb, .int .i64 f.safe])) (hg : wr.grownBy w' (A.map (·.block)))
    : PtAt w w' F gf v0 v1 v2 A' (m + 1) c' (fs ++ [f]) := by
  have lo := h.lo
  have low := fun r e => row_low o (r := r) e
  exact ⟨h.box.grown hg (fun e => by have := low gf e.symm; omega), ⟨_, o', by rw [List.length_append, hl]; rfl, FlsR.snoc r hb fs cs hf⟩, h.bel.grown hg h.bel.size (fun r e => by have := low r e; omega), h.lo⟩
theorem fin_row {g base : Nat} {D : Dk} {A0 : Option Addr} {n0 cap0 : Nat} {cs0 cs : List Value} (h0 : RefAt w g D F A0 n0 cap0 cs0) (bel : Below w.heap.size w wr) (o : OwnC 3 wr base 99 A m c cs) (lo : w.heap.size ≤ base) (hl : fs.length = m) (hf : FlsR w (up F w wr) fs cs) :
    wr.frozen? ⟨g, 2, none⟩ = false ∧ wr.cell? ⟨g, 2, none⟩ = some (.slice A0 n0 cap0) ∧ RefIs (wr.setCell ⟨g, 2, none⟩ (.slice A m c)) g ⟨D.quota, D.left, fs⟩ (up F w (wr.setCell ⟨g, 2, none⟩ (.slice A m c))) ∧ Ch (fun k => k = g) w (wr.setCell ⟨g, 2, none⟩ (.slice A m c)) := by
  have hr := h0.below bel
  have glt := h0.lt g h0.fg
  have hs := grownSet wr g 2 (.slice A m c)
  have hsz : w.heap.size ≤ (wr.setCell ⟨g, 2, none⟩ (.slice A m c)).heap.size := Nat.le_trans bel.size hs.size
  refine ⟨hr.frozen 2, hr.c2, ⟨A, m, c, cs, box_set hr.box (by omega), ?_, hl, FlsR.map (fun _ _ _ _ r _ => own8_grown (r.below bel) hs (fun a ha e => own8_not (r.below bel) hr.box (by decide) a ha (by injection e))) (fun _ hf => up_mono hs.size hf) _ _ hf, .inl h0.fg, fun a ha => ?_, fun k hk => up_lt h0.lt hsz hk⟩, (Ch.of_below bel).then_grown hs (fun r e => by injection e with e; exact .inl (.inl e.symm))⟩
  · have o2 := OwnC.grown o hs (fun a ha e => by have := (OwnC.lt o a ha).1; injection e with e; omega)
    exact own_lower o2 (Nat.zero_le _)
  · have h1 := OwnC.lt o a ha
    exact .inr ⟨by omega, Nat.lt_of_lt_of_le h1.2 hs.size⟩
theorem PtAt.fin {g : Nat} {D : Dk} {A0 : Option Addr} {n0 cap0 : Nat} {cs0 : List Value} (h : PtAt w wr F gf v0 v1 v2 A m c fs) (h0 : RefAt w g D F A0 n0 cap0 cs0) :
    wr.frozen? ⟨g, 2, none⟩ = false ∧ wr.cell? ⟨g, 2, none⟩ = some (.slice A0 n0 cap0) ∧ RefIs (wr.setCell ⟨g, 2, none⟩ (.slice A m c)) g ⟨D.quota, D.left, fs⟩ (up F w (wr.setCell ⟨g, 2, none⟩ (.slice A m c))) ∧ Ch (fun k => k = g) w (wr.setCell ⟨g, 2, none⟩ (.slice A m c)) := by
  have lo := h.lo
  obtain ⟨cs, o, hl, hf⟩ := h.own
  exact fin_row h0 h.bel o (by omega) hl (FlsR.map (fun _ _ _ _ r _ => r) (fun _ hf => .inl hf) _ _ hf)
end
set_option maxHeartbeats 8000000 in
set_option maxRecDepth 100000 in
theorem refPutF_any (g : Nat) (D : Dk) (F : Nat → Prop) (A : Option Addr) (n cap : Nat) (cs : List Value) (f : Fl) (B : Option Addr) (nb cb : Nat) (w : World) (h : RefAt w g D F A n cap cs) (hn : n ≤ 1000) (rf : Own w 0 5 B nb cb f.b) (hB : ∀ a, B = some a → F a.block) :
    Calls Tryz.prog 55 #[.pointer (some ⟨g, 0, none⟩), .agg #[.string f.name, .slice B nb cb, .int .i64 f.safe]] w fun e w' => e = .returned (.tuple #[]) ∧ RefIs w' g ⟨D.quota, D.left, putF D.fs f⟩ (up F w w') ∧ Ch (fun k => k = g) w w' := by
  have HL := Go.Lib.hid h.len
  have H := Go.Lib.hid h
  have glt := h.lt g h.fg
  go_enter Tryz.func55, Tryz.ntmps55
  go_upto_region 1 with (fail)
  have e1 := FAt.new w (.string f.name) (.slice B nb cb) (.int .i64 f.safe)
  have b1 : Below w.heap.size w (w.alloc (.cells #[.string f.name, .slice B nb cb, .int .i64 f.safe] 99)) := (Below.refl _ _).alloc (Nat.le_refl _) _
  generalize w.alloc (.cells #[.string f.name, .slice B nb cb, .int .i64 f.safe] 99) = w1 at *
  go_upto_region 2 with (fail)
  have al : Below w1.heap.size w1 (w1.alloc (.cells #[] 99)) := (Below.refl _ _).alloc (Nat.le_refl _) _
  have s2 : PtAt w (w1.alloc (.cells #[] 99)) F w.heap.size (.string f.name) (.slice B nb cb) (.int .i64 f.safe) (some ⟨w1.heap.size, 0, none⟩) 0 0 (putS (D.fs.take 0) f).1 :=
    ⟨e1.below al, ⟨[], OwnC.empty w1 _ e1.lt, rfl, rfl⟩, below_chain b1 al, Nat.le_refl _⟩
  generalize w1.alloc (.cells #[] 99) = w2 at *
  clear e1 b1 al
  go_wp2_with fail
  go_loopw [4, 5, 6] (fun o d i wr => ∃ (j : Nat) (A' : Option Addr) (m c : Nat), j ≤ n ∧ o = .slice A' m c ∧ d = .bool (putS (D.fs.take j) f).2 ∧ i = .int .i64 j ∧ PtAt w wr F w.heap.size (.string f.name) (.slice B nb cb) (.int .i64 f.safe) A' m c (putS (D.fs.take j) f).1) (fun _ _ i _ => n - (intOf i).toNat)
  case atStart => exact ⟨0, _, 0, 0, Nat.zero_le _, rfl, rfl, rfl, s2⟩
  case round =>
    obtain ⟨j, A', m, c, hj, rfl, rfl, rfl, sr⟩ := hrel
    clear s2
    have k2 := bcell sr.bel h.c2
    by_cases hlt : j < n
    · obtain ⟨b, o, Bx, nx, cx, rfl, x0', x1', x2', rx, hx⟩ := h.files hlt
      have x0 := bcell sr.bel x0'
      have x1 := bcell sr.bel x1'
      have x2 := bcell sr.bel x2'
      have i1 : (j : Int) < n := by omega
      have hjl : j < D.fs.length := by rw [HL.out]; exact hlt
      have hml : (putS (D.fs.take j) f).1.length ≤ 1001 := by
        have := putS_len' (D.fs.take j) f
        have h2 : (D.fs.take j).length ≤ 1000 := by rw [List.length_take]; omega
        omega
      have HS := Go.Lib.hid (putS_snoc (f := f) hjl)
      have X0 := Go.Lib.hid x0'
      have X1 := Go.Lib.hid x1'
      have X2 := Go.Lib.hid x2'
      have K2 := Go.Lib.hid h.c2
      clear x0' x1' x2' hjl
      generalize D.fs.getD j noFl = x at *
      generalize putS (D.fs.take j) f = p at *
      obtain ⟨l, d⟩ := p
      simp only at sr hml
      have hmm : m ≤ 1001 := by
        obtain ⟨_, _, hl, _⟩ := sr.own
        omega
      have f0 := sr.box.c0
      clear hml
      go_upto_region 6 with (fail)
      go_cut [31] (fun v wx => v = .bool (!d && leN f.name x.name) ∧ ∃ k, wx = wr.drewN k)
      case first =>
        cases d with
        | true =>
          go_wp2_with fail
          go_quiet (fail)
          go_wp2_with fail
          go_meet
          exact ⟨rfl, _, rfl⟩
        | false =>
          cases hl : less f.name x.name with
          | true =>
            have hle : leN f.name x.name = true := by unfold leN; rw [hl]; rfl
            have HLE := Go.Lib.hid hle
            have e1 : Op.bytesLess f.name.toList x.name.toList = true := hl
            clear hl hle
            go_wp2_with fail
            go_quiet (fail)
            go_wp2_with fail
            go_meet
            exact ⟨by rw [HLE.out]; simp, _, rfl⟩
          | false =>
            have e1 : Op.bytesLess f.name.toList x.name.toList = false := hl
            cases he : eqN f.name x.name with
            | true =>
              have hle : leN f.name x.name = true := by unfold leN; rw [hl, he]; rfl
              have HLE := Go.Lib.hid hle
              have e2 : (f.name.toList == x.name.toList) = true := he
              clear hl hle he
              go_wp2_with fail
              go_quiet (fail)
              go_wp2_with fail
              go_meet
              exact ⟨by rw [HLE.out]; simp, _, rfl⟩
            | false =>
              have hle : leN f.name x.name = false := by unfold leN; rw [hl, he]; rfl
              have HLE := Go.Lib.hid hle
              have e2 : (f.name.toList == x.name.toList) = false := he
              clear hl hle he
              go_wp2_with fail
              go_quiet (fail)
              go_wp2_with fail
              go_meet
              exact ⟨by rw [HLE.out]; simp, _, rfl⟩
      case rest =>
        obtain ⟨rfl, q, rfl⟩ := hcut
        have bq : Below wr.heap.size wr (wr.drewN q) := bel_drewN (Below.refl _ _) q
        have sq := sr.below bq
        generalize wr.drewN q = wq at *
        clear k2 x0 x1 x2 f0 bq sr
        have HST : Hid (stp f (l, d) x = (if eqN x.name f.name = true then (if (!d && leN f.name x.name) = true then l ++ [f] else l) else (if (!d && leN f.name x.name) = true then l ++ [f] else l) ++ [x], d || (!d && leN f.name x.name))) := Go.Lib.hid (by
          unfold stp
          cases d <;> cases leN f.name x.name <;> rfl)
        generalize (!d && leN f.name x.name) = c1 at *
        go_upto_if 31 with (fail)
        go_cut [4, 5] (fun v4 v5 wx => ∃ A5 m5 c5, v4 = .slice A5 m5 c5 ∧ m5 ≤ m + 1 ∧ v5 = .bool (d || c1) ∧ PtAt w wx F w.heap.size (.string f.name) (.slice B nb cb) (.int .i64 f.safe) A5 m5 c5 (if c1 = true then l ++ [f] else l))
        case first =>
          cases c1 with
          | false =>
            go_wp2_with fail
            go_meet
            exact ⟨A', m, c, rfl, by omega, by simp, sq⟩
          | true =>
            have f0 := sq.box.c0
            have f1 := sq.box.c1
            have f2 := sq.box.c2
            have al : Below wq.heap.size wq (wq.alloc (.cells #[.string f.name, .slice B nb cb, .int .i64 f.safe] 99)) := (Below.refl _ _).alloc (Nat.le_refl _) _
            have s8 := sq.below al
            have d8 : RdC 3 (wq.alloc (.cells #[.string f.name, .slice B nb cb, .int .i64 f.safe] 99)) (some ⟨wq.heap.size, 0, none⟩) 1 1 [.string f.name, .slice B nb cb, .int .i64 f.safe] := RdC.new wq 99 [.string f.name, .slice B nb cb, .int .i64 f.safe] rfl (by decide)
            have big : w.heap.size + 1 ≤ (wq.alloc (.cells #[.string f.name, .slice B nb cb, .int .i64 f.safe] 99)).heap.size := s8.box.lt
            have h63 : m + 1 ≤ maxLen := by unfold maxLen; omega
            have hsz : (m + 1) * 48 ≤ 140737488355328 := by omega
            obtain ⟨cs8, oc, hl8, hf8⟩ := s8.own
            go_wp2_with (at_builtin; refine wpList_append_cells rfl (.tmp 32) (.tmp 34) 73 rfl 99 (.agg #[.string ⟨#[]⟩, .slice none 0 0, .int .i64 0]) 48 Tryz.underlying73 file_info rfl (by decide) rfl rfl oc d8 (fl_one _ _ _ _ _) h63 hsz big ?_; intro A9 c9 w9 o9 g9 _)
            go_meet
            exact ⟨A9, m + 1, c9, rfl, Nat.le_refl _, by simp, s8.more oc hl8 hf8 rf hB o9 g9⟩
        case rest =>
          obtain ⟨A5, m5, c5, rfl, hm5, rfl, s5⟩ := hcut
          generalize hl5 : (if c1 = true then l ++ [f] else l) = l5 at *
          generalize hd5 : (d || c1) = d5 at *
          clear sq hl5 hd5
          have k2 := bcell s5.bel K2.out
          have x0 := bcell s5.bel X0.out
          have x1 := bcell s5.bel X1.out
          have x2 := bcell s5.bel X2.out
          have f0 := s5.box.c0
          cases he : eqN x.name f.name with
          | true =>
            have e2 : (x.name.toList == f.name.toList) = true := he
            have HST2 : Hid (putS (D.fs.take (j + 1)) f = (l5, d5)) := Go.Lib.hid (by rw [HS.out, HST.out, he]; rfl)
            clear he HST HS X0 X1 X2 K2
            go_wp2_with fail
            go_quiet (fail)
            go_wp2_with fail
            go_roundw
            case rel => exact ⟨j + 1, A5, m5, c5, by omega, rfl, by rw [HST2.out], by go_num, by rw [HST2.out]; exact s5.below (bel_drewN (Below.refl _ _) _)⟩
            case measure => simp [intOf]; omega
          | false =>
            have e2 : (x.name.toList == f.name.toList) = false := he
            have HST2 : Hid (putS (D.fs.take (j + 1)) f = (l5 ++ [x], d5)) := Go.Lib.hid (by rw [HS.out, HST.out, he]; rfl)
            clear he HST HS
            go_upto_region 9 with (fail)
            go_cut [46] (fun v wx => v = .bool true ∧ ∃ k, wx = wc.drewN k)
            case first =>
              go_wp2_with fail
              go_quiet (fail)
              go_wp2_with fail
              go_meet
              exact ⟨rfl, _, rfl⟩
            case rest =>
              obtain ⟨rfl, qz, rfl⟩ := hcut
              have s6 := s5.below (bel_drewN (Below.refl _ _) qz)
              generalize wc.drewN qz = wz at *
              clear k2 x0 x1 x2 f0 s5
              have k2 := bcell s6.bel K2.out
              have x0 := bcell s6.bel X0.out
              have x1 := bcell s6.bel X1.out
              have x2 := bcell s6.bel X2.out
              have al : Below wz.heap.size wz (wz.alloc (.cells #[.string x.name, .slice Bx nx cx, .int .i64 x.safe] 99)) := (Below.refl _ _).alloc (Nat.le_refl _) _
              have s8 := s6.below al
              have d8 : RdC 3 (wz.alloc (.cells #[.string x.name, .slice Bx nx cx, .int .i64 x.safe] 99)) (some ⟨wz.heap.size, 0, none⟩) 1 1 [.string x.name, .slice Bx nx cx, .int .i64 x.safe] := RdC.new wz 99 [.string x.name, .slice Bx nx cx, .int .i64 x.safe] rfl (by decide)
              have big : w.heap.size + 1 ≤ (wz.alloc (.cells #[.string x.name, .slice Bx nx cx, .int .i64 x.safe] 99)).heap.size := s8.box.lt
              have h63 : m5 + 1 ≤ maxLen := by unfold maxLen; omega
              have hsz : (m5 + 1) * 48 ≤ 140737488355328 := by omega
              obtain ⟨cs8, oc, hl8, hf8⟩ := s8.own
              go_wp2_with (at_builtin; refine wpList_append_cells rfl (.tmp 47) (.tmp 55) 73 rfl 99 (.agg #[.string ⟨#[]⟩, .slice none 0 0, .int .i64 0]) 48 Tryz.underlying73 file_info rfl (by decide) rfl rfl oc d8 (fl_one _ _ _ _ _) h63 hsz big ?_; intro A9 c9 w9 o9 g9 _)
              go_roundw
              case rel => exact ⟨j + 1, A9, m5 + 1, c9, by omega, rfl, by rw [HST2.out], by go_num, by rw [HST2.out]; exact s8.more oc hl8 hf8 rx hx o9 g9⟩
              case measure => simp [intOf]; omega
    · obtain rfl : n = j := by omega
      have ht : D.fs.take n = D.fs := List.take_of_length_le (by rw [HL.out]; exact Nat.le_refl _)
      rw [ht] at sr ⊢
      have hml := putS_len' D.fs f
      have hmm : m ≤ 1001 := by
        obtain ⟨_, _, hl, _⟩ := sr.own
        have := HL.out
        omega
      have HPF : Hid (putF D.fs f = if (putS D.fs f).2 = true then (putS D.fs f).1 else (putS D.fs f).1 ++ [f]) := Go.Lib.hid rfl
      clear ht hml
      generalize putS D.fs f = p at *
      obtain ⟨l, d⟩ := p
      simp only at sr
      cases d with
      | true =>
        have hp : putF D.fs f = l := by rw [HPF.out]; rfl
        obtain ⟨z1, z2, z3, z4⟩ := sr.fin h
        have Z3 := Go.Lib.hid z3
        have Z4 := Go.Lib.hid z4
        have HP := Go.Lib.hid hp
        clear hp z3 z4
        go_wp2_with fail
        go_end0
        exact ⟨rfl, by rw [HP.out]; exact Z3.out, Z4.out⟩
      | false =>
        have hp : putF D.fs f = l ++ [f] := by rw [HPF.out]; rfl
        have HP := Go.Lib.hid hp
        have f0 := sr.box.c0
        have f1 := sr.box.c1
        have f2 := sr.box.c2
        have al : Below wr.heap.size wr (wr.alloc (.cells #[.string f.name, .slice B nb cb, .int .i64 f.safe] 99)) := (Below.refl _ _).alloc (Nat.le_refl _) _
        have s8 := sr.below al
        have d8 : RdC 3 (wr.alloc (.cells #[.string f.name, .slice B nb cb, .int .i64 f.safe] 99)) (some ⟨wr.heap.size, 0, none⟩) 1 1 [.string f.name, .slice B nb cb, .int .i64 f.safe] := RdC.new wr 99 [.string f.name, .slice B nb cb, .int .i64 f.safe] rfl (by decide)
        have big : w.heap.size + 1 ≤ (wr.alloc (.cells #[.string f.name, .slice B nb cb, .int .i64 f.safe] 99)).heap.size := s8.box.lt
        have h63 : m + 1 ≤ maxLen := by unfold maxLen; omega
        have hsz : (m + 1) * 48 ≤ 140737488355328 := by omega
        obtain ⟨cs8, oc, hl8, hf8⟩ := s8.own
        clear hp
        go_wp2_with (at_builtin; refine wpList_append_cells rfl (.tmp 59) (.tmp 61) 73 rfl 99 (.agg #[.string ⟨#[]⟩, .slice none 0 0, .int .i64 0]) 48 Tryz.underlying73 file_info rfl (by decide) rfl rfl oc d8 (fl_one _ _ _ _ _) h63 hsz big ?_; intro A9 c9 w9 o9 g9 _; obtain ⟨z1, z2, z3, z4⟩ := (s8.more oc hl8 hf8 rf hB o9 g9).fin h; have Z3 := Go.Lib.hid z3; have Z4 := Go.Lib.hid z4; clear z3 z4)
        go_end0
        exact ⟨rfl, by rw [HP.out]; exact Z3.out, Z4.out⟩
def dropF (fs : List Fl) (s : ByteArray) : List Fl := fs.take (idxF fs s) ++ fs.drop (idxF fs s + 1)
theorem FlsR.one {w : World} {F : Nat → Prop} : ∀ (fs : List Fl) (cs : List Value), FlsR w F fs cs → ∀ v ∈ cs, v.oneCell' = true
  | [], cs, h, v, hv => by
    obtain rfl : cs = [] := h
    simp at hv
  | f :: fs, cs, ⟨B, nb, cb, cs', hc, _, _, h⟩, v, hv => by
    subst hc
    simp only [List.mem_cons] at hv
    rcases hv with rfl | rfl | rfl | hv
    · rfl
    · rfl
    · rfl
    · exact FlsR.one fs cs' h v hv
set_option maxHeartbeats 8000000 in
set_option maxRecDepth 100000 in
theorem refDrop_any (g : Nat) (D : Dk) (F : Nat → Prop) (A : Option Addr) (n cap : Nat) (cs : List Value) (s : ByteArray) (w : World) (h : RefAt w g D F A n cap cs) (hn : n ≤ 1000) (hs : idxF D.fs s < D.fs.length) :
    Calls Tryz.prog 76 #[.pointer (some ⟨g, 0, none⟩), .string s] w fun e w' => e = .returned (.tuple #[]) ∧ RefIs w' g ⟨D.quota, D.left, dropF D.fs s⟩ (up F w w') ∧ Ch (fun k => k = g) w w' := by
  have hl := h.len
  have hat : atI D.fs s = (idxF D.fs s : Int) := by unfold atI; rw [if_pos hs]
  have hdf : dropF D.fs s = D.fs.take (idxF D.fs s) ++ D.fs.drop (idxF D.fs s + 1) := rfl
  rw [hdf]
  clear hdf
  go_enter Tryz.func76, Tryz.ntmps76
  go_wp2_with fail
  refine (refAt_any g D F A n cap cs s w h).mono ?_
  rintro e w' ⟨rfl, rfl⟩
  rw [hat]
  generalize hK : idxF D.fs s = k at *
  have HK := Go.Lib.hid hK
  clear hat hK
  have hk : k < n := by omega
  have rA := OwnC.rd h.own
  obtain ⟨q1, d1⟩ := slice_hi (P := Tryz.prog) 73 99 Tryz.underlying73 elem_files file_size rA (m := k) (by omega)
  have q1' : ∀ W, (Instr.slice 73 (.slice A n cap) none (some (.int .i64 (k : Int))) none).run Tryz.prog W = .ok (.slice A k cap) W := q1
  obtain ⟨A2, q2, d2⟩ := slice_lo (P := Tryz.prog) 73 99 Tryz.underlying73 elem_files file_size rA (m := k + 1) (by omega)
  have ec : ((k + 1 : Nat) : Int) = (k : Int) + 1 := by omega
  rw [ec] at q2
  have t1 := FlsR.take _ _ k h.fls
  have t2 := FlsR.drop _ _ (k + 1) h.fls
  have al : Below w.heap.size w (w.alloc (.cells #[] 99)).drew := bel_drew ((Below.refl _ _).alloc (Nat.le_refl _) _)
  have o6 : OwnC 3 (w.alloc (.cells #[] 99)).drew w.heap.size 99 (some ⟨w.heap.size, 0, none⟩) 0 0 [] := OwnC.empty w _ (Nat.le_refl _)
  have d6 := RdC.below d1 al
  have k2 := h.c2
  have k6 := bcell al k2
  have h1a : 0 + k ≤ maxLen := by unfold maxLen; omega
  have h1b : (0 + k) * 48 ≤ 140737488355328 := by omega
  have h2a : k + (n - (k + 1)) ≤ maxLen := by unfold maxLen; omega
  have h2b : (k + (n - (k + 1))) * 48 ≤ 140737488355328 := by omega
  have one1 := FlsR.one _ _ t1
  have one2 := FlsR.one _ _ t2
  have HLEN : Hid ((D.fs.take k ++ D.fs.drop (k + 1)).length = k + (n - (k + 1))) := Go.Lib.hid (by rw [List.length_append, List.length_take, List.length_drop]; omega)
  have HF := Go.Lib.hid (FlsR.append _ _ _ _ t1 t2)
  have i3 : IntKind.i64.wrap ((k : Int) + 1) = (k : Int) + 1 := IntWalk.i64_in _ (by omega)
  have q2' : ∀ W, (Instr.slice 73 (.slice A n cap) (some (.int .i64 ((k : Int) + 1))) none none).run Tryz.prog W = .ok (.slice A2 (n - (k + 1)) (cap - (k + 1))) W := q2
  clear t1 t2 q1 ec q2
  go_wp2_with fail
  go_region_law (first
    | (refine step_append_cells (by rfl) (.tmp 16) (.tmp 23) 73 rfl 99 (.agg #[.string ⟨#[]⟩, .slice none 0 0, .int .i64 0]) 48 Tryz.underlying73 file_info rfl (by decide) rfl rfl o10 d10 one2 h2a h2b b10.size ?_; intro A12 c12 w12 o12 g12 e12; have b12 := below_grown_own o10 b10 g12 b10.size; obtain ⟨z1, z2, z3, z4⟩ := fin_row (fs := D.fs.take k ++ D.fs.drop (k + 1)) h b12 o12 (Nat.le_refl _) HLEN.out (FlsR.map (fun _ _ _ _ r _ => r) (fun _ hf => .inl hf) _ _ (by simpa using HF.out)); have Z3 := Go.Lib.hid z3; have Z4 := Go.Lib.hid z4; clear z3 z4)
    | (refine step_append_cells (by rfl) (.tmp 9) (.tmp 15) 73 rfl 99 (.agg #[.string ⟨#[]⟩, .slice none 0 0, .int .i64 0]) 48 Tryz.underlying73 file_info rfl (by decide) rfl rfl o6 d6 one1 h1a h1b al.size ?_; intro A10 c10 w10 o10 g10 e10; rw [Nat.zero_add] at o10; have b10 := below_grown_own o6 al g10 al.size; have k10 := bcell b10 k2; have d10 := RdC.below d2 b10))
  all_goals
    go_wp2_with fail
    go_end0
    rw [HK.out]
    exact ⟨rfl, Z3.out, Z4.out⟩
end Go.Proofs.YtppidbdkejkopaaGreatDoor.DkWalk
namespace Go.Proofs.YtppidbdkejkopaaGreatDoor.DkWalk
open Go.RowKit MemRow Ev NameMath NameWalk EvWalk NumMem
theorem u8_info : (Tryz.prog.info? 5).map (fun i => (i.zero, i.size, i.bytes)) = some (some (.int .u8 0), 1, 1) := by kernel_rfl
theorem step_append_more {P : Program} {w : World} {base : Nat} {A : Option Addr} {n cap : Nat} {l : List UInt8} {ops : Array Oper} {o : Oper} {a : Act} {K : Act → World → Prop} {Q : Exit → Act → World → Prop} {E : Prop} (hw : Region.wanted o (yielded ops a.tmps) = true) (s x : Operand) (T : TypeId)
    (ho : o.op = .call { callee := .builtin .append, args := #[s, x], argTypes := #[T, T] }) (e : TypeId) (hT : P.underlying T = some (.slice e)) (hi : (P.info? e).map (fun i => (i.zero, i.size, i.bytes)) = some (some (.int .u8 0), 1, 1))
    (hs : a.eval s = .slice A n cap) {B : Option Addr} {m c : Nat} {k : List UInt8} (hx : a.eval x = .slice B m c) (hown : Own w base e A n cap l) (hr : Rd w B m c k) (hsz : n + m ≤ 140737488355328) (hbase : base ≤ w.heap.size) (w0 : World) (hb : Below base w0 w)
    (h : ∀ A' cap' w', Own w' base e A' (n + m) cap' (l ++ k) → Below base w0 w' → K (a.put o.dst (.slice A' (n + m) cap')) w') :
    if Region.wanted o (yielded ops a.tmps) = true then Oper.wp P o a w K Q else E :=
  step_append_bytes hw s x T ho e hT hi hs hx hown hr hsz hbase fun A' cap' w' h2 h3 =>
    h A' cap' w' h2 (hb.grown h3 hbase (fun g hg => (World.ownsRow.lt hown g hg).1))
structure DkOk (D : Dk) : Prop where
  len : D.fs.length ≤ 200
  fls : ∀ f ∈ D.fs, f.b.length ≤ 65536 ∧ f.safe ≤ f.b.length
  left : -1 ≤ D.left ∧ D.left ≤ 9223372036854775807
  quota : 0 ≤ D.quota ∧ D.quota ≤ 9223372036854775807
theorem burn_ok {D : Dk} (h : DkOk D) : DkOk (burnD D) := ⟨h.len, h.fls, by
  have := h.left
  unfold burnD
  simp only
  split <;> omega, h.quota⟩
def Did (c : Int) (D' : Dk) (g : Nat) (F : Nat → Prop) (w : World) (e : Ending) (w' : World) : Prop := e = .returned (.int .i64 c) ∧ RefIs w' g D' (up F w w') ∧ Ch F w w'
theorem Did.of {c : Int} {D' : Dk} {g : Nat} {F : Nat → Prop} {w w' : World} {A : Option Addr} {n cap : Nat} {cs : List Value} (h : RefAt w' g D' F A n cap cs) (hl : ∀ k, F k → k < w.heap.size) (hc : Ch F w w') : Did c D' g F w (.returned (.int .i64 c)) w' :=
  ⟨rfl, ⟨A, n, cap, cs, h.wide (fun _ hf => .inl hf) (fun _ hk => up_lt hl hc.size hk)⟩, hc⟩
def fileOf (fs : List Fl) (s : ByteArray) : Fl := if idxF fs s < fs.length then fs.getD (idxF fs s) noFl else ⟨s, [], 0⟩
def appendC (D : Dk) (s : ByteArray) (b : List UInt8) : Int × Dk :=
  if mayN s = false then (5, D)
  else if 65536 < (fileOf D.fs s).b.length + b.length ∨ (¬ idxF D.fs s < D.fs.length ∧ 200 ≤ D.fs.length) then (3, D)
  else if D.quota < (usedF D.fs + b.length : Nat) then (10, D)
  else (0, ⟨D.quota, D.left, putF D.fs ⟨s, (fileOf D.fs s).b ++ b, (fileOf D.fs s).safe⟩⟩)
def appendD (D : Dk) (s : ByteArray) (b : List UInt8) : Int × Dk := if D.left = 0 then (14, D) else appendC (burnD D) s b
theorem refUsed_bel (g : Nat) (D : Dk) (F : Nat → Prop) (A : Option Addr) (n cap : Nat) (cs : List Value) (w : World) (h : RefAt w g D F A n cap cs) (hn : n ≤ 1000) (hb : ∀ f ∈ D.fs, f.b.length ≤ 65536) :
    Calls Tryz.prog 88 #[.pointer (some ⟨g, 0, none⟩)] w fun e w' => e = .returned (.int .i64 (usedF D.fs : Nat)) ∧ Below w.heap.size w w' := by
  refine (refUsed_any g D F A n cap cs w h hn hb).mono ?_
  rintro e w' ⟨rfl, rfl⟩
  exact ⟨rfl, Below.refl _ _⟩
theorem FAt.all {w : World} {g : Nat} {v0 v1 v2 : Value} (h : FAt w g v0 v1 v2) (x0 x1 x2 : Value) : FAt (((w.setCell ⟨g, 0, none⟩ x0).setCell ⟨g, 1, none⟩ x1).setCell ⟨g, 2, none⟩ x2) g x0 x1 x2 := by
  unfold FAt at h ⊢
  simp only [World.setCell, Array.getElem?_modify, h]
  rfl
theorem bel_all3 {w a : World} {B : Nat} (h : Below B a w) {g : Nat} (hg : B ≤ g) (x0 x1 x2 : Value) : Below B a (((w.setCell ⟨g, 0, none⟩ x0).setCell ⟨g, 1, none⟩ x1).setCell ⟨g, 2, none⟩ x2) :=
  ((h.setCell hg _).setCell hg _).setCell hg _
set_option maxHeartbeats 8000000 in
set_option maxRecDepth 100000 in
theorem refAppendC_any (g : Nat) (D : Dk) (F : Nat → Prop) (s : ByteArray) (Bb : Option Addr) (m cb : Nat) (b : List UInt8) (w : World) (h : RefIs w g D F) (ok : DkOk D) (hs : s.size ≤ maxLen) (rb : Rd w Bb m cb b) (hm : m ≤ 1000000) :
    Calls Tryz.prog 52 #[.pointer (some ⟨g, 0, none⟩), .string s, .slice Bb m cb] w (fun e w' => Did (appendD D s b).1 (appendD D s b).2 g F w e w') := by
  obtain ⟨A, n, cap, cs, h⟩ := h
  have HLT := Go.Lib.hid h.lt
  have hbl := rb.len
  generalize hR : appendD D s b = R
  have HR := Go.Lib.hid hR
  clear hR
  go_enter Tryz.func52, Tryz.ntmps52
  go_wp2_with fail
  refine (refBurn_any g D F A n cap cs w h ok.left).mono ?_
  rintro e w1 ⟨rfl, h1, g1⟩
  have rb1 := Rd.grown rb g1 h.apart.2
  have c1 : Ch F w w1 := Ch.of_grown g1 (fun r e => by injection e with e; subst e; exact .inl h.fg)
  by_cases h0 : D.left = 0
  · have hb0 : burnD D = D := by
      unfold burnD
      rw [if_neg (by omega)]
    rw [hb0] at h1
    obtain rfl : R = (14, D) := by rw [← HR.out]; unfold appendD; rw [if_pos h0]
    rw [decide_eq_true h0]
    have HD := Go.Lib.hid (Did.of (c := 14) h1 HLT.out c1)
    clear HR h1 c1 g1 h0 hb0
    go_wp2_with fail
    go_ret
    exact HD.out
  rw [decide_eq_false h0]
  have HR1 : Hid (appendC (burnD D) s b = R) := Go.Lib.hid (by rw [← HR.out]; unfold appendD; rw [if_neg h0])
  have ok1 := burn_ok ok
  clear HR h0 h ok rb g1
  generalize burnD D = D1 at *
  go_wp2_with fail
  refine (refMayN_any s w1 hs).mono ?_
  rintro e w' ⟨rfl, rfl⟩
  cases hmay : mayN s with
  | false =>
    obtain rfl : R = (5, D1) := by rw [← HR1.out]; unfold appendC; rw [if_pos hmay]
    have HD := Go.Lib.hid (Did.of (c := 5) h1 HLT.out c1)
    clear HR1 h1 c1 hmay
    go_wp2_with fail
    go_ret
    exact HD.out
  | true =>
    have HR2 : Hid ((if 65536 < (fileOf D1.fs s).b.length + b.length ∨ (¬ idxF D1.fs s < D1.fs.length ∧ 200 ≤ D1.fs.length) then (3, D1) else if D1.quota < (usedF D1.fs + b.length : Nat) then (10, D1) else (0, ⟨D1.quota, D1.left, putF D1.fs ⟨s, (fileOf D1.fs s).b ++ b, (fileOf D1.fs s).safe⟩⟩)) = R) := Go.Lib.hid (by
      rw [← HR1.out]
      unfold appendC
      rw [if_neg (show ¬ mayN s = false by rw [hmay]; decide)])
    clear HR1 hmay
    go_wp2_with fail
    refine (refAt_any g D1 F A n cap cs s w1 h1).mono ?_
    rintro e w' ⟨rfl, rfl⟩
    have hn : n ≤ 200 := by rw [← h1.len]; exact ok1.len
    have HN := Go.Lib.hid h1.len
    have HFB := Go.Lib.hid (fun f hf => (ok1.fls f hf).1)
    have HAT : Hid (atI D1.fs s = if idxF D1.fs s < D1.fs.length then (idxF D1.fs s : Int) else -1) := Go.Lib.hid rfl
    have HFO : Hid (fileOf D1.fs s = if idxF D1.fs s < D1.fs.length then D1.fs.getD (idxF D1.fs s) noFl else ⟨s, [], 0⟩) := Go.Lib.hid rfl
    have HNM := Go.Lib.hid (fun h => idxF_name (fs := D1.fs) (s := s) h)
    generalize fileOf D1.fs s = f at *
    generalize atI D1.fs s = kz at *
    generalize hki : idxF D1.fs s = k at *
    clear hki
    have al : Below w1.heap.size w1 (w1.alloc (.cells #[.string s, .slice none 0 0, .int .i64 0] 99)) := (Below.refl _ _).alloc (Nat.le_refl _) _
    have x2 := FAt.new w1 (.string s) (.slice none 0 0) (.int .i64 0)
    go_upto_region 9 with (fail)
    generalize w1.alloc (.cells #[.string s, .slice none 0 0, .int .i64 0] 99) = w2 at *
    go_upto_if 24 with (fail)
    go_cut [9] (fun v wx => v = .int .i64 kz ∧ Below w1.heap.size w1 wx ∧ ∃ nm Bf nf cf, FAt wx w1.heap.size (.string nm) (.slice Bf nf cf) (.int .i64 f.safe) ∧ Rd w1 Bf nf cf f.b ∧ f.b.length ≤ 65536)
    case first =>
      have z0 := x2.frozen 0
      have z1 := x2.frozen 1
      have z2 := x2.frozen 2
      have y0 := x2.c0
      have y1 := x2.c1
      have y2 := x2.c2
      by_cases hk : k < D1.fs.length
      · obtain rfl : kz = (k : Int) := by rw [HAT.out, if_pos hk]
        obtain rfl : f = D1.fs.getD k noFl := by rw [HFO.out, if_pos hk]
        have h65 := HFB.out _ (fl_get hk)
        obtain ⟨bo, o, B, nb, cb', rfl, x0', x1', x2', rB, _⟩ := h1.files (i := k) (by rw [← h1.len]; exact hk)
        have k2 := bcell al h1.c2
        have q0 := bcell al x0'
        have q1 := bcell al x1'
        have q2 := bcell al x2'
        have i0 : (0 : Int) ≤ k := by omega
        have i1 : (k : Int) < n := by rw [← h1.len]; omega
        have X := Go.Lib.hid (x2.all (.string (D1.fs.getD k noFl).name) (.slice B nb cb') (.int .i64 (D1.fs.getD k noFl).safe))
        have BB := Go.Lib.hid (bel_all3 al (Nat.le_refl w1.heap.size) (.string (D1.fs.getD k noFl).name) (.slice B nb cb') (.int .i64 (D1.fs.getD k noFl).safe))
        have RB := Go.Lib.hid rB.rd
        have H65 := Go.Lib.hid h65
        clear HAT HFO HNM HFB HR2 rB h65 x0' x1' x2'
        generalize D1.fs.getD k noFl = f at *
        go_wp2_with fail
        go_meet
        exact ⟨rfl, BB.out, _, _, _, _, X.out, RB.out, H65.out⟩
      · obtain rfl : kz = -1 := by rw [HAT.out, if_neg hk]
        obtain rfl : f = ⟨s, [], 0⟩ := by rw [HFO.out, if_neg hk]
        clear HAT HFO HNM HFB HR2
        go_wp2_with fail
        go_meet
        exact ⟨rfl, al, _, _, _, _, x2, Rd.nil _, by simp⟩
    case rest =>
      obtain ⟨rfl, bwc, nm, Bf, nf, cf, xc, rf1, hf65⟩ := hcut
      clear x2 al
      have hc := h1.below bwc
      have cc := c1.then_below bwc
      have k2 := hc.c2
      have y1 := xc.c1
      have hnf := rf1.len
      have hD1 := HN.out
      go_upto_region 11 with (fail)
      go_cut [50] (fun v wx => v = .bool (decide (65536 < f.b.length + b.length ∨ (¬ k < D1.fs.length ∧ 200 ≤ D1.fs.length))) ∧ wc = wx)
      case first =>
        by_cases hbig : 65536 < f.b.length + b.length
        · have hd : decide (65536 < f.b.length + b.length ∨ (¬ k < D1.fs.length ∧ 200 ≤ D1.fs.length)) = true := decide_eq_true (.inl hbig)
          have HD := Go.Lib.hid hd
          have i0 : (65536 : Int) < (nf : Int) + m := by omega
          clear hd HR2 HAT HFO HNM hbig
          go_wp2_with fail
          go_meet
          exact ⟨by rw [HD.out], rfl⟩
        · have i0 : ¬ (65536 : Int) < (nf : Int) + m := by omega
          by_cases hk : k < D1.fs.length
          · have hd : decide (65536 < f.b.length + b.length ∨ (¬ k < D1.fs.length ∧ 200 ≤ D1.fs.length)) = false := decide_eq_false (fun h => by rcases h with h | h; exact hbig h; exact h.1 hk)
            have HD := Go.Lib.hid hd
            have i1 : ¬ kz < 0 := by rw [HAT.out, if_pos hk]; omega
            clear hd HR2 HAT HFO HNM hbig hk
            go_wp2_with fail
            go_meet
            exact ⟨by rw [HD.out], rfl⟩
          · have i1 : kz < 0 := by rw [HAT.out, if_neg hk]; decide
            by_cases h2 : 200 ≤ n
            · have hd : decide (65536 < f.b.length + b.length ∨ (¬ k < D1.fs.length ∧ 200 ≤ D1.fs.length)) = true := decide_eq_true (.inr ⟨hk, by omega⟩)
              have HD := Go.Lib.hid hd
              have i2 : (200 : Int) ≤ n := by omega
              clear hd HR2 HAT HFO HNM hbig hk
              go_wp2_with fail
              go_meet
              exact ⟨by rw [HD.out], rfl⟩
            · have hd : decide (65536 < f.b.length + b.length ∨ (¬ k < D1.fs.length ∧ 200 ≤ D1.fs.length)) = false := decide_eq_false (fun h => by rcases h with h | h; exact hbig h; omega)
              have HD := Go.Lib.hid hd
              have i2 : ¬ (200 : Int) ≤ n := by omega
              clear hd HR2 HAT HFO HNM hbig hk
              go_wp2_with fail
              go_meet
              exact ⟨by rw [HD.out], rfl⟩
      case rest =>
        obtain ⟨rfl, rfl⟩ := hcut
        by_cases hbig : 65536 < f.b.length + b.length ∨ (¬ k < D1.fs.length ∧ 200 ≤ D1.fs.length)
        · obtain rfl : R = (3, D1) := by rw [← HR2.out, if_pos hbig]
          rw [decide_eq_true hbig]
          have HD := Go.Lib.hid (Did.of (c := 3) hc HLT.out cc)
          clear HR2 hbig HAT HFO HNM
          go_wp2_with fail
          go_ret
          exact HD.out
        · rw [decide_eq_false hbig]
          have HR3 : Hid ((if D1.quota < (usedF D1.fs + b.length : Nat) then (10, D1) else (0, ⟨D1.quota, D1.left, putF D1.fs ⟨s, f.b ++ b, f.safe⟩⟩)) = R) := Go.Lib.hid (by rw [← HR2.out, if_neg hbig])
          have hsum : f.b.length + b.length ≤ 65536 := by omega
          have hu := usedF_le (fs := D1.fs) HFB.out
          have hq := ok1.quota
          clear HR2 hbig HAT HFO HNM k2 y1
          have k0 := hc.c0
          have b0 : Below wc.heap.size wc wc.drew := bel_drew (Below.refl _ _)
          have hcd := hc.below b0
          generalize hU : usedF D1.fs = U at *
          have HU := Go.Lib.hid hU
          clear hU
          have hw : IntKind.i64.wrap ((U : Int) + m) = (U : Int) + m := IntWalk.i64_in _ (by omega)
          go_wp2_with fail
          go_region_held (fun w' => w'.cell? ⟨g, 0, none⟩ = some (.int .i64 D1.quota))
            (first | exact k0 | exact bcell b8 k0)
            (first | (go_at_call 88; refine (refUsed_bel g D1 F A n cap cs wc.drew hcd (by omega) HFB.out).mono ?_; rintro e w8 ⟨rfl, bb⟩; rw [HU.out]; have b8 := below_chain b0 bb; clear bb))
          have h8 := hc.below b8
          have c8 := cc.then_below b8
          have x8 := xc.below b8
          have B8 := below_chain bwc b8
          clear k0 b0 hcd hc cc xc bwc b8
          by_cases hov : D1.quota < (U + b.length : Nat)
          · obtain rfl : R = (10, D1) := by rw [← HR3.out, if_pos hov]
            have HD := Go.Lib.hid (Did.of (c := 10) h8 HLT.out c8)
            have i3 : D1.quota < (U : Int) + m := by omega
            clear HR3 hov
            go_wp2_with fail
            go_ret
            exact HD.out
          · have hR4 : (0, ⟨D1.quota, D1.left, putF D1.fs ⟨s, f.b ++ b, f.safe⟩⟩) = R := by rw [← HR3.out, if_neg hov]
            have i3 : ¬ D1.quota < (U : Int) + m := by omega
            clear HR3 hov
            subst hR4
            have r8 := rf1.below B8
            have p8 := rb1.below B8
            have f1 := x8.c1
            have f2 := x8.c2
            have bd1 : Below w8.heap.size w8 (w8.alloc (.cells #[] 5)).drew := bel_drew ((Below.refl _ _).alloc (Nat.le_refl _) _)
            have ow1 : Own (w8.alloc (.cells #[] 5)).drew w8.heap.size 5 (some ⟨w8.heap.size, 0, none⟩) 0 0 [] := Own.empty w8 5 (Nat.le_refl _)
            have rd1 := r8.below bd1
            have e1 := x8.below bd1
            have wz8 : w.heap.size ≤ w8.heap.size := c8.size
            have wz1 : w.heap.size ≤ w1.heap.size := c1.size
            have xlt := x8.lt
            have hn8 : ∀ k, F k → k < w8.heap.size := fun k hk => Nat.lt_of_lt_of_le (HLT.out k hk) wz8
            have HN8 := Go.Lib.hid hn8
            have hxF : ¬ w1.heap.size = g := fun hf => by have := HLT.out _ h1.fg; omega
            clear hn8
            go_wp2_with fail
            go_region_held_law (fun w' => w'.cell? ⟨w1.heap.size, 1, none⟩ = some (.slice Bf nf cf) ∧ w'.cell? ⟨w1.heap.size, 2, none⟩ = some (.int .i64 f.safe))
              (first | exact ⟨f1, f2⟩ | exact ⟨e1.c1, e1.c2⟩ | exact ⟨x5.c1, x5.c2⟩ | exact ⟨x6.c1, x6.c2⟩ | exact ⟨x9.c1, x9.c2⟩)
              (first
                | (refine step_append_fresh (by rfl) (.tmp 63) (.tmp 65) 58 rfl 5 Tryz.underlying58 u8_info rfl rfl ow1 rd1 (by omega) bd1.size w8 bd1 ?_; intro A5 c5 w5 o5 b5; have x5 := x8.below b5; (try go_simp))
                | (refine step_append_more (by rfl) (.tmp 66) (.tmp 67) 58 rfl 5 Tryz.underlying58 u8_info rfl rfl o5 (p8.below b5) (by omega) b5.size w8 b5 ?_; intro A6 c6 w6 o6 b6; have x6 := x8.below b6; have h6 := (h8.below b6).wide (G := up F w8 w6) (fun _ hf => .inl hf) (fun _ hk => up_lt HN8.out b6.size hk); (try go_simp))
                | (go_simp; go_at_call 55; refine (refPutF_any g D1 (up F w8 w6) A n cap cs ⟨s, f.b ++ b, f.safe⟩ A6 (nf + m) c6 w6 h6 (by omega) (own8_lower o6) (fun a ha => by subst ha; have := World.ownsRow.lt o6 a.block rfl; exact .inr this)).mono ?_; rintro e w9 ⟨rfl, r9, c9⟩; have x9 : FAt w9 w1.heap.size (.string nm) (.slice Bf nf cf) (.int .i64 f.safe) := (c9.block _ x6.lt hxF).trans x6))
            have C9 : Ch F w w9 := (c8.then_below b6).trans (c9.wide (fun k hk => .inl (by rw [hk]; exact h1.fg)))
            have R9 : RefIs w9 g ⟨D1.quota, D1.left, putF D1.fs ⟨s, f.b ++ b, f.safe⟩⟩ (up F w w9) := by
              obtain ⟨A', n', cap', cs', hh⟩ := r9
              refine ⟨A', n', cap', cs', hh.wide (fun k hk => ?_) (fun k hk => up_lt HLT.out C9.size hk)⟩
              have h2 := up_up b6.size c9.size hk
              rcases h2 with h2 | h2
              · exact .inl h2
              · exact .inr ⟨by omega, h2.2⟩
            have HD := Go.Lib.hid (show Did 0 ⟨D1.quota, D1.left, putF D1.fs ⟨s, f.b ++ b, f.safe⟩⟩ g F w (.returned (.int .i64 0)) w9 from ⟨rfl, R9, C9⟩)
            clear C9 R9 r9 c9
            go_wp2_with fail
            go_ret
            exact HD.out
end Go.Proofs.YtppidbdkejkopaaGreatDoor.DkWalk
namespace Go.Proofs.YtppidbdkejkopaaGreatDoor.DkWalk
open Go.RowKit MemRow Ev NameMath NameWalk EvWalk NumMem
theorem RefIs.wide {w : World} {g : Nat} {D : Dk} {F G : Nat → Prop} (h : RefIs w g D F) (hs : ∀ k, F k → G k) (hl : ∀ k, G k → k < w.heap.size) : RefIs w g D G := by
  obtain ⟨A, n, cap, cs, h⟩ := h
  exact ⟨A, n, cap, cs, h.wide hs hl⟩
theorem Did.join {c : Int} {D' : Dk} {g : Nat} {F : Nat → Prop} {w w1 w' : World} (c1 : Ch F w w1) (hlt : ∀ k, F k → k < w.heap.size) (hg : F g) (r : RefIs w' g D' (up F w1 w')) (c2 : Ch (fun k => k = g) w1 w') : Did c D' g F w (.returned (.int .i64 c)) w' :=
  have hc := c1.trans (c2.wide (fun _ hk => .inl (by rw [hk]; exact hg)))
  ⟨rfl, r.wide (fun k hk => by
    rcases hk with hk | hk
    · exact .inl hk
    · exact .inr ⟨Nat.le_trans c1.size hk.1, hk.2⟩) (fun k hk => up_lt hlt hc.size hk), hc⟩
def readC (D : Dk) (s : ByteArray) : Int := if idxF D.fs s < D.fs.length then 0 else 11
def readB (D : Dk) (s : ByteArray) : List UInt8 := if idxF D.fs s < D.fs.length then (D.fs.getD (idxF D.fs s) noFl).b else []
set_option maxHeartbeats 4000000 in
set_option maxRecDepth 100000 in
theorem refRead_any (g : Nat) (D : Dk) (F : Nat → Prop) (s : ByteArray) (w : World) (h : RefIs w g D F) (ok : DkOk D) :
    Calls Tryz.prog 41 #[.pointer (some ⟨g, 0, none⟩), .string s] w fun e w' => ∃ B m c, e = .returned (.tuple #[.slice B m c, .int .i64 (readC D s)]) ∧ Rd w' B m c (readB D s) ∧ Below w.heap.size w w' := by
  obtain ⟨A, n, cap, cs, h⟩ := h
  by_cases hk : idxF D.fs s < D.fs.length
  · have e1 : readC D s = 0 := by unfold readC; rw [if_pos hk]
    have e2 : readB D s = (D.fs.getD (idxF D.fs s) noFl).b := by unfold readB; rw [if_pos hk]
    have e3 : atI D.fs s = (idxF D.fs s : Int) := by unfold atI; rw [if_pos hk]
    have h65 := (ok.fls _ (fl_get hk)).1
    rw [e1, e2]
    go_enter Tryz.func41, Tryz.ntmps41
    go_wp2_with fail
    refine (refAt_any g D F A n cap cs s w h).mono ?_
    rintro e w' ⟨rfl, rfl⟩
    rw [e3]
    have hkn : idxF D.fs s < n := by rw [← h.len]; exact hk
    have al : Below w.heap.size w (w.alloc (.cells #[] 5)) := (Below.refl _ _).alloc (Nat.le_refl _) _
    have ha := h.below al
    obtain ⟨b, o, B, nb, cb, rfl, x0, x1, x2, rB, _⟩ := ha.files hkn
    have hnb := rB.len
    have k2 := ha.c2
    have i0 : (0 : Int) ≤ idxF D.fs s := by omega
    have i1 : (idxF D.fs s : Int) < n := by omega
    clear e1 e2 e3
    generalize hki : idxF D.fs s = k at *
    have HKI := Go.Lib.hid hki
    clear hki
    go_wp2_with (at_builtin; refine wpList_append_fresh rfl (.tmp 12) (.tmp 20) 58 rfl 5 Tryz.underlying58 u8_info rfl rfl (Own.empty w 5 (Nat.le_refl _)) rB.rd (by omega) al.size w al ?_; intro A5 c5 w5 o5 b5)
    go_ret2
    exact ⟨_, _, _, rfl, by rw [HKI.out]; exact o5.rd, b5⟩
  · have e1 : readC D s = 11 := by unfold readC; rw [if_neg hk]
    have e2 : readB D s = [] := by unfold readB; rw [if_neg hk]
    have e3 : atI D.fs s = -1 := by unfold atI; rw [if_neg hk]
    rw [e1, e2]
    go_enter Tryz.func41, Tryz.ntmps41
    go_wp2_with fail
    refine (refAt_any g D F A n cap cs s w h).mono ?_
    rintro e w' ⟨rfl, rfl⟩
    rw [e3]
    go_wp2_with fail
    go_ret2
    exact ⟨none, 0, 0, rfl, Rd.nil _, Below.refl _ _⟩
def names (fs : List Fl) : List ByteArray := fs.map (·.name)
theorem string_info : (Tryz.prog.info? 9).map (fun i => (i.zero, i.size, i.bytes)) = some (some (.string ByteArray.empty), 1, 16) := by kernel_rfl
set_option maxHeartbeats 4000000 in
set_option maxRecDepth 100000 in
theorem refList_any (g : Nat) (D : Dk) (F : Nat → Prop) (w : World) (h : RefIs w g D F) (ok : DkOk D) :
    Calls Tryz.prog 58 #[.pointer (some ⟨g, 0, none⟩)] w fun e w' => ∃ B m c, e = .returned (.slice B m c) ∧ RdS w' B m c (names D.fs) ∧ Below w.heap.size w w' := by
  obtain ⟨A, n, cap, cs, h⟩ := h
  have HL := Go.Lib.hid h.len
  have hn : n ≤ 200 := by rw [← h.len]; exact ok.len
  go_enter Tryz.func58, Tryz.ntmps58
  go_upto_region 2 with (fail)
  have b1 : Below w.heap.size w (w.alloc (.cells #[] 9)) := (Below.refl _ _).alloc (Nat.le_refl _) _
  have o1 : OwnC 1 (w.alloc (.cells #[] 9)) w.heap.size 9 (some ⟨w.heap.size, 0, none⟩) 0 0 (MemRow.strs (names (D.fs.take 0))) := OwnC.empty w _ (Nat.le_refl _)
  generalize w.alloc (.cells #[] 9) = w1 at *
  go_wp2_with fail
  go_loopw [3, 4] (fun o i wr => ∃ (j : Nat) (B : Option Addr) (c : Nat), j ≤ n ∧ o = .slice B j c ∧ i = .int .i64 j ∧ OwnC 1 wr w.heap.size 9 B j c (MemRow.strs (names (D.fs.take j))) ∧ Below w.heap.size w wr) (fun _ i _ => n - (intOf i).toNat)
  case atStart => exact ⟨0, _, 0, Nat.zero_le _, rfl, rfl, o1, b1⟩
  case round =>
    obtain ⟨j, B, c, hj, rfl, rfl, oq, bq⟩ := hrel
    clear o1 b1
    have hr := h.below bq
    have k2 := hr.c2
    by_cases hlt : j < n
    · obtain ⟨b, o, Bx, nx, cx, rfl, x0, x1, x2, rx, _⟩ := hr.files hlt
      have i1 : (j : Int) < n := by omega
      have hjl : j < D.fs.length := by rw [HL.out]; exact hlt
      have HT : Hid (MemRow.strs (names (D.fs.take (j + 1))) = MemRow.strs (names (D.fs.take j)) ++ MemRow.strs [(D.fs.getD j noFl).name]) := Go.Lib.hid (by rw [fl_take _ _ hjl, ← strs_append]; simp [names])
      clear rx hjl
      generalize (D.fs.getD j noFl).name = nm at *
      have al : Below wr.heap.size wr (wr.alloc (.cells #[.string nm] 9)) := (Below.refl _ _).alloc (Nat.le_refl _) _
      have o4 := OwnC.below oq al
      have b4 := below_chain bq al
      have d4 : RdC 1 (wr.alloc (.cells #[.string nm] 9)) (some ⟨wr.heap.size, 0, none⟩) 1 1 (MemRow.strs [nm]) := RdC.new wr 9 (MemRow.strs [nm]) rfl (by decide)
      have h63 : j + 1 ≤ maxLen := by unfold maxLen; omega
      have hsz : (j + 1) * 16 ≤ 140737488355328 := by omega
      go_wp2_with (at_builtin; refine wpList_append_cells rfl (.tmp 15) (.tmp 24) 61 rfl 9 (.string ByteArray.empty) 16 Tryz.underlying61 string_info rfl (by decide) rfl rfl o4 d4 (strs_one [nm]) h63 hsz b4.size ?_; intro A8 c8 w8 o8 g8 _)
      go_roundw
      case rel =>
        have low := fun r e => row_low o4 (r := r) e
        exact ⟨j + 1, A8, c8, by omega, rfl, by go_num, by rw [HT.out]; exact o8, b4.grown g8 b4.size (fun r e => low r e)⟩
      case measure => simp [intOf]; omega
    · obtain rfl : n = j := by omega
      have ht : D.fs.take n = D.fs := List.take_of_length_le (by rw [HL.out]; exact Nat.le_refl _)
      rw [ht] at oq
      go_wp2_with fail
      go_ret
      exact ⟨_, _, _, rfl, OwnC.rd oq, bq⟩
def removeC (D : Dk) (s : ByteArray) : Int × Dk := if idxF D.fs s < D.fs.length then (0, ⟨D.quota, D.left, dropF D.fs s⟩) else (11, D)
def removeD (D : Dk) (s : ByteArray) : Int × Dk := if D.left = 0 then (14, D) else removeC (burnD D) s
set_option maxHeartbeats 4000000 in
set_option maxRecDepth 100000 in
theorem refRemove_any (g : Nat) (D : Dk) (F : Nat → Prop) (s : ByteArray) (w : World) (h : RefIs w g D F) (ok : DkOk D) :
    Calls Tryz.prog 44 #[.pointer (some ⟨g, 0, none⟩), .string s] w (fun e w' => Did (removeD D s).1 (removeD D s).2 g F w e w') := by
  obtain ⟨A, n, cap, cs, h⟩ := h
  have HLT := Go.Lib.hid h.lt
  generalize hR : removeD D s = R
  have HR := Go.Lib.hid hR
  clear hR
  go_enter Tryz.func44, Tryz.ntmps44
  go_wp2_with fail
  refine (refBurn_any g D F A n cap cs w h ok.left).mono ?_
  rintro e w1 ⟨rfl, h1, g1⟩
  have c1 : Ch F w w1 := Ch.of_grown g1 (fun r e => by injection e with e; subst e; exact .inl h.fg)
  by_cases h0 : D.left = 0
  · have hb0 : burnD D = D := by
      unfold burnD
      rw [if_neg (by omega)]
    rw [hb0] at h1
    obtain rfl : R = (14, D) := by rw [← HR.out]; unfold removeD; rw [if_pos h0]
    rw [decide_eq_true h0]
    have HD := Go.Lib.hid (Did.of (c := 14) h1 HLT.out c1)
    clear HR h1 c1 g1 h0 hb0
    go_wp2_with fail
    go_ret
    exact HD.out
  rw [decide_eq_false h0]
  have HR1 : Hid (removeC (burnD D) s = R) := Go.Lib.hid (by rw [← HR.out]; unfold removeD; rw [if_neg h0])
  have ok1 := burn_ok ok
  clear HR h0 h ok g1
  generalize burnD D = D1 at *
  go_wp2_with fail
  refine (refAt_any g D1 F A n cap cs s w1 h1).mono ?_
  rintro e w' ⟨rfl, rfl⟩
  have hn : n ≤ 1000 := by rw [← h1.len]; have := ok1.len; omega
  by_cases hk : idxF D1.fs s < D1.fs.length
  · have e3 : atI D1.fs s = (idxF D1.fs s : Int) := by unfold atI; rw [if_pos hk]
    obtain rfl : R = (0, ⟨D1.quota, D1.left, dropF D1.fs s⟩) := by rw [← HR1.out]; unfold removeC; rw [if_pos hk]
    rw [e3]
    have i0 : ¬ (idxF D1.fs s : Int) < 0 := by omega
    have HK := Go.Lib.hid hk
    clear HR1 e3 hk
    generalize hki : idxF D1.fs s = k at *
    have HKI := Go.Lib.hid hki
    clear hki
    go_wp2_with fail
    refine (refDrop_any g D1 F A n cap cs s w1 h1 hn (by rw [HKI.out]; exact HK.out)).mono ?_
    rintro e w2 ⟨rfl, r2, c2⟩
    have HD := Go.Lib.hid (Did.join (c := 0) c1 HLT.out h1.fg r2 c2)
    clear r2 c2 c1
    go_wp2_with fail
    go_ret
    exact HD.out
  · have e3 : atI D1.fs s = -1 := by unfold atI; rw [if_neg hk]
    obtain rfl : R = (11, D1) := by rw [← HR1.out]; unfold removeC; rw [if_neg hk]
    rw [e3]
    have HD := Go.Lib.hid (Did.of (c := 11) h1 HLT.out c1)
    clear HR1 e3 hk h1 c1
    go_wp2_with fail
    go_ret
    exact HD.out
end Go.Proofs.YtppidbdkejkopaaGreatDoor.DkWalk
namespace Go.Proofs.YtppidbdkejkopaaGreatDoor.DkWalk
open Go.RowKit MemRow Ev NameMath NameWalk EvWalk NumMem
theorem dropF_len {fs : List Fl} {s : ByteArray} (h : idxF fs s < fs.length) : (dropF fs s).length + 1 = fs.length := by
  unfold dropF
  rw [List.length_append, List.length_take, List.length_drop]
  omega
theorem Did.then_box {c : Int} {D' : Dk} {g : Nat} {F : Nat → Prop} {w w1 w2 w' : World} (c1 : Ch F w w1) (hlt : ∀ k, F k → k < w.heap.size) (hg : F g) (c2 : Ch (fun k => k = g) w1 w2) (r : RefIs w' g D' (up (up F w1 w2) w2 w')) (c3 : Ch (fun k => k = g) w2 w') : Did c D' g F w (.returned (.int .i64 c)) w' := by
  have c12 : Ch (fun k => k = g) w1 w' := c2.trans (c3.wide (fun _ hk => .inl hk))
  exact Did.join c1 hlt hg (r.wide (fun k hk => up_up c2.size c3.size hk) (fun k hk => up_lt (fun k hk => Nat.lt_of_lt_of_le (hlt k hk) c1.size) c12.size hk)) c12
end Go.Proofs.YtppidbdkejkopaaGreatDoor.DkWalk
namespace Go.Proofs.YtppidbdkejkopaaGreatDoor.DkWalk
open Go.RowKit MemRow Ev NameMath NameWalk EvWalk NumMem
theorem own_set {k : Nat} {w : World} {base : Nat} {t : TypeId} {A : Option Addr} {n cap blk : Nat} {cs : List Value} (h : OwnC k w base t A n cap cs) (hA : A = some ⟨blk, 0, none⟩) (i : Nat) (x : Value) : OwnC k (w.setCell ⟨blk, i, none⟩ x) base t A n cap (cs.set i x) := by
  subst hA
  refine ⟨by rw [List.length_set]; exact h.1, ?_⟩
  rcases h.2 with ⟨hv, _⟩ | ⟨g, c, cur, hv, hb, hg, h1, h2, h3, h4⟩
  · cases hv
  · injection hv with e1 e2 e3
    injection e1 with e1
    injection e1 with e1 _ _
    subst e1 e3
    refine .inr ⟨blk, cap, cur.setIfInBounds i x, rfl, hb, ?_, h1, h2, by rw [Array.size_setIfInBounds]; exact h3, ?_⟩
    · simp only [World.setCell, Array.getElem?_modify, hg]
      rfl
    · rw [Array.toList_setIfInBounds, List.take_set, h4]
theorem own_zero {k : Nat} {w : World} {base : Nat} {t : TypeId} {A : Option Addr} {n cap b o : Nat} {cs : List Value} (h : OwnC k w base t A n cap cs) (hA : A = some ⟨b, o, none⟩) : o = 0 ∧ (∀ i, w.frozen? ⟨b, i, none⟩ = false) ∧ ∃ x fr, w.heap[b]? = some (.cells x t fr) := by
  subst hA
  rcases h.2 with ⟨hv, _⟩ | ⟨g, c, cur, hv, _, hg, _⟩
  · cases hv
  · injection hv with e1 e2 e3
    injection e1 with e1
    injection e1 with e1 e4 _
    subst e1
    exact ⟨e4, fun i => by simp [World.frozen?, hg], _, _, hg⟩
theorem FlsR.set {w : World} {F : Nat → Prop} : ∀ (fs : List Fl) (cs : List Value) (j : Nat) (k : Nat), FlsR w F fs cs → j < fs.length → FlsR w F (fs.set j ⟨(fs.getD j noFl).name, (fs.getD j noFl).b, k⟩) (cs.set (j * 3 + 2) (.int .i64 k))
  | [], _, j, _, _, hj => by simp at hj
  | f :: fs, cs, 0, k, ⟨B, nb, cb, cs', hc, r, hb, h⟩, _ => by
    subst hc
    exact ⟨B, nb, cb, cs', rfl, r, hb, h⟩
  | f :: fs, cs, j + 1, k, ⟨B, nb, cb, cs', hc, r, hb, h⟩, hj => by
    subst hc
    have e3 : (j + 1) * 3 + 2 = (j * 3 + 2) + 3 := by omega
    rw [e3]
    exact ⟨B, nb, cb, cs'.set (j * 3 + 2) (.int .i64 k), by simp, r, hb, by simpa using FlsR.set fs cs' j k h (by simpa using hj)⟩
theorem Did.drew {c : Int} {D' : Dk} {g : Nat} {F : Nat → Prop} {w w' : World} {e : Ending} (h : Did c D' g F w e w') : Did c D' g F w e w'.drew := by
  obtain ⟨h1, ⟨A, n, cap, cs, h2⟩, h3⟩ := h
  have hb : Below w'.heap.size w' w'.drew := bel_drew (Below.refl _ _)
  exact ⟨h1, ⟨A, n, cap, cs, h2.below hb⟩, h3.then_below hb⟩
def syncF (fs : List Fl) (s : ByteArray) : List Fl := fs.set (idxF fs s) ⟨(fs.getD (idxF fs s) noFl).name, (fs.getD (idxF fs s) noFl).b, (fs.getD (idxF fs s) noFl).b.length⟩
def syncC (D : Dk) (s : ByteArray) : Int × Dk := if ¬ idxF D.fs s < D.fs.length then (11, D) else (0, ⟨D.quota, D.left, syncF D.fs s⟩)
def syncD (D : Dk) (s : ByteArray) : Int × Dk := if D.left = 0 then (14, D) else syncC (burnD D) s
theorem RefAt.setS {w : World} {g : Nat} {D : Dk} {F : Nat → Prop} {A : Option Addr} {n cap b o : Nat} {cs : List Value} (h : RefAt w g D F A n cap cs) (hA : A = some ⟨b, o, none⟩) {j : Nat} (hj : j < D.fs.length) (k : Nat) :
    RefAt (w.setCell ⟨b, o + j * 3 + 2, none⟩ (.int .i64 k)) g ⟨D.quota, D.left, D.fs.set j ⟨(D.fs.getD j noFl).name, (D.fs.getD j noFl).b, k⟩⟩ F A n cap (cs.set (j * 3 + 2) (.int .i64 k)) ∧ Ch F w (w.setCell ⟨b, o + j * 3 + 2, none⟩ (.int .i64 k)) ∧ w.frozen? ⟨b, o + j * 3 + 2, none⟩ = false := by
  obtain ⟨rfl, hf, x, fr, hx⟩ := own_zero h.own hA
  have e0 : 0 + j * 3 + 2 = j * 3 + 2 := by omega
  rw [e0]
  have hs := grownSet w b (j * 3 + 2) (.int .i64 k)
  have hbF := h.fa _ hA
  have hne : b ≠ g := own_not h.own h.box (by decide) _ hA
  refine ⟨⟨(hs.block g (h.lt g h.fg) (fun e => hne (by injection e with e; exact e.symm))).trans h.box, own_set h.own hA _ _, by rw [List.length_set]; exact h.len, ?_, h.fg, h.fa, fun k hk => Nat.lt_of_lt_of_le (h.lt k hk) hs.size⟩, Ch.of_grown hs (fun r e => by injection e with e; subst e; exact .inl hbF), hf _⟩
  exact FlsR.set _ _ j k (FlsR.map (fun _ _ _ _ r _ => own8_grown r hs (fun a ha e => own8_not r hx (by decide) a ha (by injection e))) (fun _ hf => hf) _ _ h.fls) hj
set_option maxHeartbeats 4000000 in
set_option maxRecDepth 100000 in
theorem refSync_any (g : Nat) (D : Dk) (F : Nat → Prop) (s : ByteArray) (w : World) (h : RefIs w g D F) (ok : DkOk D) :
    Calls Tryz.prog 43 #[.pointer (some ⟨g, 0, none⟩), .string s] w (fun e w' => Did (syncD D s).1 (syncD D s).2 g F w e w') := by
  obtain ⟨A, n, cap, cs, h⟩ := h
  have HLT := Go.Lib.hid h.lt
  generalize hR : syncD D s = R
  have HR := Go.Lib.hid hR
  clear hR
  go_enter Tryz.func43, Tryz.ntmps43
  go_wp2_with fail
  refine (refBurn_any g D F A n cap cs w h ok.left).mono ?_
  rintro e w1 ⟨rfl, h1, g1⟩
  have c1 : Ch F w w1 := Ch.of_grown g1 (fun r e => by injection e with e; subst e; exact .inl h.fg)
  by_cases h0 : D.left = 0
  · have hb0 : burnD D = D := by
      unfold burnD
      rw [if_neg (by omega)]
    rw [hb0] at h1
    obtain rfl : R = (14, D) := by rw [← HR.out]; unfold syncD; rw [if_pos h0]
    rw [decide_eq_true h0]
    have HD := Go.Lib.hid (Did.of (c := 14) h1 HLT.out c1)
    clear HR h1 c1 g1 h0 hb0
    go_wp2_with fail
    go_ret
    exact HD.out
  rw [decide_eq_false h0]
  have HR1 : Hid (syncC (burnD D) s = R) := Go.Lib.hid (by rw [← HR.out]; unfold syncD; rw [if_neg h0])
  have ok1 := burn_ok ok
  clear HR h0 h ok g1
  generalize burnD D = D1 at *
  go_wp2_with fail
  refine (refAt_any g D1 F A n cap cs s w1 h1).mono ?_
  rintro e w' ⟨rfl, rfl⟩
  by_cases hk : idxF D1.fs s < D1.fs.length
  · have e3 : atI D1.fs s = (idxF D1.fs s : Int) := by unfold atI; rw [if_pos hk]
    have hR2 : (0, ⟨D1.quota, D1.left, syncF D1.fs s⟩) = R := by rw [← HR1.out]; unfold syncC; rw [if_neg (fun h => h hk)]
    unfold syncF at hR2
    rw [e3]
    have i0 : ¬ (idxF D1.fs s : Int) < 0 := by omega
    clear HR1 e3
    generalize idxF D1.fs s = k at *
    have hkn : k < n := by rw [← h1.len]; exact hk
    obtain ⟨b, o, B, nb, cb, hA, x0, x1, x2, rB, _⟩ := h1.files hkn
    obtain ⟨hs1, hs2, hz⟩ := h1.setS hA hk (D1.fs.getD k noFl).b.length
    have HS1 := Go.Lib.hid hs1
    have HS2 := Go.Lib.hid hs2
    have hnb := rB.len
    rw [hnb] at HS1 HS2 hR2
    have k2 := h1.c2
    have i1 : (0 : Int) ≤ k := by omega
    have i2 : (k : Int) < n := by omega
    generalize D1.fs.getD k noFl = f at *
    subst hA hR2
    have HD := Go.Lib.hid (Did.of (c := 0) HS1.out HLT.out (c1.trans (HS2.out.wide (fun _ hf => .inl hf))))
    clear HS1 HS2 hs1 hs2 c1
    go_wp2_with fail
    go_region_with (fail)
    all_goals
      go_wp2_with fail
      go_ret
      exact HD.out.drew
  · have e3 : atI D1.fs s = -1 := by unfold atI; rw [if_neg hk]
    obtain rfl : R = (11, D1) := by rw [← HR1.out]; unfold syncC; rw [if_pos hk]
    rw [e3]
    have HD := Go.Lib.hid (Did.of (c := 11) h1 HLT.out c1)
    clear HR1 e3 hk h1 c1
    go_wp2_with fail
    go_ret
    exact HD.out
end Go.Proofs.YtppidbdkejkopaaGreatDoor.DkWalk
namespace Go.Proofs.YtppidbdkejkopaaGreatDoor.DkWalk
open Go.RowKit MemRow Ev NameMath NameWalk EvWalk NumMem
theorem u8_size : (Tryz.prog.info? 5).map (·.size) = some 1 := by kernel_rfl
theorem elem_bytes : Tryz.prog.elem 58 = 5 := by kernel_rfl
theorem run_size_u8 (W : World) : (sizeOf 5).run Tryz.prog W = .ok 1 W := by
  have hi := u8_size
  cases hq : Tryz.prog.info? 5 with
  | none => simp [hq] at hi
  | some i =>
    have hs : i.size = 1 := by simpa [hq] using hi
    simp [sizeOf, typeInfo, hq, hs]
set_option maxRecDepth 100000 in
theorem slice_upto (A : Option Addr) (n cap m : Nat) (hc : m ≤ cap) (W : World) :
    (Instr.slice 58 (.slice A n cap) none (some (.int .i64 (m : Int))) none).run Tryz.prog W = .ok (.slice A m cap) W := by
  have hu : Tryz.prog.underlying 58 = some (.slice (Tryz.prog.elem 58)) := by rw [elem_bytes]; exact Tryz.underlying58
  have e : A.map (·.add 0) = A := by cases A <;> simp [Addr.add]
  rw [run_slice_h (P := Tryz.prog) W 58 _ n cap hu .i64 (m : Int) (by omega) (by omega), elem_bytes, run_size_u8]
  simp only [Result.andThen, sliced, Int.toNat_natCast, Nat.zero_mul, e, Nat.sub_zero]
  congr 2
  split <;> rfl
def truncC (D : Dk) (s : ByteArray) (z : Int) : Int × Dk :=
  if ¬ idxF D.fs s < D.fs.length then (11, D)
  else if z < 0 ∨ ((D.fs.getD (idxF D.fs s) noFl).b.length : Int) < z then (1, D)
  else (0, ⟨D.quota, D.left, putF D.fs ⟨s, (D.fs.getD (idxF D.fs s) noFl).b.take z.toNat, min (D.fs.getD (idxF D.fs s) noFl).safe z.toNat⟩⟩)
def truncD (D : Dk) (s : ByteArray) (z : Int) : Int × Dk := if D.left = 0 then (14, D) else truncC (burnD D) s z
set_option maxHeartbeats 2000000 in
set_option maxRecDepth 100000 in
theorem refTrunc_any (g : Nat) (D : Dk) (F : Nat → Prop) (s : ByteArray) (z : Int) (w : World) (h : RefIs w g D F) (ok : DkOk D) :
    Calls Tryz.prog 45 #[.pointer (some ⟨g, 0, none⟩), .string s, .int .i64 z] w (fun e w' => Did (truncD D s z).1 (truncD D s z).2 g F w e w') := by
  obtain ⟨A, n, cap, cs, h⟩ := h
  have HLT := Go.Lib.hid h.lt
  generalize hR : truncD D s z = R
  have HR := Go.Lib.hid hR
  clear hR
  go_enter Tryz.func45, Tryz.ntmps45
  go_wp2_with fail
  refine (refBurn_any g D F A n cap cs w h ok.left).mono ?_
  rintro e w1 ⟨rfl, h1, g1⟩
  have c1 : Ch F w w1 := Ch.of_grown g1 (fun r e => by injection e with e; subst e; exact .inl h.fg)
  by_cases h0 : D.left = 0
  · have hb0 : burnD D = D := by
      unfold burnD
      rw [if_neg (by omega)]
    rw [hb0] at h1
    obtain rfl : R = (14, D) := by rw [← HR.out]; unfold truncD; rw [if_pos h0]
    rw [decide_eq_true h0]
    have HD := Go.Lib.hid (Did.of (c := 14) h1 HLT.out c1)
    clear HR h1 c1 g1 h0 hb0
    go_wp2_with fail
    go_ret
    exact HD.out
  rw [decide_eq_false h0]
  have HR1 : Hid (truncC (burnD D) s z = R) := Go.Lib.hid (by rw [← HR.out]; unfold truncD; rw [if_neg h0])
  have ok1 := burn_ok ok
  clear HR h0 h ok g1
  generalize burnD D = D1 at *
  go_wp2_with fail
  refine (refAt_any g D1 F A n cap cs s w1 h1).mono ?_
  rintro e w' ⟨rfl, rfl⟩
  have hn : n ≤ 200 := by rw [← h1.len]; exact ok1.len
  by_cases hk : idxF D1.fs s < D1.fs.length
  · have e3 : atI D1.fs s = (idxF D1.fs s : Int) := by unfold atI; rw [if_pos hk]
    have hR2 : (if z < 0 ∨ ((D1.fs.getD (idxF D1.fs s) noFl).b.length : Int) < z then (1, D1) else (0, ⟨D1.quota, D1.left, putF D1.fs ⟨s, (D1.fs.getD (idxF D1.fs s) noFl).b.take z.toNat, min (D1.fs.getD (idxF D1.fs s) noFl).safe z.toNat⟩⟩)) = R := by
      rw [← HR1.out]
      unfold truncC
      rw [if_neg (show ¬ ¬ idxF D1.fs s < D1.fs.length from fun h => h hk)]
    have h65 := ok1.fls _ (fl_get hk)
    rw [e3]
    have i0 : ¬ (idxF D1.fs s : Int) < 0 := by omega
    clear HR1 e3
    generalize idxF D1.fs s = k at *
    have hkn : k < n := by rw [← h1.len]; exact hk
    obtain ⟨b, o, B, nb, cb, hA, x0, x1, x2, rB, hB⟩ := h1.files hkn
    have hnb := rB.len
    have k2 := h1.c2
    have i1 : (0 : Int) ≤ k := by omega
    have i2 : (k : Int) < n := by omega
    generalize D1.fs.getD k noFl = f at *
    have HR2 := Go.Lib.hid hR2
    have al : Below w1.heap.size w1 (w1.alloc (.cells #[.string f.name, .slice B nb cb, .int .i64 f.safe] 99)) := (Below.refl _ _).alloc (Nat.le_refl _) _
    have q3 := FAt.new w1 (.string f.name) (.slice B nb cb) (.int .i64 f.safe)
    have h3 := h1.below al
    have c3 := c1.then_below al
    have rB3 := rB.below al
    have hlt1 := h1.lt
    have hgF := h1.fg
    have wz1 := c1.size
    clear hR2
    rw [hA] at k2
    go_upto_region 8 with (fail)
    generalize w1.alloc (.cells #[.string f.name, .slice B nb cb, .int .i64 f.safe] 99) = w3 at *
    have HL1 := Go.Lib.hid hlt1
    clear x0 x1 x2 k2 rB al hlt1
    have f1 := q3.c1
    have f2 := q3.c2
    by_cases hbad : z < 0 ∨ (f.b.length : Int) < z
    · obtain rfl : R = (1, D1) := by rw [← HR2.out, if_pos hbad]
      have HD := Go.Lib.hid (Did.of (c := 1) h3 HLT.out c3)
      clear HR2 h3 c3 h1 c1
      rcases hbad with hz | hz
      · go_wp2_with fail
        go_ret
        exact HD.out
      · have hz0 : ¬ z < 0 := by omega
        have hz1 : (nb : Int) < z := by omega
        go_wp2_with fail
        go_ret
        exact HD.out
    · have hR3 : (0, ⟨D1.quota, D1.left, putF D1.fs ⟨s, f.b.take z.toNat, min f.safe z.toNat⟩⟩) = R := by rw [← HR2.out, if_neg hbad]
      obtain ⟨y, hy⟩ : ∃ y : Nat, z = y := ⟨z.toNat, by omega⟩
      subst hy
      rw [Int.toNat_natCast] at hR3
      have hmin : min (f.safe : Int) (y : Int) = ((min f.safe y : Nat) : Int) := by omega
      generalize min f.safe y = mn at *
      have HM := Go.Lib.hid hmin
      clear hmin
      subst hR3
      have hz0 : ¬ (y : Int) < 0 := by omega
      have hz1 : ¬ (nb : Int) < y := by omega
      have hyn : y ≤ nb := by omega
      clear HR2 hbad
      have rfy := rB3.rd.first hyn
      have qs := slice_upto B nb cb y (Nat.le_trans hyn rB3.rd.le_cap)
      have bd1 : Below w3.heap.size w3 (w3.alloc (.cells #[] 5)).drew := bel_drew ((Below.refl _ _).alloc (Nat.le_refl _) _)
      have ow1 : Own (w3.alloc (.cells #[] 5)).drew w3.heap.size 5 (some ⟨w3.heap.size, 0, none⟩) 0 0 [] := Own.empty w3 5 (Nat.le_refl _)
      have rd1 := rfy.below bd1
      have e1 := q3.below bd1
      have wz3 : w1.heap.size < w3.heap.size := q3.lt
      have HN3 : Hid (∀ k, F k → k < w3.heap.size) := Go.Lib.hid h3.lt
      have hxF : ¬ w1.heap.size = g := fun hf => by have := HL1.out _ hgF; omega
      go_upto_region 10 with (fail)
      go_region_held_law (fun w' => w'.cell? ⟨w1.heap.size, 1, none⟩ = some (.slice B nb cb) ∧ w'.cell? ⟨w1.heap.size, 2, none⟩ = some (.int .i64 f.safe))
        (first | exact ⟨f1, f2⟩ | exact ⟨e1.c1, e1.c2⟩ | exact ⟨x5.c1, x5.c2⟩ | exact ⟨x9.c1, x9.c2⟩)
        (first
          | (refine step_append_fresh (by rfl) (.tmp 36) (.tmp 40) 58 rfl 5 Tryz.underlying58 u8_info rfl rfl ow1 rd1 (by omega) bd1.size w3 bd1 ?_; intro A5 c5 w5 o5 b5; have x5 := q3.below b5; have h5 := (h3.below b5).wide (G := up F w3 w5) (fun _ hf => .inl hf) (fun _ hk => up_lt HN3.out b5.size hk); (try go_simp))
          | (go_simp; rw [HM.out]; go_at_call 55; refine (refPutF_any g D1 (up F w3 w5) A n cap cs ⟨s, f.b.take y, mn⟩ A5 y c5 w5 h5 (by omega) (own8_lower o5) (fun a ha => by subst ha; have := World.ownsRow.lt o5 a.block rfl; exact .inr this)).mono ?_; rintro e w9 ⟨rfl, r9, c9⟩; have x9 : FAt w9 w1.heap.size (.string f.name) (.slice B nb cb) (.int .i64 f.safe) := (c9.block _ x5.lt hxF).trans x5))
      all_goals
        have HD := Go.Lib.hid (Did.then_box (c := 0) c3 HLT.out hgF (Ch.of_below b5) r9 c9)
        clear r9 c9
        go_wp2_with fail
        go_ret
        exact HD.out
  · have e3 : atI D1.fs s = -1 := by unfold atI; rw [if_neg hk]
    obtain rfl : R = (11, D1) := by rw [← HR1.out]; unfold truncC; rw [if_pos hk]
    rw [e3]
    have HD := Go.Lib.hid (Did.of (c := 11) h1 HLT.out c1)
    clear HR1 e3 hk h1 c1
    go_wp2_with fail
    go_ret
    exact HD.out
end Go.Proofs.YtppidbdkejkopaaGreatDoor.DkWalk
namespace Go.Proofs.YtppidbdkejkopaaGreatDoor.DkWalk
open Go.RowKit MemRow Ev NameMath NameWalk EvWalk NumMem
theorem xor1_fin : ∀ c : Fin 256, bits BinOp.xor IntKind.u8 (c.val : Int) 1 = ((c.val ^^^ 1 : Nat) : Int) := by decide +kernel
theorem xor1 (c : UInt8) : bits BinOp.xor IntKind.u8 (c.toNat : Int) 1 = (((c ^^^ 1).toNat : Nat) : Int) := by
  have h := xor1_fin ⟨c.toNat, UInt8.toNat_lt c⟩
  rw [h, UInt8.toNat_xor]
  rfl
theorem own8_set {w : World} {base : Nat} {t : TypeId} {A : Option Addr} {n cap blk : Nat} {l : List UInt8} (h : Own w base t A n cap l) (hA : A = some ⟨blk, 0, none⟩) (i : Nat) (c : UInt8) : Own (w.setCell ⟨blk, i, none⟩ (.int .u8 (c.toNat : Int))) base t A n cap (l.set i c) := by
  have h1 := own_set (k := 1) (cs := cellsOf l) h hA i (.int .u8 (c.toNat : Int))
  have e : (cellsOf l).set i (.int .u8 (c.toNat : Int)) = cellsOf (l.set i c) := by simp [cellsOf, List.map_set]
  rw [e] at h1
  exact h1
def turnC (D : Dk) (s : ByteArray) (z : Int) : Int × Dk :=
  if ¬ idxF D.fs s < D.fs.length then (11, D)
  else if z < 0 ∨ ((D.fs.getD (idxF D.fs s) noFl).b.length : Int) ≤ z then (1, D)
  else (0, ⟨D.quota, D.left, putF D.fs ⟨s, (D.fs.getD (idxF D.fs s) noFl).b.set z.toNat ((D.fs.getD (idxF D.fs s) noFl).b.getD z.toNat 0 ^^^ 1), (D.fs.getD (idxF D.fs s) noFl).safe⟩⟩)
set_option maxHeartbeats 2000000 in
set_option maxRecDepth 100000 in
theorem refTurn_any (g : Nat) (D1 : Dk) (F : Nat → Prop) (s : ByteArray) (z : Int) (w1 : World) (h : RefIs w1 g D1 F) (ok1 : DkOk D1) :
    Calls Tryz.prog 24 #[.pointer (some ⟨g, 0, none⟩), .string s, .int .i64 z] w1 (fun e w' => Did (turnC D1 s z).1 (turnC D1 s z).2 g F w1 e w') := by
  obtain ⟨A, n, cap, cs, h1⟩ := h
  have HLT := Go.Lib.hid h1.lt
  generalize hR : turnC D1 s z = R
  have HR1 := Go.Lib.hid hR
  clear hR
  go_enter Tryz.func24, Tryz.ntmps24
  go_wp2_with fail
  refine (refAt_any g D1 F A n cap cs s w1 h1).mono ?_
  rintro e w' ⟨rfl, rfl⟩
  have hn : n ≤ 200 := by rw [← h1.len]; exact ok1.len
  by_cases hk : idxF D1.fs s < D1.fs.length
  · have e3 : atI D1.fs s = (idxF D1.fs s : Int) := by unfold atI; rw [if_pos hk]
    have hR2 : (if z < 0 ∨ ((D1.fs.getD (idxF D1.fs s) noFl).b.length : Int) ≤ z then (1, D1) else (0, ⟨D1.quota, D1.left, putF D1.fs ⟨s, (D1.fs.getD (idxF D1.fs s) noFl).b.set z.toNat ((D1.fs.getD (idxF D1.fs s) noFl).b.getD z.toNat 0 ^^^ 1), (D1.fs.getD (idxF D1.fs s) noFl).safe⟩⟩)) = R := by
      rw [← HR1.out]
      unfold turnC
      rw [if_neg (show ¬ ¬ idxF D1.fs s < D1.fs.length from fun h => h hk)]
    have h65 := ok1.fls _ (fl_get hk)
    rw [e3]
    have i0 : ¬ (idxF D1.fs s : Int) < 0 := by omega
    clear HR1 e3
    generalize idxF D1.fs s = k at *
    have hkn : k < n := by rw [← h1.len]; exact hk
    obtain ⟨b, o, B, nb, cb, hA, x0, x1, x2, rB, hB⟩ := h1.files hkn
    have hnb := rB.len
    have k2 := h1.c2
    have i1 : (0 : Int) ≤ k := by omega
    have i2 : (k : Int) < n := by omega
    generalize D1.fs.getD k noFl = f at *
    have HR2 := Go.Lib.hid hR2
    clear hR2
    rw [hA] at k2
    by_cases hbad : z < 0 ∨ (f.b.length : Int) ≤ z
    · obtain rfl : R = (1, D1) := by rw [← HR2.out, if_pos hbad]
      have HD := Go.Lib.hid (Did.of (c := 1) h1 HLT.out (Ch.refl F w1))
      clear HR2 h1
      rcases hbad with hz | hz
      · go_wp2_with fail
        go_ret
        exact HD.out
      · have hz0 : ¬ z < 0 := by omega
        have hz1 : (nb : Int) ≤ z := by omega
        go_wp2_with fail
        go_ret
        exact HD.out
    · have hR3 : (0, ⟨D1.quota, D1.left, putF D1.fs ⟨s, f.b.set z.toNat (f.b.getD z.toNat 0 ^^^ 1), f.safe⟩⟩) = R := by rw [← HR2.out, if_neg hbad]
      obtain ⟨y, hy⟩ : ∃ y : Nat, z = y := ⟨z.toNat, by omega⟩
      subst hy
      rw [Int.toNat_natCast] at hR3
      have hz0 : ¬ (y : Int) < 0 := by omega
      have hz1 : ¬ (nb : Int) ≤ y := by omega
      have hz2 : (0 : Int) ≤ y := by omega
      have hz3 : (y : Int) < nb := by omega
      have hyn : y < nb := by omega
      clear HR2 hbad
      have al : Below w1.heap.size w1 (w1.alloc (.cells #[] 5)) := (Below.refl _ _).alloc (Nat.le_refl _) _
      have rB2 := (rB.below al).rd
      have k2' := bcell al k2
      have x0' := bcell al x0
      have x1' := bcell al x1
      have x2' := bcell al x2
      have hgF := h1.fg
      go_upto_region 7 with (at_builtin; refine wpList_append_fresh rfl (.tmp 29) (.tmp 37) 58 rfl 5 Tryz.underlying58 u8_info rfl rfl (Own.empty w1 5 (Nat.le_refl _)) rB2 (by omega) al.size w1 al ?_; intro A5 c5 w5 o5 b5)
      have h5 := h1.below b5
      have k5 := bcell b5 k2
      have y0 := bcell b5 x0
      have y1 := bcell b5 x1
      have y2 := bcell b5 x2
      obtain ⟨blk, oo, hA5, _, hc5⟩ := o5.rd.at_ (by omega)
      obtain ⟨rfl, hfz, _⟩ := own_zero (k := 1) (cs := cellsOf f.b) o5 hA5
      have hc := hc5 y hyn
      rw [Nat.zero_add] at hc
      have hz5 := hfz y
      have hbl := o5.block hA5
      generalize hcv : f.b.getD y 0 = cv at *
      have HX := Go.Lib.hid (xor1 cv)
      have o6 := own8_set o5 hA5 y (cv ^^^ 1)
      have hs := grownSet w5 blk y (.int .u8 ((cv ^^^ 1).toNat : Int))
      have b6 : Below w1.heap.size w1 (w5.setCell ⟨blk, y, none⟩ (.int .u8 ((cv ^^^ 1).toNat : Int))) := b5.setCell hbl.1 _
      have h6 := h1.below b6
      have HN := Go.Lib.hid h1.lt
      subst hA5 hR3
      have c6 : Ch F w1 (w5.setCell ⟨blk, y, none⟩ (.int .u8 ((cv ^^^ 1).toNat : Int))) := Ch.of_below b6
      have k6 := bcell b6 k2
      have y0' := bcell b6 x0
      have y1' := bcell b6 x1
      have y2' := bcell b6 x2
      have hlt6 : blk < (w5.setCell ⟨blk, y, none⟩ (.int .u8 ((cv ^^^ 1).toNat : Int))).heap.size := Nat.lt_of_lt_of_le hbl.2 hs.size
      clear k2 k2' x0' x1' x2' rB2 al hc5 hfz o5
      go_upto_region 8 with (fail)
      rw [HX.out]
      generalize w5.setCell ⟨blk, y, none⟩ (.int .u8 ((cv ^^^ 1).toNat : Int)) = w6 at *
      clear k5 y0 y1 y2 hc hz5 hs h5
      have h7 := h6.wide (G := up F w1 w6) (fun _ hf => .inl hf) (fun _ hk => up_lt HN.out b6.size hk)
      go_wp2_with fail
      refine (refPutF_any g D1 (up F w1 w6) _ n cap cs ⟨s, f.b.set y (cv ^^^ 1), f.safe⟩ (some ⟨blk, 0, none⟩) nb c5 w6 h7 (by omega) (own8_lower o6) (fun a ha => by injection ha with ha; subst ha; exact .inr ⟨hbl.1, hlt6⟩)).mono ?_
      rintro e w9 ⟨rfl, r9, c9⟩
      have HD := Go.Lib.hid (Did.then_box (c := 0) (Ch.refl F w1) HN.out hgF (Ch.of_below b6) r9 c9)
      clear r9 c9
      go_wp2_with fail
      go_ret
      exact HD.out
  · have e3 : atI D1.fs s = -1 := by unfold atI; rw [if_neg hk]
    obtain rfl : R = (11, D1) := by rw [← HR1.out]; unfold turnC; rw [if_pos hk]
    rw [e3]
    have HD := Go.Lib.hid (Did.of (c := 11) h1 HLT.out (Ch.refl F w1))
    clear HR1 e3 hk h1
    go_wp2_with fail
    go_ret
    exact HD.out
end Go.Proofs.YtppidbdkejkopaaGreatDoor.DkWalk
namespace Go.Proofs.YtppidbdkejkopaaGreatDoor.DkWalk
open Go.RowKit MemRow Ev NameMath NameWalk EvWalk NumMem
def crashN (keep : Int) (f : Fl) : Nat := f.safe + min (max keep 0).toNat (f.b.length - f.safe)
def crashL (keep : Int) (f : Fl) : Fl := ⟨f.name, f.b.take (crashN keep f), crashN keep f⟩
def crashD (D : Dk) (keep : Int) : Dk := ⟨D.quota, -1, D.fs.map (crashL keep)⟩
theorem fin_new {w wr : World} {F : Nat → Prop} {g base m c : Nat} {A : Option Addr} {fs : List Fl} {D : Dk} {A0 : Option Addr} {n0 cap0 : Nat} {cs0 cs : List Value} (h0 : RefAt w g D F A0 n0 cap0 cs0) (bel : Below w.heap.size w wr) (o : OwnC 3 wr base 99 A m c cs) (lo : w.heap.size ≤ base) (hl : fs.length = m) (hf : FlsR wr (up F w wr) fs cs) :
    wr.frozen? ⟨g, 2, none⟩ = false ∧ wr.cell? ⟨g, 2, none⟩ = some (.slice A0 n0 cap0) ∧ RefIs (wr.setCell ⟨g, 2, none⟩ (.slice A m c)) g ⟨D.quota, D.left, fs⟩ (up F w (wr.setCell ⟨g, 2, none⟩ (.slice A m c))) ∧ Ch (fun k => k = g) w (wr.setCell ⟨g, 2, none⟩ (.slice A m c)) := by
  have hr := h0.below bel
  have glt := h0.lt g h0.fg
  have hs := grownSet wr g 2 (.slice A m c)
  have hsz : w.heap.size ≤ (wr.setCell ⟨g, 2, none⟩ (.slice A m c)).heap.size := Nat.le_trans bel.size hs.size
  refine ⟨hr.frozen 2, hr.c2, ⟨A, m, c, cs, box_set hr.box (by omega), ?_, hl, FlsR.map (fun _ _ _ _ r _ => own8_grown r hs (fun a ha e => own8_not r hr.box (by decide) a ha (by injection e))) (fun _ hf => up_mono hs.size hf) _ _ hf, .inl h0.fg, fun a ha => ?_, fun k hk => up_lt h0.lt hsz hk⟩, (Ch.of_below bel).then_grown hs (fun r e => by injection e with e; exact .inl (.inl e.symm))⟩
  · have o2 := OwnC.grown o hs (fun a ha e => by have := (OwnC.lt o a ha).1; injection e with e; omega)
    exact own_lower o2 (Nat.zero_le _)
  · have h1 := OwnC.lt o a ha
    exact .inr ⟨by omega, Nat.lt_of_lt_of_le h1.2 hs.size⟩
theorem FlsR.more {w w' : World} {F G : Nat → Prop} {base n cap : Nat} {A : Option Addr} {cs0 : List Value} (o : OwnC 3 w base 99 A n cap cs0) (hg : w.grownBy w' (A.map (·.block))) (hs : ∀ k, F k → G k) (fs : List Fl) (cs : List Value) (h : FlsR w F fs cs) : FlsR w' G fs cs :=
  FlsR.map (fun B nb cb l r _ => own8_grown r hg (fun a ha e => by
    cases hA : A with
    | none => rw [hA] at e; cases e
    | some a2 =>
      rw [hA] at e
      simp only [Option.map_some, Option.some.injEq] at e
      obtain ⟨bk, off, sp⟩ := a2
      have h2 : sp = none := by
        rcases o.2 with ⟨hv, _⟩ | ⟨g', c, cur, hv, _⟩
        · rw [hA] at hv; cases hv
        · have e1 : A = some ⟨g', 0, none⟩ := by injection hv
          rw [hA] at e1
          injection e1 with e1
          injection e1
      subst h2
      obtain ⟨_, _, x, fr, hx⟩ := own_zero o hA
      exact own8_not r hx (by decide) a ha e)) hs fs cs h
set_option maxHeartbeats 4000000 in
set_option maxRecDepth 100000 in
theorem refCrash_any (g : Nat) (D : Dk) (F : Nat → Prop) (keep : Int) (w : World) (h : RefIs w g D F) (ok : DkOk D) (hk : -9223372036854775808 ≤ keep ∧ keep ≤ 9223372036854775807) :
    Calls Tryz.prog 21 #[.pointer (some ⟨g, 0, none⟩), .int .i64 keep] w fun e w' => e = .returned (.tuple #[]) ∧ RefIs w' g (crashD D keep) (up F w w') ∧ Ch F w w' := by
  obtain ⟨A, n, cap, cs, h⟩ := h
  have HLT := Go.Lib.hid h.lt
  have hgF := h.fg
  have h1 := h.setL (-1)
  have z1 := h.frozen 1
  have k1 := h.c1
  have hs := grownSet w g 1 (.int .i64 (-1))
  have c1 : Ch (fun k => k = g) w (w.setCell ⟨g, 1, none⟩ (.int .i64 (-1))) := Ch.of_grown hs (fun r e => by injection e with e; exact .inl e.symm)
  have hn : n ≤ 200 := by rw [← h.len]; exact ok.len
  have HOK := Go.Lib.hid ok.fls
  have HL := Go.Lib.hid h.len
  go_enter Tryz.func21, Tryz.ntmps21
  go_upto_region 1 with (fail)
  generalize w.setCell ⟨g, 1, none⟩ (.int .i64 (-1)) = w1 at *
  clear h z1 k1 hs ok
  have al : Below w1.heap.size w1 (w1.alloc (.cells #[] 99)) := (Below.refl _ _).alloc (Nat.le_refl _) _
  have o2 : OwnC 3 (w1.alloc (.cells #[] 99)) w1.heap.size 99 (some ⟨w1.heap.size, 0, none⟩) 0 0 [] := OwnC.empty w1 _ (Nat.le_refl _)
  have f2 : FlsR (w1.alloc (.cells #[] 99)) (up F w1 (w1.alloc (.cells #[] 99))) ((D.fs.take 0).map (crashL keep)) [] := rfl
  go_upto_region 2 with (fail)
  generalize w1.alloc (.cells #[] 99) = w2 at *
  go_wp2_with fail
  go_loopw [4, 5] (fun o i wr => ∃ (j : Nat) (A' : Option Addr) (c : Nat) (cs' : List Value), j ≤ n ∧ o = .slice A' j c ∧ i = .int .i64 j ∧ OwnC 3 wr w1.heap.size 99 A' j c cs' ∧ FlsR wr (up F w1 wr) ((D.fs.take j).map (crashL keep)) cs' ∧ Below w1.heap.size w1 wr) (fun _ i _ => n - (intOf i).toNat)
  case atStart => exact ⟨0, _, 0, [], Nat.zero_le _, rfl, rfl, o2, f2, al⟩
  case round =>
    obtain ⟨j, A', c, cs', hj, rfl, rfl, oq, fq, bq⟩ := hrel
    clear o2 f2 al
    have hr := h1.below bq
    have k2 := hr.c2
    by_cases hlt : j < n
    · obtain ⟨b, o, B, nb, cb, rfl, x0, x1, x2, rB, _⟩ := hr.files hlt
      have i1 : (j : Int) < n := by omega
      have hjl : j < D.fs.length := by rw [HL.out]; exact hlt
      have HT := Go.Lib.hid (fl_take D.fs j hjl)
      have hnb := rB.len
      have h65 := HOK.out _ (fl_get hjl)
      clear hjl
      simp only at x0 x1 x2 rB hnb
      generalize D.fs.getD j noFl = f at *
      have al3 : Below wr.heap.size wr (wr.alloc (.cells #[.string f.name, .slice B nb cb, .int .i64 f.safe] 99)) := (Below.refl _ _).alloc (Nat.le_refl _) _
      have q3 := FAt.new wr (.string f.name) (.slice B nb cb) (.int .i64 f.safe)
      have hmm : (f.safe : Int) + min (max keep 0) ((nb : Int) - f.safe) = ((crashN keep f : Nat) : Int) := by
        unfold crashN
        omega
      have hle : crashN keep f ≤ nb := by
        unfold crashN
        omega
      have HCL : Hid (crashL keep f = ⟨f.name, f.b.take (crashN keep f), crashN keep f⟩) := Go.Lib.hid rfl
      have o3 := OwnC.below oq al3
      have f3 := FlsR.map (fun _ _ _ _ r _ => r.below al3) (fun _ hk => up_mono (F := F) (w := w1) al3.size hk) _ _ fq
      have b3 := below_chain bq al3
      have rB3 := rB.below al3
      generalize crashN keep f = mm at *
      go_upto_region 6 with (fail)
      generalize wr.alloc (.cells #[.string f.name, .slice B nb cb, .int .i64 f.safe] 99) = w3 at *
      generalize hgx : wr.heap.size = gx at *
      clear x0 x1 x2 rB k2 hr
      have q0 := q3.c0
      have q1 := q3.c1
      have q2 := q3.c2
      go_upto_region 7 with (fail)
      have rfy := rB3.rd.first hle
      have qs := slice_upto B nb cb mm (Nat.le_trans hle rB3.rd.le_cap)
      have bd1 : Below w3.heap.size w3 (w3.alloc (.cells #[] 5)).drew := bel_drew ((Below.refl _ _).alloc (Nat.le_refl _) _)
      have ow1 : Own (w3.alloc (.cells #[] 5)).drew w3.heap.size 5 (some ⟨w3.heap.size, 0, none⟩) 0 0 [] := Own.empty w3 5 (Nat.le_refl _)
      have rd1 := rfy.below bd1
      have e1 := q3.below bd1
      have hmm65 : mm ≤ 65536 := by omega
      have h63 : j + 1 ≤ maxLen := by unfold maxLen; omega
      have hsz : (j + 1) * 48 ≤ 140737488355328 := by omega
      have wz1 : w1.heap.size ≤ gx := by rw [← hgx]; exact bq.size
      have hgl : gx < w3.heap.size := q3.lt
      have hrow : ∀ a, A' = some a → a.block ≠ gx := fun a ha => by
        have := (OwnC.lt oq a ha).2
        omega
      have HROW := Go.Lib.hid hrow
      clear hmm h65 hrow q0 q1 q2
      have q0 := q3.c0
      have q1 := q3.c1
      go_region_held_law (fun w' => w'.cell? ⟨gx, 0, none⟩ = some (.string f.name) ∧ w'.cell? ⟨gx, 1, none⟩ = some (.slice B nb cb))
        (first | exact ⟨q0, q1⟩ | exact ⟨e1.c0, e1.c1⟩ | exact ⟨x5.c0, x5.c1⟩ | exact ⟨x6.c0, x6.c1⟩ | exact ⟨x9.c0, x9.c1⟩)
        (first
          | (refine step_append_fresh (by rfl) (.tmp 43) (.tmp 47) 58 rfl 5 Tryz.underlying58 u8_info rfl rfl ow1 rd1 (by omega) bd1.size w3 bd1 ?_; intro A5 c5 w5 o5 b5; have x5 := q3.below b5; have al6 : Below w5.heap.size w5 (w5.alloc (.cells #[.string f.name, .slice A5 mm c5, .int .i64 mm] 99)) := (Below.refl _ _).alloc (Nat.le_refl _) _; have x6 := x5.below al6; have b6 := below_chain b5 al6; have oc6 := OwnC.below o3 b6; have b16 := below_chain b3 b6; have d6 : RdC 3 (w5.alloc (.cells #[.string f.name, .slice A5 mm c5, .int .i64 mm] 99)) (some ⟨w5.heap.size, 0, none⟩) 1 1 [.string f.name, .slice A5 mm c5, .int .i64 mm] := RdC.new w5 99 [.string f.name, .slice A5 mm c5, .int .i64 mm] rfl (by decide); (try go_simp))
          | (refine step_append_cells (by rfl) (.tmp 40) (.tmp 51) 73 rfl 99 (.agg #[.string ⟨#[]⟩, .slice none 0 0, .int .i64 0]) 48 Tryz.underlying73 file_info rfl (by decide) rfl rfl oc6 d6 (fl_one _ _ _ _ _) h63 hsz b16.size ?_; intro A9 c9 w9 o9 g9 e9; have x9 := x6.grown g9 (fun e => (by cases hA : A' with | none => (rw [hA] at e; cases e) | some a => (rw [hA] at e; simp only [Option.map_some, Option.some.injEq] at e; exact HROW.out a hA e.symm)))))
      all_goals
        have low := fun r e => row_low oc6 (r := r) e
        have b9 := b16.grown g9 b16.size (fun r e => low r e)
        have f6 := FlsR.map (G := up F w1 (w5.alloc (.cells #[.string f.name, .slice A5 mm c5, .int .i64 mm] 99))) (fun _ _ _ _ r _ => r.below b6) (fun _ hk => up_mono b6.size hk) _ _ f3
        have o56 := o5.below al6
        have hb5 : ∀ a, A5 = some a → up F w1 (w5.alloc (.cells #[.string f.name, .slice A5 mm c5, .int .i64 mm] 99)) a.block := fun a ha => by
          subst ha
          have := World.ownsRow.lt o56 a.block rfl
          exact .inr ⟨by omega, this.2⟩
        have f7 := FlsR.snoc (f := ⟨f.name, f.b.take mm, mm⟩) (own8_lower o56) hb5 _ _ f6
        have f9 := FlsR.more (G := up F w1 w9) oc6 g9 (fun _ hk => up_mono g9.size hk) _ _ f7
        have HF9 : Hid (FlsR w9 (up F w1 w9) ((D.fs.take (j + 1)).map (crashL keep)) (cs' ++ [.string f.name, .slice A5 mm c5, .int .i64 mm])) := Go.Lib.hid (by
          rw [HT.out, List.map_append, List.map_cons, List.map_nil, HCL.out]
          exact f9)
        clear f9 f7 f6 o56 hb5
        go_wp2_with fail
        go_roundw
        case rel => exact ⟨j + 1, A9, c9, _, by omega, rfl, by go_num, o9, HF9.out, b9⟩
        case measure => simp [intOf]; omega
    · obtain rfl : n = j := by omega
      have ht : D.fs.take n = D.fs := List.take_of_length_le (by rw [HL.out]; exact Nat.le_refl _)
      rw [ht] at fq
      obtain ⟨z1, z2, z3, z4⟩ := fin_new h1 bq oq (Nat.le_refl _) (by rw [List.length_map, HL.out]) fq
      have HZ := Go.Lib.hid z3
      have HC := Go.Lib.hid z4
      clear z3 z4 fq oq
      go_wp2_with fail
      go_end0
      have hC : Ch F w (wr.setCell ⟨g, 2, none⟩ (.slice A' n c)) := (c1.wide (fun _ hk => by rw [hk]; exact hgF)).trans (HC.out.wide (fun _ hk => .inl (by rw [hk]; exact hgF)))
      refine ⟨rfl, HZ.out.wide (fun k hk => ?_) (fun k hk => up_lt HLT.out hC.size hk), hC⟩
      rcases hk with hk | hk
      · exact .inl hk
      · exact .inr ⟨Nat.le_trans c1.size hk.1, hk.2⟩
end Go.Proofs.YtppidbdkejkopaaGreatDoor.DkWalk
namespace Go.Proofs.YtppidbdkejkopaaGreatDoor.DkWalk
open Go.RowKit MemRow Ev NameMath NameWalk EvWalk NumMem
def rest (fs : List Fl) (s : ByteArray) : List Fl := fs.filter fun x => !eqN x.name s
theorem stp_len (f : Fl) (p : List Fl × Bool) (x : Fl) : (stp f p x).1.length + (if p.2 = true then 1 else 0) = p.1.length + (if eqN x.name f.name = true then 0 else 1) + (if (stp f p x).2 = true then 1 else 0) := by
  obtain ⟨l, d⟩ := p
  unfold stp
  cases d <;> cases leN f.name x.name <;> cases eqN x.name f.name <;> simp
theorem fold_len (f : Fl) : ∀ (fs : List Fl) (p : List Fl × Bool), (fs.foldl (stp f) p).1.length + (if p.2 = true then 1 else 0) = p.1.length + (rest fs f.name).length + (if (fs.foldl (stp f) p).2 = true then 1 else 0)
  | [], _ => rfl
  | x :: fs, p => by
    have h1 := fold_len f fs (stp f p x)
    have h2 := stp_len f p x
    have h3 : (rest (x :: fs) f.name).length = (if eqN x.name f.name = true then 0 else 1) + (rest fs f.name).length := by
      unfold rest
      rw [List.filter_cons]
      cases eqN x.name f.name <;> simp <;> omega
    rw [List.foldl_cons, h3]
    omega
theorem putF_len (fs : List Fl) (f : Fl) : (putF fs f).length = (rest fs f.name).length + 1 := by
  have h := fold_len f fs ([], false)
  unfold putF putS
  simp only [List.length_nil, Bool.false_eq_true, if_false] at h
  split
  · next h1 =>
    rw [if_pos h1] at h
    omega
  · next h1 =>
    rw [if_neg h1] at h
    rw [List.length_append]
    simp only [List.length_singleton]
    omega
theorem rest_le (fs : List Fl) (s : ByteArray) : (rest fs s).length ≤ fs.length := List.length_filter_le _ _
theorem rest_lt {fs : List Fl} {s : ByteArray} (h : idxF fs s < fs.length) : (rest fs s).length < fs.length := by
  have hn := idxF_name h
  have hm := fl_get h
  unfold rest
  rw [List.length_filter_lt_length_iff_exists]
  exact ⟨_, hm, by rw [hn, eqN_refl]; decide⟩
theorem stp_mem (f : Fl) (p : List Fl × Bool) (x y : Fl) (h : y ∈ (stp f p x).1) : y ∈ p.1 ∨ y = f ∨ y = x := by
  obtain ⟨l, d⟩ := p
  unfold stp at h
  cases d <;> cases leN f.name x.name <;> cases eqN x.name f.name <;> simp at h ⊢ <;> grind
theorem fold_mem (f : Fl) : ∀ (fs : List Fl) (p : List Fl × Bool) (y : Fl), y ∈ (fs.foldl (stp f) p).1 → y ∈ p.1 ∨ y = f ∨ y ∈ fs
  | [], p, y, h => .inl h
  | x :: fs, p, y, h => by
    rw [List.foldl_cons] at h
    rcases fold_mem f fs _ y h with h | h | h
    · rcases stp_mem f p x y h with h | h | h
      · exact .inl h
      · exact .inr (.inl h)
      · exact .inr (.inr (by rw [h]; simp))
    · exact .inr (.inl h)
    · exact .inr (.inr (List.mem_cons_of_mem _ h))
theorem putF_mem {fs : List Fl} {f y : Fl} (h : y ∈ putF fs f) : y = f ∨ y ∈ fs := by
  unfold putF putS at h
  split at h
  · rcases fold_mem f fs _ y h with h | h | h
    · simp at h
    · exact .inl h
    · exact .inr h
  · rcases List.mem_append.1 h with h | h
    · rcases fold_mem f fs _ y h with h | h | h
      · simp at h
      · exact .inl h
      · exact .inr h
    · exact .inl (List.mem_singleton.1 h)
theorem dropF_mem {fs : List Fl} {s : ByteArray} {y : Fl} (h : y ∈ dropF fs s) : y ∈ fs := by
  unfold dropF at h
  rcases List.mem_append.1 h with h | h
  · exact List.mem_of_mem_take h
  · exact List.mem_of_mem_drop h
theorem fileOf_ok {D : Dk} (h : DkOk D) (s : ByteArray) : (fileOf D.fs s).b.length ≤ 65536 ∧ (fileOf D.fs s).safe ≤ (fileOf D.fs s).b.length := by
  unfold fileOf
  split
  · next hk => exact h.fls _ (fl_get hk)
  · exact ⟨by simp, Nat.le_refl _⟩
theorem new_ok {q : Int} (h : q ≤ 9223372036854775807) : DkOk (newD q) := ⟨by simp [newD], by simp [newD], ⟨by simp [newD], by simp [newD]⟩, by unfold newD; simp only; omega⟩
theorem put_ok {D : Dk} (h : DkOk D) {f : Fl} (hl : idxF D.fs f.name < D.fs.length ∨ D.fs.length < 200) (hb : f.b.length ≤ 65536) (hs : f.safe ≤ f.b.length) : DkOk ⟨D.quota, D.left, putF D.fs f⟩ := by
  refine ⟨?_, fun y hy => ?_, h.left, h.quota⟩
  · have h1 := putF_len D.fs f
    have h2 := rest_le D.fs f.name
    have h3 := h.len
    simp only
    rcases hl with hl | hl
    · have := rest_lt hl
      omega
    · omega
  · rcases putF_mem hy with rfl | hy
    · exact ⟨hb, hs⟩
    · exact h.fls y hy
theorem append_ok {D : Dk} (h : DkOk D) (s : ByteArray) (b : List UInt8) : DkOk (appendD D s b).2 := by
  unfold appendD
  split
  · exact h
  · have h1 := burn_ok h
    generalize burnD D = D1 at *
    unfold appendC
    split
    · exact h1
    · split
      · exact h1
      · next hn =>
        split
        · exact h1
        · have hf := fileOf_ok h1 s
          refine put_ok h1 ?_ ?_ ?_
          · simp only
            by_cases hk : idxF D1.fs s < D1.fs.length
            · exact .inl hk
            · exact .inr (Nat.lt_of_not_le fun h2 => hn (.inr ⟨hk, h2⟩))
          · simp only [List.length_append]
            omega
          · simp only [List.length_append]
            omega
theorem sync_ok {D : Dk} (h : DkOk D) (s : ByteArray) : DkOk (syncD D s).2 := by
  unfold syncD
  split
  · exact h
  · have h1 := burn_ok h
    generalize burnD D = D1 at *
    unfold syncC
    split
    · exact h1
    · next hk =>
      refine ⟨by simp only [syncF, List.length_set]; exact h1.len, fun y hy => ?_, h1.left, h1.quota⟩
      simp only [syncF] at hy
      rcases List.mem_or_eq_of_mem_set hy with hy | rfl
      · exact h1.fls y hy
      · have := h1.fls _ (fl_get (Decidable.byContradiction hk))
        exact ⟨this.1, Nat.le_refl _⟩
theorem remove_ok {D : Dk} (h : DkOk D) (s : ByteArray) : DkOk (removeD D s).2 := by
  unfold removeD
  split
  · exact h
  · have h1 := burn_ok h
    generalize burnD D = D1 at *
    unfold removeC
    split
    · next hk =>
      have := dropF_len hk
      have := h1.len
      exact ⟨by simp only; omega, fun y hy => h1.fls y (dropF_mem hy), h1.left, h1.quota⟩
    · exact h1
theorem trunc_ok {D : Dk} (h : DkOk D) (s : ByteArray) (z : Int) : DkOk (truncD D s z).2 := by
  unfold truncD
  split
  · exact h
  · have h1 := burn_ok h
    generalize burnD D = D1 at *
    unfold truncC
    split
    · exact h1
    · next hk =>
      have hk := Decidable.byContradiction hk
      split
      · exact h1
      · next hz =>
        have hf := h1.fls _ (fl_get hk)
        refine put_ok h1 (.inl hk) ?_ ?_
        · simp only [List.length_take]
          omega
        · simp only [List.length_take]
          omega
theorem turn_ok {D : Dk} (h : DkOk D) (s : ByteArray) (z : Int) : DkOk (turnC D s z).2 := by
  unfold turnC
  split
  · exact h
  · next hk =>
    have hk := Decidable.byContradiction hk
    split
    · exact h
    · have hf := h.fls _ (fl_get hk)
      refine put_ok h (.inl hk) ?_ ?_
      · simp only [List.length_set]
        exact hf.1
      · simp only [List.length_set]
        exact hf.2
theorem crash_ok {D : Dk} (h : DkOk D) (keep : Int) : DkOk (crashD D keep) := by
  refine ⟨by simp only [crashD, List.length_map]; exact h.len, fun y hy => ?_, ⟨by simp [crashD], by simp [crashD]⟩, h.quota⟩
  obtain ⟨f, hf, rfl⟩ := List.mem_map.1 hy
  have := h.fls f hf
  unfold crashL crashN
  simp only [List.length_take]
  omega
end Go.Proofs.YtppidbdkejkopaaGreatDoor.DkWalk
namespace Go.Proofs.YtppidbdkejkopaaGreatDoor.DkWalk
open Go.RowKit MemRow Ev NameMath NameWalk EvWalk NumMem
def insF : List Fl → Fl → List Fl
  | [], f => [f]
  | x :: l, f => if less x.name f.name = true then x :: insF l f else if x.name = f.name then f :: l else f :: x :: l
def Rising (fs : List Fl) : Prop := Up (names fs)
theorem insF_names : ∀ (fs : List Fl) (f : Fl), names (insF fs f) = putL (names fs) f.name
  | [], _ => rfl
  | x :: l, f => by
    have ih := insF_names l f
    unfold names at ih ⊢
    simp only [insF, List.map_cons, putL]
    split
    · rw [List.map_cons, ih]
    · split
      · next h => rw [List.map_cons, h]
      · rw [List.map_cons, List.map_cons]
theorem rising_tail {x : Fl} {fs : List Fl} (h : Rising (x :: fs)) : Rising fs ∧ ∀ y ∈ fs, less x.name y.name = true := by
  unfold Rising Up names at h
  rw [List.map_cons, List.pairwise_cons] at h
  exact ⟨h.2, fun y hy => h.1 _ (List.mem_map_of_mem hy)⟩
theorem fold_done (f : Fl) : ∀ (fs l : List Fl), (∀ x ∈ fs, eqN x.name f.name = false) → fs.foldl (stp f) (l, true) = (l ++ fs, true)
  | [], l, _ => by simp
  | x :: fs, l, h => by
    have e : stp f (l, true) x = (l ++ [x], true) := by
      unfold stp
      rw [h x (by simp)]
      rfl
    rw [List.foldl_cons, e, fold_done f fs _ fun y hy => h y (by simp [hy])]
    simp
theorem fold_ins (f : Fl) : ∀ (fs l : List Fl), Rising fs → (if (fs.foldl (stp f) (l, false)).2 = true then (fs.foldl (stp f) (l, false)).1 else (fs.foldl (stp f) (l, false)).1 ++ [f]) = l ++ insF fs f
  | [], l, _ => by simp [insF]
  | x :: fs, l, h => by
    obtain ⟨h1, h2⟩ := rising_tail h
    rw [List.foldl_cons]
    cases hl : less x.name f.name with
    | true =>
      have hne := less_ne hl
      have hfx : less f.name x.name = false := by
        cases hf : less f.name x.name with
        | false => rfl
        | true =>
          have := less_trans hl hf
          rw [less_irrefl] at this
          cases this
      have e : stp f (l, false) x = (l ++ [x], false) := by
        unfold stp leN
        rw [hfx, eqN_ne hne, eqN_ne (fun h => hne h.symm)]
        rfl
      rw [e, fold_ins f fs _ h1]
      simp only [insF, hl, if_true, List.append_assoc, List.singleton_append]
    | false =>
      have hne : ∀ y ∈ fs, eqN y.name f.name = false := fun y hy => eqN_ne fun he => by
        have h3 := h2 y hy
        rw [he, hl] at h3
        cases h3
      by_cases he : x.name = f.name
      · have e : stp f (l, false) x = (l ++ [f], true) := by
          unfold stp leN
          rw [he, less_irrefl, eqN_refl]
          rfl
        rw [e, fold_done f fs _ hne]
        simp only [insF, if_true, he, List.append_assoc, List.singleton_append, Bool.false_eq_true, if_false, less_irrefl]
      · have hf := less_tri hl he
        have e : stp f (l, false) x = (l ++ [f] ++ [x], true) := by
          unfold stp leN
          rw [hf, eqN_ne he]
          rfl
        rw [e, fold_done f fs _ hne]
        simp only [insF, hl, if_true, if_neg he, List.append_assoc, Bool.false_eq_true, if_false, List.cons_append, List.nil_append]
theorem putF_ins {fs : List Fl} (h : Rising fs) (f : Fl) : putF fs f = insF fs f := by
  have := fold_ins f fs [] h
  unfold putF putS
  rw [this]
  rfl
theorem putF_rising {fs : List Fl} (h : Rising fs) (f : Fl) : Rising (putF fs f) := by
  unfold Rising
  rw [putF_ins h, insF_names]
  exact putL_up h f.name
theorem dropF_rising {fs : List Fl} (h : Rising fs) (s : ByteArray) : Rising (dropF fs s) := by
  unfold Rising at h ⊢
  refine up_sub h ?_
  unfold names dropF
  refine List.Sublist.map _ ?_
  have h1 : (fs.take (idxF fs s) ++ fs.drop (idxF fs s + 1)).Sublist (fs.take (idxF fs s) ++ fs.drop (idxF fs s)) := by
    refine List.Sublist.append_left ?_ _
    rw [← List.drop_drop]
    exact List.drop_sublist _ _
  rwa [List.take_append_drop] at h1
theorem syncF_rising {fs : List Fl} (h : Rising fs) {s : ByteArray} (hk : idxF fs s < fs.length) : Rising (syncF fs s) := by
  have e : names (syncF fs s) = names fs := by
    unfold names syncF
    rw [List.map_set]
    simp only
    have hl : idxF fs s < (fs.map (·.name)).length := by rw [List.length_map]; exact hk
    have h2 : (fs.getD (idxF fs s) noFl).name = (fs.map (·.name))[idxF fs s]'hl := by
      rw [List.getElem_map, List.getD_eq_getElem?_getD, List.getElem?_eq_getElem hk]
      rfl
    rw [h2, List.set_getElem_self]
  unfold Rising
  rw [e]
  exact h
theorem crashD_rising {D : Dk} (h : Rising D.fs) (keep : Int) : Rising (crashD D keep).fs := by
  have e : names (crashD D keep).fs = names D.fs := by
    unfold names crashD crashL
    rw [List.map_map]
    rfl
  unfold Rising
  rw [e]
  exact h
end Go.Proofs.YtppidbdkejkopaaGreatDoor.DkWalk
namespace Go.Proofs.YtppidbdkejkopaaGreatDoor.DkWalk
open Go.RowKit Go.Maps MemRow Ev NameMath NameWalk EvWalk NumMem
theorem rising_idx {fs : List Fl} (h : Rising fs) {i j : Nat} {x y : Fl} (hi : fs[i]? = some x) (hj : fs[j]? = some y) (e : x.name = y.name) : i = j := by
  unfold Rising Up names at h
  rw [List.pairwise_map, List.pairwise_iff_getElem] at h
  obtain ⟨hil, rfl⟩ := List.getElem?_eq_some_iff.1 hi
  obtain ⟨hjl, rfl⟩ := List.getElem?_eq_some_iff.1 hj
  rcases Nat.lt_trichotomy i j with h1 | h1 | h1
  · exact absurd e (less_ne (h i j hil hjl h1))
  · exact h1
  · exact absurd e.symm (less_ne (h j i hjl hil h1))
theorem rising_inj {fs : List Fl} (h : Rising fs) {x y : Fl} (hx : x ∈ fs) (hy : y ∈ fs) (e : x.name = y.name) : x = y := by
  obtain ⟨i, hi⟩ := List.getElem?_of_mem hx
  obtain ⟨j, hj⟩ := List.getElem?_of_mem hy
  obtain rfl := rising_idx h hi hj e
  rw [hi] at hj
  injection hj
theorem rising_nodup {fs : List Fl} (h : Rising fs) : (names fs).Nodup := by
  unfold Rising Up at h
  exact h.imp fun h1 => less_ne h1
theorem insF_iff : ∀ {fs : List Fl}, Rising fs → ∀ (f y : Fl), y ∈ insF fs f ↔ y = f ∨ (y ∈ fs ∧ y.name ≠ f.name)
  | [], _, f, y => by simp [insF]
  | x :: fs, h, f, y => by
    obtain ⟨h1, h2⟩ := rising_tail h
    have ih := insF_iff h1 f y
    simp only [insF]
    split
    · next hl =>
      have hne := less_ne hl
      rw [List.mem_cons, ih, List.mem_cons]
      constructor
      · rintro (rfl | rfl | ⟨h3, h4⟩)
        · exact .inr ⟨.inl rfl, hne⟩
        · exact .inl rfl
        · exact .inr ⟨.inr h3, h4⟩
      · rintro (rfl | ⟨rfl | h3, h4⟩)
        · exact .inr (.inl rfl)
        · exact .inl rfl
        · exact .inr (.inr ⟨h3, h4⟩)
    · next hl =>
      split
      · next he =>
        rw [List.mem_cons, List.mem_cons]
        constructor
        · rintro (rfl | h3)
          · exact .inl rfl
          · exact .inr ⟨.inr h3, fun e => (less_ne (h2 y h3)) (he.trans e.symm)⟩
        · rintro (rfl | ⟨rfl | h3, h4⟩)
          · exact .inl rfl
          · exact absurd he h4
          · exact .inr h3
      · next he =>
        rw [List.mem_cons]
        have hf := less_tri (by simpa using hl) he
        constructor
        · rintro (rfl | h3)
          · exact .inl rfl
          · refine .inr ⟨h3, fun e => ?_⟩
            rcases List.mem_cons.1 h3 with rfl | h3
            · exact he e
            · have h5 := less_trans hf (h2 y h3)
              rw [e, less_irrefl] at h5
              cases h5
        · rintro (rfl | ⟨h3, _⟩)
          · exact .inl rfl
          · exact .inr h3
def SetTo (fs' fs : List Fl) (f : Fl) : Prop := ∀ y, y ∈ fs' ↔ y = f ∨ (y ∈ fs ∧ y.name ≠ f.name)
theorem putF_set {fs : List Fl} (h : Rising fs) (f : Fl) : SetTo (putF fs f) fs f := fun y => by rw [putF_ins h, insF_iff h]
theorem idx_lt {fs : List Fl} {f : Fl} (hf : f ∈ fs) : idxF fs f.name < fs.length := by
  unfold idxF
  exact List.findIdx_lt_length.2 ⟨f, hf, eqN_refl _⟩
theorem idx_at {fs : List Fl} (hr : Rising fs) {f : Fl} (hf : f ∈ fs) : fs.getD (idxF fs f.name) noFl = f := rising_inj hr (fl_get (idx_lt hf)) hf (idxF_name (idx_lt hf))
theorem idx_not {fs : List Fl} {s : ByteArray} (h : ¬ idxF fs s < fs.length) : ∀ y ∈ fs, y.name ≠ s := fun y hy e => h (by rw [← e]; exact idx_lt hy)
theorem idx_some {fs : List Fl} {s : ByteArray} (h : idxF fs s < fs.length) : fs[idxF fs s]? = some (fs.getD (idxF fs s) noFl) := by
  rw [List.getD_eq_getElem?_getD, List.getElem?_eq_getElem h]
  rfl
theorem dropF_set {fs : List Fl} (h : Rising fs) {s : ByteArray} (hk : idxF fs s < fs.length) : ∀ y, y ∈ dropF fs s ↔ y ∈ fs ∧ y.name ≠ s := by
  intro y
  have e : dropF fs s = fs.eraseIdx (idxF fs s) := by
    unfold dropF
    rw [List.eraseIdx_eq_take_drop_succ]
  have hi := idx_some hk
  have hn := idxF_name hk
  rw [e, List.mem_eraseIdx_iff_getElem?]
  constructor
  · rintro ⟨j, hj, hy⟩
    exact ⟨List.mem_of_getElem? hy, fun he => hj (rising_idx h hy hi (he.trans hn.symm))⟩
  · rintro ⟨hy, hne⟩
    obtain ⟨j, hj⟩ := List.getElem?_of_mem hy
    refine ⟨j, fun he => hne ?_, hj⟩
    rw [he, hi] at hj
    injection hj with hj
    rw [← hj, hn]
theorem syncF_set {fs : List Fl} (h : Rising fs) {s : ByteArray} (hk : idxF fs s < fs.length) : SetTo (syncF fs s) fs ⟨s, (fs.getD (idxF fs s) noFl).b, (fs.getD (idxF fs s) noFl).b.length⟩ := by
  intro y
  have hi := idx_some hk
  have hn := idxF_name hk
  unfold syncF
  rw [hn]
  constructor
  · intro hy
    obtain ⟨j, hj⟩ := List.getElem?_of_mem hy
    rw [List.getElem?_set] at hj
    split at hj
    · injection hj with hj
      exact .inl hj.symm
    · next hne => exact .inr ⟨List.mem_of_getElem? hj, fun he => hne (rising_idx h hi hj (hn.trans he.symm))⟩
  · rintro (rfl | ⟨hy, hne⟩)
    · exact List.mem_of_getElem? (by rw [List.getElem?_set, if_pos rfl, if_pos hk])
    · obtain ⟨j, hj⟩ := List.getElem?_of_mem hy
      refine List.mem_of_getElem? (i := j) ?_
      rw [List.getElem?_set, if_neg, hj]
      intro he
      rw [← he, hi] at hj
      injection hj with hj
      exact hne (by rw [← hj, hn])
def keyF (s : ByteArray) : Lit := .string s.data.toList
theorem keyF_inj {a b : ByteArray} (h : keyF a = keyF b) : a = b := by
  unfold keyF at h
  injection h with h
  exact ByteArray.ext (Array.ext' h)
theorem keyF_same (a b : ByteArray) : (keyF a).sameKey (keyF b) = decide (a = b) := by
  by_cases h : a = b
  · subst h
    simp [keyF, Lit.sameKey]
  · rw [decide_eq_false h]
    exact sameKey_ne fun e => h (keyF_inj e)
def strike (left : Lit → Bool) (s : ByteArray) : Lit → Bool := fun z => left z && !z.sameKey (keyF s)
theorem strike_at (left : Lit → Bool) (s t : ByteArray) : strike left s (keyF t) = (left (keyF t) && !decide (t = s)) := by
  unfold strike
  rw [keyF_same]
def usedL (left : Lit → Bool) (fs : List Fl) : Nat := usedF (fs.filter fun f => !left (keyF f.name))
theorem usedL_start {left : Lit → Bool} {fs : List Fl} (h : ∀ f ∈ fs, left (keyF f.name) = true) : usedL left fs = 0 := by
  unfold usedL
  rw [List.filter_eq_nil_iff.2 fun f hf => by rw [h f hf]; decide]
  rfl
theorem usedL_end {left : Lit → Bool} {fs : List Fl} (h : ∀ kl, left kl = false) : usedL left fs = usedF fs := by
  unfold usedL
  rw [List.filter_eq_self.2 fun f hf => by rw [h]; rfl]
theorem usedL_le (left : Lit → Bool) (fs : List Fl) : usedL left fs ≤ usedF fs := by
  unfold usedL
  induction fs with
  | nil => exact Nat.le_refl _
  | cons f fs ih =>
    have e : usedF (f :: fs) = f.b.length + usedF fs := by simp [usedF]
    rw [List.filter_cons]
    split
    · have e2 : usedF (f :: fs.filter fun f => !left (keyF f.name)) = f.b.length + usedF (fs.filter fun f => !left (keyF f.name)) := by simp [usedF]
      omega
    · omega
theorem usedL_step {left : Lit → Bool} : ∀ {fs : List Fl}, Rising fs → ∀ {f : Fl}, f ∈ fs → left (keyF f.name) = true → usedL (strike left f.name) fs = usedL left fs + f.b.length
  | [], _, f, hf, _ => by simp at hf
  | x :: fs, h, f, hf, hl => by
    obtain ⟨h1, h2⟩ := rising_tail h
    unfold usedL
    rw [List.filter_cons, List.filter_cons, strike_at]
    rcases List.mem_cons.1 hf with rfl | hf
    · have e : (fs.filter fun y => !strike left f.name (keyF y.name)) = fs.filter fun y => !left (keyF y.name) := by
        refine List.filter_congr fun y hy => ?_
        rw [strike_at, decide_eq_false (fun e => less_ne (h2 y hy) e.symm)]
        simp
      rw [e, hl]
      simp [usedF]
      omega
    · have ih := usedL_step h1 hf hl
      unfold usedL at ih
      rw [decide_eq_false (less_ne (h2 f hf))]
      simp only [Bool.not_false, Bool.and_true]
      split
      · have e2 : ∀ l : List Fl, usedF (x :: l) = x.b.length + usedF l := fun l => by simp [usedF]
        rw [e2, e2, ih]
        omega
      · exact ih
def crashIf (left : Lit → Bool) (keep : Int) (f : Fl) : Fl := if left (keyF f.name) = true then f else crashL keep f
theorem crashIf_name (left : Lit → Bool) (keep : Int) (f : Fl) : (crashIf left keep f).name = f.name := by
  unfold crashIf
  split <;> rfl
theorem crashIf_names (left : Lit → Bool) (keep : Int) (fs : List Fl) : names (fs.map (crashIf left keep)) = names fs := by
  unfold names
  rw [List.map_map]
  exact List.map_congr_left fun f _ => crashIf_name left keep f
theorem crashIf_start {left : Lit → Bool} {fs : List Fl} (keep : Int) (h : ∀ f ∈ fs, left (keyF f.name) = true) : fs.map (crashIf left keep) = fs := by
  have : fs.map (crashIf left keep) = fs.map id := List.map_congr_left fun f hf => by unfold crashIf; rw [if_pos (h f hf)]; rfl
  rw [this, List.map_id]
theorem crashIf_end {left : Lit → Bool} (fs : List Fl) (keep : Int) (h : ∀ kl, left kl = false) : fs.map (crashIf left keep) = fs.map (crashL keep) :=
  List.map_congr_left fun f _ => by unfold crashIf; rw [if_neg (by rw [h]; decide)]
theorem crashIf_step {left : Lit → Bool} {fs : List Fl} (h : Rising fs) {f : Fl} (hf : f ∈ fs) (keep : Int) (hl : left (keyF f.name) = true) :
    SetTo (fs.map (crashIf (strike left f.name) keep)) (fs.map (crashIf left keep)) (crashL keep f) := by
  have e : ∀ x, x.name ≠ f.name → crashIf (strike left f.name) keep x = crashIf left keep x := fun x hx => by
    unfold crashIf
    rw [strike_at, decide_eq_false hx]
    simp
  have e2 : crashIf (strike left f.name) keep f = crashL keep f := by
    unfold crashIf
    rw [strike_at, decide_eq_true rfl]
    simp
  intro y
  rw [List.mem_map, List.mem_map]
  constructor
  · rintro ⟨x, hx, rfl⟩
    by_cases hn : x.name = f.name
    · obtain rfl := rising_inj h hx hf hn
      exact .inl e2
    · exact .inr ⟨⟨x, hx, (e x hn).symm⟩, by rw [crashIf_name]; exact hn⟩
  · rintro (rfl | ⟨⟨x, hx, rfl⟩, hn⟩)
    · exact ⟨f, hf, e2⟩
    · rw [crashIf_name] at hn
      exact ⟨x, hx, e x hn⟩
structure MapOf (M : DataW Nat) (fs : List Fl) (kk : ByteArray → Nat) : Prop where
  keys : ∀ kl, has M kl = true ↔ ∃ f ∈ fs, kl = keyF f.name
  at_ : ∀ f ∈ fs, ∀ z, M.atKey (keyF f.name) z = .held (kk f.name)
theorem MapOf.empty (kk : ByteArray → Nat) : MapOf (.map []) [] kk := ⟨fun kl => ⟨fun h => (by cases h), fun ⟨_, h, _⟩ => (by simp at h)⟩, fun _ h => (by simp at h)⟩
section
variable {M : DataW Nat} {fs fs' : List Fl} {kk kk' : ByteArray → Nat}
theorem MapOf.same (h : MapOf M fs kk) (hn : ∀ s, (∃ f ∈ fs', f.name = s) ↔ ∃ f ∈ fs, f.name = s) (hk : ∀ f ∈ fs, kk' f.name = kk f.name) : MapOf M fs' kk' := by
  refine ⟨fun kl => (h.keys kl).trans ⟨?_, ?_⟩, fun f hf z => ?_⟩
  · rintro ⟨f, hf, rfl⟩
    obtain ⟨y, hy, e⟩ := (hn f.name).2 ⟨f, hf, rfl⟩
    exact ⟨y, hy, by rw [e]⟩
  · rintro ⟨f, hf, rfl⟩
    obtain ⟨y, hy, e⟩ := (hn f.name).1 ⟨f, hf, rfl⟩
    exact ⟨y, hy, by rw [e]⟩
  · obtain ⟨y, hy, e⟩ := (hn f.name).1 ⟨f, hf, rfl⟩
    rw [← e, h.at_ y hy, hk y hy]
theorem MapOf.put (h : MapOf M fs kk) (hM : IsMap M) {f : Fl} (hs : SetTo fs' fs f) (k : Nat) (hk : kk' f.name = k) (ho : ∀ s, s ≠ f.name → kk' s = kk s) : MapOf (M.put (keyF f.name) (.held k)) fs' kk' := by
  refine ⟨fun kl => ?_, fun y hy z => ?_⟩
  · by_cases e : kl = keyF f.name
    · subst e
      rw [show has (M.put (keyF f.name) (.held k)) (keyF f.name) = true from has_put_same (k := .string _) hM trivial _]
      exact ⟨fun _ => ⟨f, (hs f).2 (.inl rfl), rfl⟩, fun _ => rfl⟩
    · rw [has_put_other e, h.keys]
      constructor
      · rintro ⟨y, hy, rfl⟩
        exact ⟨y, (hs y).2 (.inr ⟨hy, fun he => e (by rw [he])⟩), rfl⟩
      · rintro ⟨y, hy, rfl⟩
        rcases (hs y).1 hy with rfl | ⟨hy, _⟩
        · exact absurd rfl e
        · exact ⟨y, hy, rfl⟩
  · rcases (hs y).1 hy with rfl | ⟨hy, hn⟩
    · rw [hk]
      exact atKey_put_same (k := .string _) hM trivial _ _
    · rw [atKey_put_other (fun e => hn (keyF_inj e)), h.at_ y hy, ho _ hn]
theorem MapOf.del (h : MapOf M fs kk) {s : ByteArray} (hs : ∀ y, y ∈ fs' ↔ y ∈ fs ∧ y.name ≠ s) : MapOf (M.del (keyF s)) fs' kk := by
  refine ⟨fun kl => ?_, fun y hy z => ?_⟩
  · by_cases e : kl = keyF s
    · subst e
      rw [has_del_same]
      exact ⟨fun h => (by cases h), fun ⟨y, hy, e⟩ => absurd (keyF_inj e).symm ((hs y).1 hy).2⟩
    · rw [has_del_other e, h.keys]
      constructor
      · rintro ⟨y, hy, rfl⟩
        exact ⟨y, (hs y).2 ⟨hy, fun he => e (by rw [he])⟩, rfl⟩
      · rintro ⟨y, hy, rfl⟩
        exact ⟨y, ((hs y).1 hy).1, rfl⟩
  · obtain ⟨hy, hn⟩ := (hs y).1 hy
    rw [atKey_del_other (fun e => hn (keyF_inj e)), h.at_ y hy]
theorem MapOf.hasS (h : MapOf M fs kk) (s : ByteArray) : has M (keyF s) = decide (idxF fs s < fs.length) := by
  by_cases hk : idxF fs s < fs.length
  · rw [decide_eq_true hk, h.keys]
    exact ⟨_, fl_get hk, by rw [idxF_name hk]⟩
  · rw [decide_eq_false hk, ← Bool.not_eq_true, h.keys]
    rintro ⟨f, hf, e⟩
    exact idx_not hk f hf (keyF_inj e).symm
theorem nodup_keys (hr : Rising fs) : (fs.map fun f => keyF f.name).Nodup := by
  have h := rising_nodup hr
  unfold names List.Nodup at h
  rw [List.pairwise_map] at h
  unfold List.Nodup
  rw [List.pairwise_map]
  exact h.imp fun h1 e => h1 (keyF_inj e)
theorem MapOf.perm (h : MapOf M fs kk) (c : Canon M) (hr : Rising fs) : ∃ es, M = .map es ∧ (es.map (·.1)).Perm (fs.map fun f => keyF f.name) := by
  obtain ⟨es, rfl, hp, hk⟩ := c
  refine ⟨es, rfl, (List.perm_ext_iff_of_nodup ?_ (nodup_keys hr)).2 fun kl => ?_⟩
  · unfold List.Nodup
    rw [List.pairwise_map]
    exact apart_of_rising hp
  · have h1 := h.keys kl
    rw [has_eq, List.any_eq_true] at h1
    rw [List.mem_map, List.mem_map]
    constructor
    · rintro ⟨p, hp', rfl⟩
      obtain ⟨f, hf, e⟩ := h1.1 ⟨p, hp', WideAt.sameKey_self (hk p hp')⟩
      exact ⟨f, hf, e.symm⟩
    · rintro ⟨f, hf, rfl⟩
      obtain ⟨p, hp', e⟩ := h1.2 ⟨f, hf, rfl⟩
      exact ⟨p, hp', WideAt.sameKey_eq e⟩
theorem MapOf.size (h : MapOf M fs kk) (c : Canon M) (hr : Rising fs) : Maps.size M = fs.length := by
  obtain ⟨es, rfl, hp⟩ := h.perm c hr
  have := hp.length_eq
  rw [size_eq]
  simpa using this
theorem MapOf.strs (h : MapOf M fs kk) (c : Canon M) (hr : Rising fs) : (strKeys M).Perm (fs.map fun f => f.name.data.toList) := by
  obtain ⟨es, rfl, hp⟩ := h.perm c hr
  have := hp.map strOf
  rw [List.map_map, List.map_map] at this
  exact this
end
theorem sorted_names {fs : List Fl} (hr : Rising fs) {ss : List (List UInt8)} (hp : ss.Perm (fs.map fun f => f.name.data.toList)) : (ss.mergeSort leB).map Go.Proofs.encStr = MemRow.strs (names fs) := by
  have h : (fs.map fun f => f.name.data.toList).Pairwise fun a b => leB a b = true := by
    unfold Rising Up names at hr
    rw [List.pairwise_map] at hr ⊢
    refine hr.imp fun {a b} h1 => ?_
    rw [less_eq] at h1
    simp only [leB, decide_eq_true_eq] at h1 ⊢
    exact List.le_of_lt h1
  rw [mergeSort_of_perm hp, List.mergeSort_of_pairwise h]
  unfold names MemRow.strs
  rw [List.map_map, List.map_map]
  refine List.map_congr_left fun f _ => ?_
  simp [Go.Proofs.encStr]
structure DkGo (D : Dk) : Prop where
  ok : DkOk D
  up : Rising D.fs
  may : ∀ f ∈ D.fs, mayN f.name = true
theorem mayN_size {s : ByteArray} (h : mayN s = true) : s.size ≤ 20 := by
  unfold mayN at h
  rw [Bool.and_eq_true, decide_eq_true_eq] at h
  exact h.2.2
theorem burn_go {D : Dk} (h : DkGo D) : DkGo (burnD D) := ⟨burn_ok h.ok, h.up, h.may⟩
theorem new_go {q : Int} (h : q ≤ 9223372036854775807) : DkGo (newD q) := ⟨new_ok h, by simp [newD, Rising, names, Up], by simp [newD]⟩
theorem append_go {D : Dk} (h : DkGo D) (s : ByteArray) (b : List UInt8) : DkGo (appendD D s b).2 := by
  refine ⟨append_ok h.ok s b, ?_, ?_⟩
  · unfold appendD appendC
    repeat' split
    all_goals first | exact h.up | exact putF_rising h.up _
  · unfold appendD appendC
    split
    · exact h.may
    · split
      · exact h.may
      · next hm =>
        split
        · exact h.may
        · split
          · exact h.may
          · intro f hf
            rcases putF_mem hf with rfl | hf
            · simpa using hm
            · exact h.may f hf
theorem sync_go {D : Dk} (h : DkGo D) (s : ByteArray) : DkGo (syncD D s).2 := by
  refine ⟨sync_ok h.ok s, ?_, ?_⟩
  · unfold syncD syncC
    split
    · exact h.up
    · split
      · exact h.up
      · next hk => exact syncF_rising h.up (Decidable.byContradiction hk)
  · unfold syncD syncC
    split
    · exact h.may
    · split
      · exact h.may
      · next hk =>
        have hk : idxF D.fs s < D.fs.length := Decidable.byContradiction hk
        intro f hf
        rcases (syncF_set h.up hk f).1 hf with rfl | ⟨hf, _⟩
        · have := h.may _ (fl_get hk)
          rwa [idxF_name hk] at this
        · exact h.may f hf
theorem remove_go {D : Dk} (h : DkGo D) (s : ByteArray) : DkGo (removeD D s).2 := by
  refine ⟨remove_ok h.ok s, ?_, ?_⟩
  · unfold removeD removeC
    repeat' split
    all_goals first | exact h.up | exact dropF_rising h.up _
  · unfold removeD removeC
    repeat' split
    all_goals first | exact h.may | exact fun f hf => h.may f (dropF_mem hf)
theorem trunc_go {D : Dk} (h : DkGo D) (s : ByteArray) (z : Int) : DkGo (truncD D s z).2 := by
  refine ⟨trunc_ok h.ok s z, ?_, ?_⟩
  · unfold truncD truncC
    repeat' split
    all_goals first | exact h.up | exact putF_rising h.up _
  · unfold truncD truncC
    split
    · exact h.may
    · split
      · exact h.may
      · next hk =>
        have hk : idxF D.fs s < D.fs.length := Decidable.byContradiction hk
        split
        · exact h.may
        · intro f hf
          rcases putF_mem hf with rfl | hf
          · have := h.may _ (fl_get hk)
            rwa [idxF_name hk] at this
          · exact h.may f hf
theorem turn_go {D : Dk} (h : DkGo D) (s : ByteArray) (z : Int) : DkGo (turnC D s z).2 := by
  refine ⟨turn_ok h.ok s z, ?_, ?_⟩
  · unfold turnC
    repeat' split
    all_goals first | exact h.up | exact putF_rising h.up _
  · unfold turnC
    split
    · exact h.may
    · next hk =>
      have hk := Decidable.byContradiction hk
      split
      · exact h.may
      · intro f hf
        rcases putF_mem hf with rfl | hf
        · have := h.may _ (fl_get hk)
          rwa [idxF_name hk] at this
        · exact h.may f hf
theorem crash_go {D : Dk} (h : DkGo D) (keep : Int) : DkGo (crashD D keep) := by
  refine ⟨crash_ok h.ok keep, crashD_rising h.up keep, fun f hf => ?_⟩
  obtain ⟨x, hx, rfl⟩ := List.mem_map.1 hf
  exact h.may x hx
end Go.Proofs.YtppidbdkejkopaaGreatDoor.DkWalk
namespace Go.Proofs.YtppidbdkejkopaaGreatDoor.WlWalk
open Go.RowKit MemRow Ev NameMath NameWalk EvWalk DkWalk
open Go.Lib (decDigits)
theorem dec_small {u : Nat} (h : u < 10) : decDigits u = [UInt8.ofNat (48 + u)] := by rw [decDigits, dif_pos h]
theorem dec_big {u : Nat} (h : ¬ u < 10) : decDigits u = decDigits (u / 10) ++ [UInt8.ofNat (48 + u % 10)] := by rw [decDigits, dif_neg h]
def valD (l : List UInt8) : Nat := l.foldl (fun a c => a * 10 + (c.toNat - 48)) 0
theorem ofNat_dig {k : Nat} (h : k < 10) : (UInt8.ofNat (48 + k)).toNat = 48 + k := by
  rw [UInt8.toNat_ofNat']
  exact Nat.mod_eq_of_lt (by omega)
theorem valD_dec (u : Nat) : valD (decDigits u) = u := by
  induction u using Nat.strongRecOn with
  | ind u ih =>
    by_cases h : u < 10
    · rw [dec_small h]
      simp only [valD, List.foldl_cons, List.foldl_nil]
      rw [ofNat_dig h]
      omega
    · have h1 := ih (u / 10) (by omega)
      unfold valD at h1
      rw [dec_big h]
      simp only [valD, List.foldl_append, List.foldl_cons, List.foldl_nil]
      rw [h1, ofNat_dig (Nat.mod_lt _ (by omega))]
      omega
theorem dec_inj {u v : Nat} (h : decDigits u = decDigits v) : u = v := by rw [← valD_dec u, ← valD_dec v, h]
theorem dec_ch (u : Nat) : (decDigits u).all chN = true := by
  induction u using Nat.strongRecOn with
  | ind u ih =>
    have hd : ∀ k, k < 10 → chN (UInt8.ofNat (48 + k)) = true := fun k hk => by
      unfold chN
      rw [decide_eq_true_eq, ofNat_dig hk]
      omega
    by_cases h : u < 10
    · rw [dec_small h, List.all_cons, List.all_nil, hd u h]
      rfl
    · rw [dec_big h, List.all_append, ih (u / 10) (by omega), List.all_cons, List.all_nil, hd (u % 10) (Nat.mod_lt _ (by omega))]
      rfl
theorem dec_len {u : Nat} (h : u < 1000) : 1 ≤ (decDigits u).length ∧ (decDigits u).length ≤ 3 := by
  by_cases h1 : u < 10
  · rw [dec_small h1]
    simp
  · by_cases h2 : u / 10 < 10
    · rw [dec_big h1, dec_small h2]
      simp
    · rw [dec_big h1, dec_big h2, dec_small (by omega)]
      simp
def logP : List UInt8 := [108, 111, 103, 95]
def segN (n : Nat) : ByteArray := if 1 ≤ n ∧ n ≤ 200 then ⟨(logP ++ decDigits n).toArray⟩ else ByteArray.empty
theorem segN_in {n : Nat} (h1 : 1 ≤ n) (h2 : n ≤ 200) : segN n = ⟨(logP ++ decDigits n).toArray⟩ := by unfold segN; rw [if_pos ⟨h1, h2⟩]
theorem segN_out {n : Nat} (h : n = 0 ∨ 200 < n) : segN n = ByteArray.empty := by unfold segN; rw [if_neg (by omega)]
theorem segN_may {n : Nat} (h1 : 1 ≤ n) (h2 : n ≤ 200) : mayN (segN n) = true := by
  have hl := dec_len (u := n) (by omega)
  rw [segN_in h1 h2]
  unfold mayN
  rw [Bool.and_eq_true, decide_eq_true_eq]
  refine ⟨?_, ?_⟩
  · show (logP ++ decDigits n).all chN = true
    rw [List.all_append, dec_ch]
    rfl
  · show 1 ≤ (logP ++ decDigits n).toArray.size ∧ (logP ++ decDigits n).toArray.size ≤ 20
    rw [List.size_toArray, List.length_append]
    unfold logP
    simp only [List.length_cons, List.length_nil]
    omega
theorem may_empty : mayN ByteArray.empty = false := rfl
theorem segN_inj {m n : Nat} (hm1 : 1 ≤ m) (hm2 : m ≤ 200) (h : segN m = segN n) : m = n := by
  by_cases hn : 1 ≤ n ∧ n ≤ 200
  · rw [segN_in hm1 hm2, segN_in hn.1 hn.2] at h
    injection h with h
    have h2 := congrArg Array.toList h
    simp only at h2
    exact dec_inj (List.append_cancel_left h2)
  · rw [segN_out (n := n) (by omega)] at h
    have := segN_may hm1 hm2
    rw [h, may_empty] at this
    cases this
end Go.Proofs.YtppidbdkejkopaaGreatDoor.WlWalk
namespace Go.Proofs
open Go.Shelf
def Tryz.laysM171_ren : Go.Shelf.Ren := ⟨fun | 171 => 53 | 243 => 89 | 246 => 121 | 283 => 150 | 284 => 151 | 285 => 152 | 286 => 153 | 129 => 146 | 317 => 174 | 318 => 175 | 319 => 176 | 320 => 177 | 337 => 189 | 338 => 190 | n => n, fun | 3 => 3 | 9 => 9 | 2 => 2 | 4 => 4 | 171 => 172 | 0 => 0 | 53 => 145 | 37 => 58 | 5 => 5 | 173 => 173 | 212 => 193 | 51 => 76 | 20 => 20 | 213 => 194 | 46 => 135 | 232 => 211 | 233 => 212 | n => n, fun | 17 => 0 | 18 => 1 | 19 => 2 | n => n⟩
theorem Tryz.laysM171 : Go.Proofs.LaysM.n171 Tryz.prog Tryz.laysM171_ren := {
  mixed := by kernel_rfl
  f129 := Tryz.func146.trans (congrArg some (by kernel_rfl))
  f171 := Tryz.func53.trans (congrArg some (by kernel_rfl))
  f243 := Tryz.func89.trans (congrArg some (by kernel_rfl))
  f246 := Tryz.func121.trans (congrArg some (by kernel_rfl))
  f283 := Tryz.func150.trans (congrArg some (by kernel_rfl))
  f284 := Tryz.func151.trans (congrArg some (by kernel_rfl))
  f285 := Tryz.func152.trans (congrArg some (by kernel_rfl))
  f286 := Tryz.func153.trans (congrArg some (by kernel_rfl))
  f317 := Tryz.func174.trans (congrArg some (by kernel_rfl))
  f318 := Tryz.func175.trans (congrArg some (by kernel_rfl))
  f319 := Tryz.func176.trans (congrArg some (by kernel_rfl))
  f320 := Tryz.func177.trans (congrArg some (by kernel_rfl))
  f337 := Tryz.func189.trans (congrArg some (by kernel_rfl))
  f338 := Tryz.func190.trans (congrArg some (by kernel_rfl))
  t0 := Tryz.underlying0
  a0 := Tryz.isAgg0
  z0 := Tryz.sizeOf0
  v0 := Tryz.zeroValue0
  t2 := Tryz.underlying2
  a2 := Tryz.isAgg2
  z2 := Tryz.sizeOf2
  v2 := Tryz.zeroValue2
  t3 := Tryz.underlying3
  a3 := Tryz.isAgg3
  z3 := Tryz.sizeOf3
  v3 := Tryz.zeroValue3
  t4 := Tryz.underlying4
  a4 := Tryz.isAgg4
  z4 := Tryz.sizeOf4
  v4 := Tryz.zeroValue4
  t5 := Tryz.underlying5
  a5 := Tryz.isAgg5
  z5 := Tryz.sizeOf5
  v5 := Tryz.zeroValue5
  t9 := Tryz.underlying9
  a9 := Tryz.isAgg9
  z9 := Tryz.sizeOf9
  v9 := Tryz.zeroValue9
  t20 := Tryz.underlying20
  a20 := Tryz.isAgg20
  z20 := Tryz.sizeOf20
  v20 := Tryz.zeroValue20
  t37 := Tryz.underlying58
  a37 := Tryz.isAgg58
  z37 := Tryz.sizeOf58
  v37 := Tryz.zeroValue58
  t46 := Tryz.underlying135
  a46 := Tryz.isAgg135
  z46 := Tryz.sizeOf135
  v46 := Tryz.zeroValue135
  t51 := Tryz.underlying76
  a51 := Tryz.isAgg76
  z51 := Tryz.sizeOf76
  v51 := Tryz.zeroValue76
  t53 := Tryz.underlying145
  a53 := Tryz.isAgg145
  z53 := Tryz.sizeOf145
  v53 := Tryz.zeroValue145
  t171 := Tryz.underlying172
  a171 := Tryz.isAgg172
  z171 := Tryz.sizeOf172
  v171 := Tryz.zeroValue172
  t173 := Tryz.underlying173
  a173 := Tryz.isAgg173
  z173 := Tryz.sizeOf173
  v173 := Tryz.zeroValue173
  t212 := Tryz.underlying193
  a212 := Tryz.isAgg193
  z212 := Tryz.sizeOf193
  v212 := Tryz.zeroValue193
  t213 := Tryz.underlying194
  a213 := Tryz.isAgg194
  z213 := Tryz.sizeOf194
  t232 := Tryz.underlying211
  a232 := Tryz.isAgg211
  z232 := Tryz.sizeOf211
  v232 := Tryz.zeroValue211
  t233 := Tryz.underlying212
  a233 := Tryz.isAgg212
  z233 := Tryz.sizeOf212
  v233 := Tryz.zeroValue212
  g17 := by kernel_rfl
  g18 := by kernel_rfl
  g19 := by kernel_rfl
  i0 := by kernel_rfl
  i2 := by kernel_rfl
  i3 := by kernel_rfl
  i4 := by kernel_rfl
  i5 := by kernel_rfl
  i9 := by kernel_rfl
  i20 := by kernel_rfl
  i37 := by kernel_rfl
  i46 := by kernel_rfl
  i51 := by kernel_rfl
  i53 := by kernel_rfl
  i171 := by kernel_rfl
  i173 := by kernel_rfl
  i212 := by kernel_rfl
  i232 := by kernel_rfl
  i233 := by kernel_rfl
  m17 := by kernel_rfl
  m18 := by kernel_rfl
  m19 := by kernel_rfl }
open Go.RowKit Go.Sort Go.Lib in
theorem Tryz.strconv_Itoa (n : Int) (h0 : -9223372036854775808 ≤ n) (h1 : n ≤ 9223372036854775807) (w : World) (htab : Lib.TabIs Tryz.prog w "internal/strconv.uint64pow10" .u64 Lib.pow10Tab) :
    Calls Tryz.prog 53 #[.int .i64 n] w fun e w' => e = .returned (.string ⟨(Lib.itoa n).toArray⟩) ∧ ∃ k os, w' = grow (w.drewN k) os := Any.strconv_Itoa Tryz.laysM171 n h0 h1 w htab
end Go.Proofs
namespace Go.Proofs.YtppidbdkejkopaaGreatDoor.WlWalk
open Go.RowKit MemRow Ev NameMath NameWalk EvWalk DkWalk
open Go.Lib (decDigits)
def TabW (w : World) : Prop := Lib.TabIs Tryz.prog w "internal/strconv.uint64pow10" .u64 Lib.pow10Tab
theorem TabW.below {w w' : World} (h : TabW w) (hb : Below w.heap.size w w') : TabW w' :=
  Go.Joins.tab_stays (g := 0) (by kernel_rfl) h hb (Nat.le_refl _)
def segZ (z : Int) : ByteArray := segN z.toNat
theorem segZ_nat (n : Nat) : segZ (n : Int) = segN n := rfl
theorem seg_size (n : Nat) : (segN n).size ≤ maxLen := by
  unfold segN
  split
  · next h =>
    have := dec_len (u := n) (by omega)
    show (logP ++ decDigits n).toArray.size ≤ maxLen
    rw [List.size_toArray, List.length_append]
    unfold logP maxLen
    simp only [List.length_cons, List.length_nil]
    omega
  · exact Nat.zero_le _
theorem itoaW_any (n : Nat) (hn : n ≤ 1000) (w : World) (ht : TabW w) :
    Calls Tryz.prog 53 #[.int .i64 (n : Int)] w fun e w' => e = .returned (.string ⟨(decDigits n).toArray⟩) ∧ Below w.heap.size w w' := by
  refine (Tryz.strconv_Itoa (n : Int) (by omega) (by omega) w ht).mono ?_
  rintro e w' ⟨rfl, k, os, rfl⟩
  refine ⟨?_, ?_⟩
  · unfold Lib.itoa
    rw [if_neg (by omega), Int.toNat_natCast]
  · exact Lib.below_grow _ _ (Nat.le_refl _) k os
set_option maxHeartbeats 2000000 in
set_option maxRecDepth 100000 in
theorem refSeg_any (z : Int) (w : World) (ht : TabW w) :
    Calls Tryz.prog 25 #[.int .i64 z] w fun e w' => e = .returned (.string (segZ z)) ∧ Below w.heap.size w w' := by
  by_cases h0 : z < 1
  · have e : segZ z = ByteArray.empty := segN_out (by omega)
    rw [e]
    have b0 := Below.refl w.heap.size w
    go_enter Tryz.func25, Tryz.ntmps25
    go_wp2_with fail
    go_ret
    exact ⟨rfl, b0⟩
  · by_cases h1 : z > 200
    · have e : segZ z = ByteArray.empty := segN_out (by omega)
      rw [e]
      have b0 := Below.refl w.heap.size w
      go_enter Tryz.func25, Tryz.ntmps25
      go_wp2_with fail
      go_ret
      exact ⟨rfl, b0⟩
    · obtain ⟨n, rfl⟩ := Int.eq_ofNat_of_zero_le (by omega : 0 ≤ z)
      have e : segZ (n : Int) = ⟨(logP ++ decDigits n).toArray⟩ := segN_in (by omega) (by omega)
      rw [e]
      have hd := dec_len (u := n) (by omega)
      have hcat : ∀ W, (Op.stringOp .add ⟨#[108, 111, 103, 95]⟩ ⟨(decDigits n).toArray⟩).run Tryz.prog W = .ok (.string ⟨(logP ++ decDigits n).toArray⟩) W := fun W => run_string_add_lists W logP (decDigits n) (by unfold logP; simp) (by omega)
      have ci := itoaW_any n (by omega) w ht
      generalize decDigits n = dd at *
      have CI := Go.Lib.hid ci
      clear ci hd e
      go_enter Tryz.func25, Tryz.ntmps25
      go_wp2_with fail
      refine (CI.out).mono ?_
      rintro e w1 ⟨rfl, b1⟩
      go_wp2_with fail
      go_ret
      exact ⟨rfl, b1⟩
end Go.Proofs.YtppidbdkejkopaaGreatDoor.WlWalk
namespace Go.Proofs.YtppidbdkejkopaaGreatDoor.WlWalk
open Go.RowKit MemRow Ev NameMath NameWalk EvWalk DkWalk
def lkF (fs : List Fl) (s : ByteArray) : Option (List UInt8 × Nat) := if idxF fs s < fs.length then some ((fs.getD (idxF fs s) noFl).b, (fs.getD (idxF fs s) noFl).safe) else none
theorem lk_iff {fs : List Fl} (h : Rising fs) (s : ByteArray) (b : List UInt8) (k : Nat) : lkF fs s = some (b, k) ↔ (⟨s, b, k⟩ : Fl) ∈ fs := by
  unfold lkF
  by_cases hi : idxF fs s < fs.length
  · rw [if_pos hi]
    constructor
    · intro he
      have h1 := fl_get hi
      have h2 := idxF_name hi
      generalize fs.getD (idxF fs s) noFl = f at *
      obtain ⟨n, b', k'⟩ := f
      simp only [Option.some.injEq, Prod.mk.injEq] at he h2
      rw [← he.1, ← he.2, ← h2]
      exact h1
    · intro hm
      have := idx_at h hm
      simp only at this
      rw [this]
  · rw [if_neg hi]
    constructor
    · intro he
      cases he
    · intro hm
      exact absurd (idx_lt hm) hi
theorem lk_none {fs : List Fl} (s : ByteArray) : lkF fs s = none ↔ ∀ f ∈ fs, f.name ≠ s := by
  unfold lkF
  by_cases hi : idxF fs s < fs.length
  · rw [if_pos hi]
    constructor
    · intro h
      cases h
    · intro h
      exact absurd (idxF_name hi) (h _ (fl_get hi))
  · rw [if_neg hi]
    exact ⟨fun _ => idx_not hi, fun _ => rfl⟩
theorem lk_set {fs fs' : List Fl} (h : Rising fs) (h' : Rising fs') {f : Fl} (hs : SetTo fs' fs f) (t : ByteArray) : lkF fs' t = if t = f.name then some (f.b, f.safe) else lkF fs t := by
  by_cases ht : t = f.name
  · rw [if_pos ht, ht]
    exact (lk_iff h' _ _ _).2 ((hs _).2 (.inl rfl))
  · rw [if_neg ht]
    cases hl : lkF fs t with
    | none =>
      rw [lk_none] at hl ⊢
      intro y hy e
      rcases (hs y).1 hy with rfl | ⟨h1, _⟩
      · exact ht e.symm
      · exact hl y h1 e
    | some p =>
      obtain ⟨b, k⟩ := p
      rw [lk_iff h] at hl
      exact (lk_iff h' _ _ _).2 ((hs _).2 (.inr ⟨hl, ht⟩))
theorem lk_drop {fs fs' : List Fl} (h : Rising fs) (h' : Rising fs') {s : ByteArray} (hs : ∀ y, y ∈ fs' ↔ y ∈ fs ∧ y.name ≠ s) (t : ByteArray) : lkF fs' t = if t = s then none else lkF fs t := by
  by_cases ht : t = s
  · rw [if_pos ht, lk_none]
    intro y hy
    rw [ht]
    exact ((hs y).1 hy).2
  · rw [if_neg ht]
    cases hl : lkF fs t with
    | none =>
      rw [lk_none] at hl ⊢
      exact fun y hy => hl y ((hs y).1 hy).1
    | some p =>
      obtain ⟨b, k⟩ := p
      rw [lk_iff h] at hl
      exact (lk_iff h' _ _ _).2 ((hs _).2 ⟨hl, ht⟩)
theorem lk_idx {fs : List Fl} {s : ByteArray} {p : List UInt8 × Nat} (h : lkF fs s = some p) : idxF fs s < fs.length ∧ (fs.getD (idxF fs s) noFl).b = p.1 ∧ (fs.getD (idxF fs s) noFl).safe = p.2 := by
  unfold lkF at h
  by_cases hi : idxF fs s < fs.length
  · rw [if_pos hi] at h
    simp only [Option.some.injEq] at h
    rw [← h]
    exact ⟨hi, rfl, rfl⟩
  · rw [if_neg hi] at h
    cases h
theorem lk_noidx {fs : List Fl} {s : ByteArray} (h : lkF fs s = none) : ¬ idxF fs s < fs.length := by
  unfold lkF at h
  intro hi
  rw [if_pos hi] at h
  cases h
theorem read_lk (D : Dk) (s : ByteArray) : readC D s = (if (lkF D.fs s).isSome then 0 else 11) ∧ readB D s = ((lkF D.fs s).map (·.1)).getD [] := by
  unfold readC readB lkF
  by_cases hi : idxF D.fs s < D.fs.length
  · rw [if_pos hi, if_pos hi, if_pos hi]
    exact ⟨rfl, rfl⟩
  · rw [if_neg hi, if_neg hi, if_neg hi]
    exact ⟨rfl, rfl⟩
theorem read_some {D : Dk} {s : ByteArray} {p : List UInt8 × Nat} (h : lkF D.fs s = some p) : readC D s = 0 ∧ readB D s = p.1 := by
  obtain ⟨h1, h2⟩ := read_lk D s
  rw [h1, h2, h]
  exact ⟨rfl, rfl⟩
theorem read_none {D : Dk} {s : ByteArray} (h : lkF D.fs s = none) : readC D s = 11 ∧ readB D s = [] := by
  obtain ⟨h1, h2⟩ := read_lk D s
  rw [h1, h2, h]
  exact ⟨rfl, rfl⟩
def leftN (D : Dk) : Int := if 0 < D.left then D.left - 1 else D.left
structure Same (D D' : Dk) : Prop where
  quota : D'.quota = D.quota
  left : D'.left = leftN D
theorem fuse_out {D : Dk} (h : D.left = 0) (s : ByteArray) (b : List UInt8) (z : Int) : appendD D s b = (14, D) ∧ syncD D s = (14, D) ∧ removeD D s = (14, D) ∧ truncD D s z = (14, D) := by
  unfold appendD syncD removeD truncD
  rw [if_pos h, if_pos h, if_pos h, if_pos h]
  exact ⟨rfl, rfl, rfl, rfl⟩
theorem sync_yes {D : Dk} (h : DkGo D) (hl : D.left ≠ 0) {s : ByteArray} {b : List UInt8} {k : Nat} (hs : lkF D.fs s = some (b, k)) :
    (syncD D s).1 = 0 ∧ Same D (syncD D s).2 ∧ ∀ t, lkF (syncD D s).2.fs t = if t = s then some (b, b.length) else lkF D.fs t := by
  obtain ⟨h1, h2, h3⟩ := lk_idx hs
  simp only at h2 h3
  have hg := sync_go h s
  have hset := syncF_set h.up h1
  unfold syncD syncC at hg ⊢
  rw [if_neg hl] at hg ⊢
  have e : (burnD D).fs = D.fs := rfl
  rw [e] at hg ⊢
  rw [if_neg (by simpa using h1)] at hg ⊢
  refine ⟨rfl, ⟨rfl, rfl⟩, fun t => ?_⟩
  have := lk_set h.up hg.up hset t
  simp only at this
  rw [this, h2]
theorem sync_no {D : Dk} (hl : D.left ≠ 0) {s : ByteArray} (hs : lkF D.fs s = none) : syncD D s = (11, burnD D) := by
  unfold syncD syncC
  rw [if_neg hl]
  have e : (burnD D).fs = D.fs := rfl
  rw [e, if_pos (lk_noidx hs)]
theorem remove_yes {D : Dk} (h : DkGo D) (hl : D.left ≠ 0) {s : ByteArray} {p : List UInt8 × Nat} (hs : lkF D.fs s = some p) :
    (removeD D s).1 = 0 ∧ Same D (removeD D s).2 ∧ ∀ t, lkF (removeD D s).2.fs t = if t = s then none else lkF D.fs t := by
  obtain ⟨h1, _, _⟩ := lk_idx hs
  have hg := remove_go h s
  have hset := dropF_set h.up h1
  unfold removeD removeC at hg ⊢
  rw [if_neg hl] at hg ⊢
  have e : (burnD D).fs = D.fs := rfl
  rw [e] at hg ⊢
  rw [if_pos h1] at hg ⊢
  exact ⟨rfl, ⟨rfl, rfl⟩, fun t => lk_drop h.up hg.up hset t⟩
theorem trunc_yes {D : Dk} (h : DkGo D) (hl : D.left ≠ 0) {s : ByteArray} {b : List UInt8} {k n : Nat} (hs : lkF D.fs s = some (b, k)) (hn : n ≤ b.length) :
    (truncD D s (n : Int)).1 = 0 ∧ Same D (truncD D s (n : Int)).2 ∧ ∀ t, lkF (truncD D s (n : Int)).2.fs t = if t = s then some (b.take n, min k n) else lkF D.fs t := by
  obtain ⟨h1, h2, h3⟩ := lk_idx hs
  simp only at h2 h3
  have hg := trunc_go h s (n : Int)
  unfold truncD truncC at hg ⊢
  rw [if_neg hl] at hg ⊢
  have e : (burnD D).fs = D.fs := rfl
  rw [e] at hg ⊢
  rw [if_neg (by simpa using h1), h2, h3, if_neg (by omega)] at hg ⊢
  refine ⟨rfl, ⟨rfl, rfl⟩, fun t => ?_⟩
  have := lk_set h.up hg.up (putF_set h.up _) t
  simp only [Int.toNat_natCast] at this ⊢
  exact this
theorem append_code {D : Dk} (hl : D.left ≠ 0) (s : ByteArray) (b : List UInt8) (hc : (appendD D s b).1 ≠ 0) : (appendD D s b).2 = burnD D := by
  unfold appendD appendC at hc ⊢
  rw [if_neg hl] at hc ⊢
  split
  · rfl
  · next h1 =>
    rw [if_neg h1] at hc
    split
    · rfl
    · next h2 =>
      rw [if_neg h2] at hc
      split
      · rfl
      · next h3 =>
        rw [if_neg h3] at hc
        exact absurd rfl hc
theorem file_lk (fs : List Fl) (s : ByteArray) : (fileOf fs s).b = ((lkF fs s).map (·.1)).getD [] ∧ (fileOf fs s).safe = ((lkF fs s).map (·.2)).getD 0 := by
  unfold fileOf lkF
  by_cases hi : idxF fs s < fs.length
  · rw [if_pos hi, if_pos hi]
    exact ⟨rfl, rfl⟩
  · rw [if_neg hi, if_neg hi]
    exact ⟨rfl, rfl⟩
theorem append_yes {D : Dk} (h : DkGo D) (hl : D.left ≠ 0) (s : ByteArray) (b : List UInt8) (hc : (appendD D s b).1 = 0) :
    mayN s = true ∧ Same D (appendD D s b).2 ∧ ((usedF D.fs + b.length : Nat) : Int) ≤ D.quota ∧ ∀ t, lkF (appendD D s b).2.fs t = if t = s then some (((lkF D.fs s).map (·.1)).getD [] ++ b, ((lkF D.fs s).map (·.2)).getD 0) else lkF D.fs t := by
  have hg := append_go h s b
  obtain ⟨f1, f2⟩ := file_lk D.fs s
  unfold appendD appendC at hc hg ⊢
  rw [if_neg hl] at hc hg ⊢
  have e : (burnD D).fs = D.fs := rfl
  have eq : (burnD D).quota = D.quota := rfl
  rw [e, eq] at hc hg ⊢
  by_cases h1 : mayN s = false
  · rw [if_pos h1] at hc
    cases hc
  · rw [if_neg h1] at hc hg ⊢
    by_cases h2 : 65536 < (fileOf D.fs s).b.length + b.length ∨ (¬ idxF D.fs s < D.fs.length ∧ 200 ≤ D.fs.length)
    · rw [if_pos h2] at hc
      cases hc
    · rw [if_neg h2] at hc hg ⊢
      by_cases h3 : D.quota < (usedF D.fs + b.length : Nat)
      · rw [if_pos h3] at hc
        cases hc
      · rw [if_neg h3] at hg ⊢
        refine ⟨by simpa using h1, ⟨rfl, rfl⟩, by omega, fun t => ?_⟩
        have := lk_set h.up hg.up (putF_set h.up _) t
        simp only at this ⊢
        rw [this, f1, f2]
theorem append_ok_if {D : Dk} (hl : D.left ≠ 0) (s : ByteArray) (b : List UInt8) (h1 : mayN s = true) (h2 : (((lkF D.fs s).map (·.1)).getD []).length + b.length ≤ 65536) (h3 : lkF D.fs s ≠ none ∨ D.fs.length < 200) (h4 : ((usedF D.fs + b.length : Nat) : Int) ≤ D.quota) : (appendD D s b).1 = 0 := by
  obtain ⟨f1, _⟩ := file_lk D.fs s
  unfold appendD appendC
  rw [if_neg hl]
  have e : (burnD D).fs = D.fs := rfl
  have eq : (burnD D).quota = D.quota := rfl
  rw [e, eq, if_neg (by rw [h1]; decide), if_neg, if_neg (by omega)]
  rintro (h | ⟨ha, hb⟩)
  · rw [f1] at h
    omega
  · rcases h3 with h3 | h3
    · refine h3 ?_
      unfold lkF
      rw [if_neg ha]
    · omega
def cutN (keep : Int) (p : List UInt8 × Nat) : Nat := p.2 + min (max keep 0).toNat (p.1.length - p.2)
theorem crash_lk {D : Dk} (h : DkGo D) (keep : Int) (t : ByteArray) : lkF (crashD D keep).fs t = (lkF D.fs t).map fun p => (p.1.take (cutN keep p), cutN keep p) := by
  have hg := crash_go h keep
  cases hl : lkF D.fs t with
  | none =>
    rw [lk_none] at hl
    rw [Option.map_none, lk_none]
    intro f hf
    obtain ⟨g, hg2, rfl⟩ := List.mem_map.1 hf
    exact hl g hg2
  | some p =>
    obtain ⟨b, k⟩ := p
    rw [lk_iff h.up] at hl
    rw [Option.map_some, lk_iff hg.up]
    exact List.mem_map.2 ⟨_, hl, rfl⟩
end Go.Proofs.YtppidbdkejkopaaGreatDoor.WlWalk
namespace Go.Proofs.YtppidbdkejkopaaGreatDoor.CrcMath
def poly : Nat := 3988292384
def stepB (x : Nat) : Nat := x / 2 ^^^ (if x % 2 = 1 then poly else 0)
theorem xor_half (a b : Nat) : (a ^^^ b) / 2 = a / 2 ^^^ b / 2 := Nat.xor_div_two
theorem xor_par (a b : Nat) : (a ^^^ b) % 2 = (a + b) % 2 := by
  have h := @Nat.xor_mod_two_eq_one a b
  rcases Nat.mod_two_eq_zero_or_one a with ha | ha <;> rcases Nat.mod_two_eq_zero_or_one b with hb | hb <;> rcases Nat.mod_two_eq_zero_or_one (a ^^^ b) with hc | hc <;> simp [ha, hb, hc] at h <;> omega
theorem xor4 (a b c d : Nat) : (a ^^^ b) ^^^ (c ^^^ d) = (a ^^^ c) ^^^ (b ^^^ d) := by
  rw [Nat.xor_assoc, Nat.xor_assoc, ← Nat.xor_assoc b c d, Nat.xor_comm b c, Nat.xor_assoc]
theorem step_xor (a b : Nat) : stepB (a ^^^ b) = stepB a ^^^ stepB b := by
  unfold stepB
  rw [xor_half, xor_par, xor4]
  congr 1
  rcases Nat.mod_two_eq_zero_or_one a with ha | ha <;> rcases Nat.mod_two_eq_zero_or_one b with hb | hb
  · rw [if_neg (by omega), if_neg (by omega), if_neg (by omega)]; rfl
  · rw [if_pos (by omega), if_neg (by omega), if_pos (by omega)]; simp
  · rw [if_pos (by omega), if_pos (by omega), if_neg (by omega)]; simp
  · rw [if_neg (by omega), if_pos (by omega), if_pos (by omega)]; simp
theorem step_lt (x : Nat) (h : x < 4294967296) : stepB x < 4294967296 := by
  unfold stepB
  refine Nat.xor_lt_two_pow (n := 32) (by omega) ?_
  split
  · decide
  · decide
def step8 (x : Nat) : Nat := stepB (stepB (stepB (stepB (stepB (stepB (stepB (stepB x)))))))
theorem step8_xor (a b : Nat) : step8 (a ^^^ b) = step8 a ^^^ step8 b := by
  unfold step8
  simp only [step_xor]
theorem step8_lt (x : Nat) (h : x < 4294967296) : step8 x < 4294967296 := by
  unfold step8
  exact step_lt _ (step_lt _ (step_lt _ (step_lt _ (step_lt _ (step_lt _ (step_lt _ (step_lt _ h)))))))
theorem step_even (q : Nat) : stepB (2 * q) = q := by
  unfold stepB
  rw [if_neg (by omega), Nat.xor_zero]
  omega
theorem step8_shift (q : Nat) : step8 (256 * q) = q := by
  unfold step8
  rw [show 256 * q = 2 * (128 * q) from by omega, step_even, show 128 * q = 2 * (64 * q) from by omega, step_even, show 64 * q = 2 * (32 * q) from by omega, step_even, show 32 * q = 2 * (16 * q) from by omega, step_even,
    show 16 * q = 2 * (8 * q) from by omega, step_even, show 8 * q = 2 * (4 * q) from by omega, step_even, show 4 * q = 2 * (2 * q) from by omega, step_even, step_even]
theorem split256 (x : Nat) : x = 256 * (x / 256) ^^^ x % 256 := by
  have h : 2 ^ 8 * (x / 2 ^ 8) ^^^ x % 2 ^ 8 = x := by
    apply Nat.eq_of_testBit_eq
    intro i
    rw [Nat.testBit_xor, Nat.testBit_two_pow_mul, Nat.testBit_mod_two_pow, Nat.testBit_div_two_pow]
    by_cases hi : i < 8
    · simp [hi, show ¬ 8 ≤ i from by omega]
    · simp [hi, show 8 ≤ i from by omega, show i - 8 + 8 = i from by omega]
  exact h.symm
theorem step8_split (x : Nat) : step8 x = x / 256 ^^^ step8 (x % 256) := by
  conv => lhs; rw [split256 x]
  rw [step8_xor, step8_shift]
theorem xor_low (r c : Nat) (hc : c < 256) : (r ^^^ c) / 256 = r / 256 := by
  have e : (r ^^^ c) / 2 ^ 8 = r / 2 ^ 8 ^^^ c / 2 ^ 8 := Nat.xor_div_two_pow
  have : c / 2 ^ 8 = 0 := by omega
  rw [this, Nat.xor_zero] at e
  simpa using e
def upd (r c : Nat) : Nat := step8 (r ^^^ c)
theorem upd_table (r c : Nat) (hc : c < 256) : upd r c = r / 256 ^^^ step8 ((r ^^^ c) % 256) := by
  unfold upd
  rw [step8_split, xor_low r c hc]
theorem xor_byte_lt {r c : Nat} (hr : r < 4294967296) (hc : c < 256) : r ^^^ c < 4294967296 := Nat.xor_lt_two_pow (n := 32) hr (by omega)
theorem upd_lt {r c : Nat} (hr : r < 4294967296) (hc : c < 256) : upd r c < 4294967296 := step8_lt _ (xor_byte_lt hr hc)
def reg (r : Nat) : List UInt8 → Nat
  | [] => r
  | c :: l => reg (upd r c.toNat) l
theorem reg_append (r : Nat) (a b : List UInt8) : reg r (a ++ b) = reg (reg r a) b := by
  induction a generalizing r with
  | nil => rfl
  | cons c a ih => exact ih _
theorem reg_lt {r : Nat} (hr : r < 4294967296) (l : List UInt8) : reg r l < 4294967296 := by
  induction l generalizing r with
  | nil => exact hr
  | cons c l ih => exact ih (upd_lt hr (UInt8.toNat_lt c))
theorem toNat_xor (a b : UInt8) : (a ^^^ b).toNat = a.toNat ^^^ b.toNat := UInt8.toNat_xor a b
def word : List UInt8 → Nat
  | [] => 0
  | c :: l => c.toNat + 256 * word l
theorem word_lt (l : List UInt8) : word l < 256 ^ l.length := by
  induction l with
  | nil => simp [word]
  | cons c l ih =>
    have := UInt8.toNat_lt c
    simp only [word, List.length_cons, Nat.pow_succ]
    omega
def le4 (v : Nat) : List UInt8 := [v.toUInt8, (v / 256).toUInt8, (v / 65536).toUInt8, (v / 16777216).toUInt8]
theorem u8 (x : Nat) : (x.toUInt8).toNat = x % 256 := by simp [Nat.toUInt8, UInt8.toNat_ofNat']
theorem word_le4 {v : Nat} (hv : v < 4294967296) : word (le4 v) = v := by
  simp only [word, le4, u8]
  omega
def ones : Nat := 4294967295
def sum (b : List UInt8) : Nat := reg ones b ^^^ ones
theorem ones_lt : ones < 4294967296 := by decide
theorem sum_lt (b : List UInt8) : sum b < 4294967296 := Nat.xor_lt_two_pow (n := 32) (reg_lt ones_lt b) ones_lt
theorem le4_length (v : Nat) : (le4 v).length = 4 := rfl
def rest : Nat := reg ones (List.replicate 4 0)
theorem four (l : List UInt8) (h : l.length = 4) : ∃ a b c d, l = [a, b, c, d] := by
  match l, h with
  | [a, b, c, d], _ => exact ⟨a, b, c, d, rfl⟩
theorem le4_word (l : List UInt8) (h : l.length = 4) : le4 (word l) = l := by
  obtain ⟨a, b, c, d, rfl⟩ := four l h
  have ha := UInt8.toNat_lt a
  have hb := UInt8.toNat_lt b
  have hc := UInt8.toNat_lt c
  have hd := UInt8.toNat_lt d
  simp only [le4, word]
  have e : ∀ (x : Nat) (y : UInt8), x % 256 = y.toNat → x.toUInt8 = y := fun x y h => by
    apply UInt8.toNat_inj.1
    rw [u8, h]
  rw [e _ a (by omega), e _ b (by omega), e _ c (by omega), e _ d (by omega)]
end Go.Proofs.YtppidbdkejkopaaGreatDoor.CrcMath
namespace Go.Proofs.YtppidbdkejkopaaGreatDoor.CrcMath
def change (n p i : Nat) (b : List UInt8) : List UInt8 := List.replicate p 0 ++ (b.take i ++ List.replicate (n - p - i) 0)
end Go.Proofs.YtppidbdkejkopaaGreatDoor.CrcMath
