/-
  Contracts of layer 5: list, of texts; what it comes to.
-/
import Derived.Test.YtjglpmakjampjaaEcAll
import Derived.Test.YtjglpmakjampjaaNumReader
namespace Go.Proofs.Ytjglpmakjampjaa.EdWalk
open Go.RowKit Go.Proofs.Ytjglpmakjampjaa.MemRow Go.Proofs.Ytjglpmakjampjaa.Ev Go.Proofs.Ytjglpmakjampjaa.NameMath Go.Proofs.Ytjglpmakjampjaa.NameWalk Go.Proofs.Ytjglpmakjampjaa.EvWalk Go.Proofs.Ytjglpmakjampjaa.NumMath Go.Proofs.Ytjglpmakjampjaa.NumMem Go.Proofs.Ytjglpmakjampjaa.NumWalk Go.Proofs.Ytjglpmakjampjaa.EcWalk

/-- A reader that is bad has nothing left. -/
def Dry (l : List UInt8) (b : Bool) : Prop := b = true → l = []
theorem Dry.num {l : List UInt8} {b : Bool} (h : Dry l b) : Dry (numL l) (numB l b) := by
  intro hb
  unfold numB at hb
  unfold numL
  split at hb
  · next h0 => rw [if_pos h0]
  · next h0 =>
    obtain rfl := h hb
    exact absurd rfl h0
theorem Dry.text {l : List UInt8} {b : Bool} (h : Dry l b) : Dry (textL l) (textB l b) := by
  intro hb
  unfold textB at hb
  unfold textL
  split at hb
  · next h0 =>
    rw [if_pos h0, h.num hb]
    simp
  · next h0 => rw [if_neg h0]
/-- A number was read: the reader is good. -/
theorem Dry.good {l : List UInt8} {b : Bool} (h : Dry l b) (hn : 0 < numV l) : numB l b = false := by
  cases hb : numB l b with
  | false => rfl
  | true =>
    exfalso
    unfold numB at hb
    split at hb
    · next h0 =>
      unfold numV at hn
      rw [if_pos h0] at hn
      omega
    · next h0 =>
      obtain rfl := h hb
      exact h0 rfl

theorem own_off {k : Nat} {w w' : World} {base : Nat} {t : TypeId} {A : Option Addr} {n cap : Nat} {cs : List Value} {g : Nat} (h : OwnC k w base t A n cap cs) (hg : w.grownBy w' (some g)) (hb : g < base) : OwnC k w' base t A n cap cs :=
  OwnC.grown h hg fun a hA e => by
    have := (OwnC.lt h a hA).1
    injection e with e
    omega

/-- What a list of texts comes to. -/
def ListS (n : Int) (K : Nat) (l0 : List UInt8) (b0 : Bool) (g : Nat) (w : World) (e : Ending) (w' : World) : Prop :=
  w.grownBy w' (some g) ∧ ∃ (ts : List ByteArray) (l' : List UInt8) (b' : Bool) (A : Option Addr) (m cap : Nat) (us : List ByteArray) (ok : Bool), Hid (takeTags K l0 b0 = (ts, l', b')) ∧ Hid (ok = (decide (0 ≤ n) && !b')) ∧ e = .returned (.tuple #[.slice A m cap, .bool ok]) ∧ Rdr w' 60 g l' b' ∧ OwnC 1 w' w.heap.size 9 A m cap (MemRow.strs us) ∧ Hid (b' = false → us = ts.take 7) ∧ Hid (∀ x ∈ us, x.size ≤ maxLen)

set_option maxHeartbeats 4000000 in
set_option maxRecDepth 100000 in
theorem listS_any (g : Nat) (l : List UInt8) (b : Bool) (w : World) (h : Rdr w 60 g l b) (hd : Dry l b) :
    Calls Try.prog 48 #[.pointer (some ⟨g, 0, none⟩), .int .i64 6, .func (.func 47) #[.pointer (some ⟨g, 0, none⟩)] #[]] w fun e w' => ListS (numV l) (numV l).toNat (numL l) (numB l b) g w e w' := by
  have gw := h.lt
  have hgood := hd.good
  have hrange := numV_range l
  generalize hn : numV l = n at *
  generalize hl0 : numL l = l0 at *
  generalize hb0 : numB l b = b0 at *
  obtain ⟨K, hK⟩ : ∃ K, K = n.toNat := ⟨_, rfl⟩
  rw [← hK]
  have HK := Go.Lib.hid hK
  have HN := Go.Lib.hid hn
  have HL0 := Go.Lib.hid hl0
  have HB0 := Go.Lib.hid hb0
  clear hK hn hl0 hb0
  go_enter Try.func48, Try.ntmps48
  go_wp2_with fail
  refine (num_any g l b w h).mono ?_
  rintro e w1 ⟨rfl, r1, g1⟩
  clear h
  rw [HN.out]
  rw [HL0.out, HB0.out] at r1
  go_wp2_with fail
  go_loopw [8, 10, 14] (fun lv _ i wr => ∃ (j : Nat) (A : Option Addr) (m cap : Nat) (ts : List ByteArray) (l' : List UInt8), j ≤ K ∧ i = .int .i64 j ∧ lv = .slice A m cap ∧ Hid (takeTags K l0 b0 = (ts ++ (takeTags (K - j) l' b0).1, (takeTags (K - j) l' b0).2) ∧ ts.length = j) ∧ Hid (m = min j 7) ∧ OwnC 1 wr w.heap.size 9 A m cap (MemRow.strs (ts.take 7)) ∧ Rdr wr 60 g l' b0 ∧ w.grownBy wr (some g) ∧ Hid (∀ x ∈ ts, x.size ≤ maxLen)) (fun _ _ i _ => K - (intOf i).toNat)
  case atStart => exact ⟨0, none, 0, 0, [], l0, Nat.zero_le _, rfl, rfl, Go.Lib.hid (by simp), Go.Lib.hid rfl, OwnC.nil _ _, r1, g1, Go.Lib.hid (by simp)⟩
  case round =>
    obtain ⟨j, A, m, cap, ts, l', hj, rfl, rfl, HQ, HM, ow, rd, gr, HSZ⟩ := hrel
    clear r1 g1
    by_cases hlt : (j : Int) < n
    · obtain rfl : b0 = false := hgood (by omega)
      go_wp2_with fail
      refine (text_any g l' false wr rd).mono ?_
      rintro e v1 ⟨rfl, hr, hg⟩
      have ow1 := own_off ow hg gw
      have gr1 := gr_step' gr hg
      have HT := Go.Lib.hid (tx_small rd)
      have hjK : j + 1 ≤ K := by have := HK.out; omega
      have hKj : K - j = K - (j + 1) + 1 := by omega
      have HKJ := Go.Lib.hid hKj
      have hgo : takeTags K l0 false = ((ts ++ [tx l']) ++ (takeTags (K - (j + 1)) (textL l') (textB l' false)).1, (takeTags (K - (j + 1)) (textL l') (textB l' false)).2) := by
        rw [HQ.out.1, HKJ.out, takeTags_go]
        simp
      have HGO := Go.Lib.hid hgo
      have hlen := HQ.out.2
      have HLEN := Go.Lib.hid hlen
      clear ow rd gr hg hKj hgo hlen
      cases hb1 : textB l' false with
      | true =>
        rw [hb1] at hr
        have hn0 : 0 ≤ n := by omega
        have hst : takeTags K l0 false = (ts ++ [tx l'], textL l', true) := by
          rw [HGO.out, hb1, takeTags_stop (.inr rfl)]
          simp
        have HST := Go.Lib.hid hst
        have hsz : ∀ x ∈ ts.take 7, x.size ≤ maxLen := fun x hx => HSZ.out x (List.mem_of_mem_take hx)
        have HZ := Go.Lib.hid hsz
        clear hb1 hst hsz HGO HQ
        go_wp2_with fail
        refine (bad_any g _ _ v1 hr).mono ?_
        rintro e w' ⟨rfl, rfl⟩
        go_wp2_with fail
        refine (bad_any g _ _ v1 hr).mono ?_
        rintro e w' ⟨rfl, rfl⟩
        go_wp2_with fail
        go_ret2
        exact ⟨gr1, ts ++ [tx l'], textL l', true, A, m, cap, ts.take 7, _, HST, Go.Lib.hid (by simp), rfl, hr, ow1, Go.Lib.hid (fun h => by cases h), HZ⟩
      | false =>
        rw [hb1] at hr HGO
        clear hb1 HQ
        have hsz2 : ∀ x ∈ ts ++ [tx l'], x.size ≤ maxLen := by
          intro x hx
          rcases List.mem_append.1 hx with hx | hx
          · exact HSZ.out x hx
          · rw [List.mem_singleton.1 hx]
            exact HT.out
        have HSZ2 := Go.Lib.hid hsz2
        clear hsz2
        go_wp2_with fail
        refine (bad_any g _ _ v1 hr).mono ?_
        rintro e w' ⟨rfl, rfl⟩
        by_cases h6 : j ≤ 6
        · obtain rfl : m = j := by have := HM.out; omega
          have i1 : (m : Int) ≤ 6 := by omega
          have htk : ts.take 7 = ts := List.take_of_length_le (by rw [HLEN.out]; omega)
          have htk2 : (ts ++ [tx l']).take 7 = ts ++ [tx l'] := List.take_of_length_le (by rw [List.length_append, HLEN.out]; simp; omega)
          rw [htk] at ow1
          have HTK2 := Go.Lib.hid htk2
          have al : Below v1.heap.size v1 (v1.alloc (.cells #[.string ⟨(textV l').toArray⟩] 9)) := (Below.refl _ _).alloc (Nat.le_refl _) _
          have d1 : RdC 1 (v1.alloc (.cells #[.string ⟨(textV l').toArray⟩] 9)) (some ⟨v1.heap.size, 0, none⟩) 1 1 (MemRow.strs [tx l']) := RdC.new v1 9 (MemRow.strs [tx l']) rfl (by decide)
          have ow2 := OwnC.below ow1 al
          have big : w.heap.size ≤ (v1.alloc (.cells #[.string ⟨(textV l').toArray⟩] 9)).heap.size := Nat.le_trans gr1.size al.size
          have h63 : m + 1 ≤ maxLen := by unfold maxLen; omega
          have hsz : (m + 1) * 16 ≤ 140737488355328 := by omega
          have rd2 := hr.below al
          clear htk htk2
          go_wp2_with (at_builtin; refine wpList_append_cells rfl (.tmp 24) (.tmp 26) 23 rfl 9 (.string ByteArray.empty) 16 Try.underlying23 string_info rfl (by decide) rfl rfl ow2 d1 (strs_one [tx l']) h63 hsz big ?_; intro T8 c8 w8 o8 g8 _)
          go_roundw
          case rel =>
            have low := fun r e => row_low ow2 (r := r) e
            refine ⟨m + 1, T8, m + 1, c8, ts ++ [tx l'], textL l', by omega, by go_num, rfl, Go.Lib.hid ⟨HGO.out, by rw [List.length_append, HLEN.out]; rfl⟩, Go.Lib.hid (by omega), ?_, rdr_apart rd2 g8 (fun r e => by have := low r e; omega), gr_step (gr_step gr1 (row := none) ⟨al.os, al.tape, al.output, al.size, fun k hk _ => al.block k hk⟩ (fun r e => by cases e)) g8 (fun r e => low r e), HSZ2⟩
            rw [HTK2.out, strs_append]
            exact o8
          case measure => simp [intOf]; omega
        · obtain rfl : m = 7 := by have := HM.out; omega
          have i1 : ¬ (7 : Int) ≤ 6 := by omega
          have htk : (ts ++ [tx l']).take 7 = ts.take 7 := List.take_append_of_le_length (by rw [HLEN.out]; omega)
          have HTK := Go.Lib.hid htk
          clear htk
          go_wp2_with fail
          go_roundw
          case rel =>
            refine ⟨j + 1, A, 7, cap, ts ++ [tx l'], textL l', by omega, by go_num, rfl, Go.Lib.hid ⟨HGO.out, by rw [List.length_append, HLEN.out]; rfl⟩, Go.Lib.hid (by omega), ?_, hr, gr1, HSZ2⟩
            rw [HTK.out]
            exact ow1
          case measure => simp [intOf]; omega
    · have hst : takeTags K l0 b0 = (ts, l', b0) := by
        have hKj : K - j = 0 := by have := HK.out; omega
        rw [HQ.out.1, hKj, takeTags_stop (.inl rfl)]
        simp
      have HST := Go.Lib.hid hst
      have hsz : ∀ x ∈ ts.take 7, x.size ≤ maxLen := fun x hx => HSZ.out x (List.mem_of_mem_take hx)
      have HZ := Go.Lib.hid hsz
      clear hst hsz HQ
      by_cases hn0 : 0 ≤ n
      · go_wp2_with fail
        refine (bad_any g _ _ wr rd).mono ?_
        rintro e w' ⟨rfl, rfl⟩
        go_wp2_with fail
        go_ret2
        exact ⟨gr, ts, l', b0, A, m, cap, ts.take 7, _, HST, Go.Lib.hid (by rw [decide_eq_true (by omega)]; rfl), rfl, rd, ow, Go.Lib.hid (fun _ => rfl), HZ⟩
      · go_wp2_with fail
        go_ret2
        exact ⟨gr, ts, l', b0, A, m, cap, ts.take 7, _, HST, Go.Lib.hid (by rw [decide_eq_false (by omega)]; rfl), rfl, rd, ow, Go.Lib.hid (fun _ => rfl), HZ⟩

end Go.Proofs.Ytjglpmakjampjaa.EdWalk
