/-
  Contracts of layer 5: what a field is taken by; list, of numbers with a name.
-/
import Derived.Test.YtjglpmakjampjaaEdList
namespace Go.Proofs.Ytjglpmakjampjaa.EdWalk
open Go.RowKit Go.Proofs.Ytjglpmakjampjaa.MemRow Go.Proofs.Ytjglpmakjampjaa.Ev Go.Proofs.Ytjglpmakjampjaa.NameMath Go.Proofs.Ytjglpmakjampjaa.NameWalk Go.Proofs.Ytjglpmakjampjaa.EvWalk Go.Proofs.Ytjglpmakjampjaa.NumMath Go.Proofs.Ytjglpmakjampjaa.NumMem Go.Proofs.Ytjglpmakjampjaa.NumWalk Go.Proofs.Ytjglpmakjampjaa.EcWalk

set_option maxHeartbeats 4000000 in
set_option maxRecDepth 100000 in
theorem item_any (bx g : Nat) (l : List UInt8) (b : Bool) (w : World) (hc : w.cell? ⟨bx, 0, none⟩ = some (.pointer (some ⟨g, 0, none⟩))) (h : Rdr w 60 g l b) (hne : bx ≠ g) :
    Calls Try.prog 50 #[.pointer (some ⟨bx, 0, none⟩)] w fun e w' => e = .returned (.agg #[.string (tx l), .int .i64 (numV (textL l))]) ∧ Rdr w' 60 g (numL (textL l)) (numB (textL l) (textB l b)) ∧ w.grownBy w' (some g) := by
  have gw := h.lt
  have al : Below w.heap.size w (w.alloc (.cells #[.string ⟨#[]⟩, .int .i64 0] 52)) := (Below.refl _ _).alloc (Nat.le_refl _) _
  have f1 : FldAt (w.alloc (.cells #[.string ⟨#[]⟩, .int .i64 0] 52)) w.heap.size (⟨#[]⟩, 0) := heap_alloc_new w _
  have c1 := bcell al hc
  have r1 := h.below al
  have g1 : w.grownBy (w.alloc (.cells #[.string ⟨#[]⟩, .int .i64 0] 52)) (some g) := ⟨al.os, al.tape, al.output, al.size, fun k hk _ => al.block k hk⟩
  clear h al
  go_enter Try.func50, Try.ntmps50
  go_upto_region 1 with (fail)
  generalize w.alloc (.cells #[.string ⟨#[]⟩, .int .i64 0] 52) = w1 at *
  go_wp2_with fail
  refine (text_any g l b w1 r1).mono ?_
  rintro e w2 ⟨rfl, r2, gg⟩
  have c2 : w2.cell? ⟨bx, 0, none⟩ = _ := gg.cell c1 (by simpa using hne)
  have g2 := gr_step' g1 gg
  have f2 : FldAt w2 w.heap.size (⟨#[]⟩, 0) := (gg.block _ f1.lt (by simp; omega)).trans f1
  clear r1 gg c1 g1 f1
  go_wp2_with fail
  refine (num_any g _ _ w2 r2).mono ?_
  rintro e w3 ⟨rfl, r3, gg⟩
  have g3 := gr_step' g2 gg
  have f3 : FldAt w3 w.heap.size (⟨#[]⟩, 0) := (gg.block _ f2.lt (by simp; omega)).trans f2
  have k0 := f3.c0
  have k1 := f3.c1
  have z0 := f3.frozen 0
  have z1 := f3.frozen 1
  have f4 := f3.set (tx l) (numV (textL l))
  have s0 := grown_set w3 w.heap.size 0 (.string (tx l))
  have s1 := grown_set (w3.setCell ⟨w.heap.size, 0, none⟩ (.string (tx l))) w.heap.size 1 (.int .i64 (numV (textL l)))
  have r4 := rdr_apart (rdr_apart r3 s0 (fun r e => by injection e; omega)) s1 (fun r e => by injection e; omega)
  have g4 := gr_step (gr_step g3 s0 (fun r e => by injection e; omega)) s1 (fun r e => by injection e; omega)
  have R4 := Go.Lib.hid r4
  have G4 := Go.Lib.hid g4
  have F4 := Go.Lib.hid f4
  clear r2 gg g2 f2 r3 g3 f3 f4 s0 s1 r4 g4 c2
  go_wp2_with fail
  have hset : (w3.setCell ⟨w.heap.size, 0, none⟩ (.string ⟨(textV l).toArray⟩)).setCell ⟨w.heap.size, 1, none⟩ (.int .i64 (numV (textL l))) = (w3.setCell ⟨w.heap.size, 0, none⟩ (.string (tx l))).setCell ⟨w.heap.size, 1, none⟩ (.int .i64 (numV (textL l))) := rfl
  rw [hset]
  have f5 := F4.out
  have r5 := R4.out
  have g5 := G4.out
  clear F4 R4 G4 hset k0 k1 z0 z1
  generalize (w3.setCell ⟨w.heap.size, 0, none⟩ (.string (tx l))).setCell ⟨w.heap.size, 1, none⟩ (.int .i64 (numV (textL l))) = w4 at *
  have q0 := f5.c0
  have q1 := f5.c1
  exact bodyPost_ret (v := .agg #[.string (tx l), .int .i64 (numV (textL l))]) (by simp [results, Try.results50, go_sem, q0, q1]) rfl ⟨rfl, r5, g5⟩

/-- What a list of numbers with a name comes to. -/
def ListF (n : Int) (K : Nat) (l0 : List UInt8) (b0 : Bool) (g : Nat) (w : World) (e : Ending) (w' : World) : Prop :=
  w.grownBy w' (some g) ∧ ∃ (ts : List (ByteArray × Int)) (l' : List UInt8) (b' : Bool) (A : Option Addr) (m cap : Nat) (us : List (ByteArray × Int)) (ok : Bool), Hid (takeFlds K l0 b0 = (ts, l', b')) ∧ Hid (ok = (decide (0 ≤ n) && !b')) ∧ e = .returned (.tuple #[.slice A m cap, .bool ok]) ∧ Rdr w' 60 g l' b' ∧ OwnC 2 w' w.heap.size 52 A m cap (flds us) ∧ Hid (b' = false → us = ts.take 5) ∧ Hid (∀ x ∈ us, x.1.size ≤ maxLen ∧ -9223372036854775808 ≤ x.2 ∧ x.2 ≤ 9223372036854775807)

set_option maxHeartbeats 4000000 in
set_option maxRecDepth 100000 in
theorem listF_any (g : Nat) (l : List UInt8) (b : Bool) (w : World) (h : Rdr w 60 g l b) (hd : Dry l b) (bx : Nat) (hc : w.cell? ⟨bx, 0, none⟩ = some (.pointer (some ⟨g, 0, none⟩))) (hne : bx ≠ g) :
    Calls Try.prog 49 #[.pointer (some ⟨g, 0, none⟩), .int .i64 4, .func (.func 50) #[] #[.pointer (some ⟨bx, 0, none⟩)]] w fun e w' => ListF (numV l) (numV l).toNat (numL l) (numB l b) g w e w' := by
  have gw := h.lt
  have hgood := hd.good
  have hrange := numV_range l
  generalize hn : numV l = n at *
  generalize hl0 : numL l = l0 at *
  generalize hb0 : numB l b = b0 at *
  obtain ⟨K, hK⟩ : ∃ K, K = n.toNat := ⟨_, rfl⟩
  rw [← hK]
  have HK := Go.Lib.hid hK
  have HN := Go.Lib.hid hn
  have HL0 := Go.Lib.hid hl0
  have HB0 := Go.Lib.hid hb0
  clear hK hn hl0 hb0
  go_enter Try.func49, Try.ntmps49
  go_wp2_with fail
  refine (num_any g l b w h).mono ?_
  rintro e w1 ⟨rfl, r1, g1⟩
  clear h
  rw [HN.out]
  rw [HL0.out, HB0.out] at r1
  go_wp2_with fail
  go_loopw [8, 10, 14] (fun lv _ i wr => ∃ (j : Nat) (A : Option Addr) (m cap : Nat) (ts : List (ByteArray × Int)) (l' : List UInt8), j ≤ K ∧ i = .int .i64 j ∧ lv = .slice A m cap ∧ Hid (takeFlds K l0 b0 = (ts ++ (takeFlds (K - j) l' b0).1, (takeFlds (K - j) l' b0).2) ∧ ts.length = j) ∧ Hid (m = min j 5) ∧ OwnC 2 wr w.heap.size 52 A m cap (flds (ts.take 5)) ∧ Rdr wr 60 g l' b0 ∧ w.grownBy wr (some g) ∧ Hid (∀ x ∈ ts, x.1.size ≤ maxLen ∧ -9223372036854775808 ≤ x.2 ∧ x.2 ≤ 9223372036854775807)) (fun _ _ i _ => K - (intOf i).toNat)
  case atStart => exact ⟨0, none, 0, 0, [], l0, Nat.zero_le _, rfl, rfl, Go.Lib.hid (by simp), Go.Lib.hid rfl, OwnC.nil _ _, r1, g1, Go.Lib.hid (by simp)⟩
  case round =>
    obtain ⟨j, A, m, cap, ts, l', hj, rfl, rfl, HQ, HM, ow, rd, gr, HSZ⟩ := hrel
    clear r1 g1
    by_cases hlt : (j : Int) < n
    · obtain rfl : b0 = false := hgood (by omega)
      go_wp2_with fail
      refine (item_any bx g l' false wr (gr.cell hc (by simpa using hne)) rd hne).mono ?_
      rintro e v0 ⟨rfl, hr0, hg⟩
      have ow0 := own_off ow hg gw
      have gr0 := gr_step' gr hg
      have HT := Go.Lib.hid (tx_small rd)
      have HNV := Go.Lib.hid (numV_range (textL l'))
      go_upto_region 6 with (fail)
      have a1 : Below v0.heap.size v0 (v0.alloc (.cells #[.string (tx l'), .int .i64 (numV (textL l'))] 52)) := (Below.refl _ _).alloc (Nat.le_refl _) _
      have f1 : FldAt (v0.alloc (.cells #[.string (tx l'), .int .i64 (numV (textL l'))] 52)) v0.heap.size (tx l', numV (textL l')) := heap_alloc_new v0 _
      have hr := hr0.below a1
      have ow1 := OwnC.below ow0 a1
      have gr1 := gr_step gr0 (row := none) ⟨a1.os, a1.tape, a1.output, a1.size, fun k hk _ => a1.block k hk⟩ (fun r e => by cases e)
      generalize v0.alloc (.cells #[.string (tx l'), .int .i64 (numV (textL l'))] 52) = v1 at *
      have q0 := f1.c0
      have q1 := f1.c1
      simp only at q0 q1
      have hjK : j + 1 ≤ K := by have := HK.out; omega
      have hKj : K - j = K - (j + 1) + 1 := by omega
      have HKJ := Go.Lib.hid hKj
      have hgo : takeFlds K l0 false = ((ts ++ [(tx l', numV (textL l'))]) ++ (takeFlds (K - (j + 1)) (numL (textL l')) (numB (textL l') (textB l' false))).1, (takeFlds (K - (j + 1)) (numL (textL l')) (numB (textL l') (textB l' false))).2) := by
        rw [HQ.out.1, HKJ.out, takeFlds_go]
        simp
      have HGO := Go.Lib.hid hgo
      have hlen := HQ.out.2
      have HLEN := Go.Lib.hid hlen
      clear ow rd gr hg hKj hgo hlen ow0 gr0 a1 f1 hr0
      cases hb1 : numB (textL l') (textB l' false) with
      | true =>
        rw [hb1] at hr
        have hn0 : 0 ≤ n := by omega
        have hst : takeFlds K l0 false = (ts ++ [(tx l', numV (textL l'))], numL (textL l'), true) := by
          rw [HGO.out, hb1, takeFlds_stop (.inr rfl)]
          simp
        have HST := Go.Lib.hid hst
        have hsz : ∀ x ∈ ts.take 5, x.1.size ≤ maxLen ∧ -9223372036854775808 ≤ x.2 ∧ x.2 ≤ 9223372036854775807 := fun x hx => HSZ.out x (List.mem_of_mem_take hx)
        have HZ := Go.Lib.hid hsz
        clear hb1 hst hsz HGO HQ
        go_wp2_with fail
        refine (bad_any g _ _ v1 hr).mono ?_
        rintro e w' ⟨rfl, rfl⟩
        go_wp2_with fail
        refine (bad_any g _ _ v1 hr).mono ?_
        rintro e w' ⟨rfl, rfl⟩
        go_wp2_with fail
        go_ret2
        exact ⟨gr1, ts ++ [(tx l', numV (textL l'))], numL (textL l'), true, A, m, cap, ts.take 5, _, HST, Go.Lib.hid (by simp), rfl, hr, ow1, Go.Lib.hid (fun h => by cases h), HZ⟩
      | false =>
        rw [hb1] at hr HGO
        clear hb1 HQ
        have hsz2 : ∀ x ∈ ts ++ [(tx l', numV (textL l'))], x.1.size ≤ maxLen ∧ -9223372036854775808 ≤ x.2 ∧ x.2 ≤ 9223372036854775807 := by
          intro x hx
          rcases List.mem_append.1 hx with hx | hx
          · exact HSZ.out x hx
          · rw [List.mem_singleton.1 hx]
            exact ⟨HT.out, HNV.out⟩
        have HSZ2 := Go.Lib.hid hsz2
        clear hsz2
        go_wp2_with fail
        refine (bad_any g _ _ v1 hr).mono ?_
        rintro e w' ⟨rfl, rfl⟩
        by_cases h6 : j ≤ 4
        · obtain rfl : m = j := by have := HM.out; omega
          have i1 : (m : Int) ≤ 4 := by omega
          have htk : ts.take 5 = ts := List.take_of_length_le (by rw [HLEN.out]; omega)
          have htk2 : (ts ++ [(tx l', numV (textL l'))]).take 5 = ts ++ [(tx l', numV (textL l'))] := List.take_of_length_le (by rw [List.length_append, HLEN.out]; simp; omega)
          rw [htk] at ow1
          have HTK2 := Go.Lib.hid htk2
          have al : Below v1.heap.size v1 (v1.alloc (.cells #[.string (tx l'), .int .i64 (numV (textL l'))] 52)) := (Below.refl _ _).alloc (Nat.le_refl _) _
          have d1 : RdC 2 (v1.alloc (.cells #[.string (tx l'), .int .i64 (numV (textL l'))] 52)) (some ⟨v1.heap.size, 0, none⟩) 1 1 (flds [(tx l', numV (textL l'))]) := RdC.new v1 52 (flds [(tx l', numV (textL l'))]) rfl (by decide)
          have ow2 := OwnC.below ow1 al
          have big : w.heap.size ≤ (v1.alloc (.cells #[.string (tx l'), .int .i64 (numV (textL l'))] 52)).heap.size := Nat.le_trans gr1.size al.size
          have h63 : m + 1 ≤ maxLen := by unfold maxLen; omega
          have hsz : (m + 1) * 24 ≤ 140737488355328 := by omega
          have rd2 := hr.below al
          clear htk htk2
          go_wp2_with (at_builtin; refine wpList_append_cells rfl (.tmp 24) (.tmp 26) 24 rfl 52 (.agg #[.string ⟨#[]⟩, .int .i64 0]) 24 Try.underlying24 field_info rfl (by decide) rfl rfl ow2 d1 (flds_one [(tx l', numV (textL l'))]) h63 hsz big ?_; intro T8 c8 w8 o8 g8 _)
          go_roundw
          case rel =>
            have low := fun r e => row_low ow2 (r := r) e
            refine ⟨m + 1, T8, m + 1, c8, ts ++ [(tx l', numV (textL l'))], numL (textL l'), by omega, by go_num, rfl, Go.Lib.hid ⟨HGO.out, by rw [List.length_append, HLEN.out]; rfl⟩, Go.Lib.hid (by omega), ?_, rdr_apart rd2 g8 (fun r e => by have := low r e; omega), gr_step (gr_step gr1 (row := none) ⟨al.os, al.tape, al.output, al.size, fun k hk _ => al.block k hk⟩ (fun r e => by cases e)) g8 (fun r e => low r e), HSZ2⟩
            rw [HTK2.out, flds_append]
            exact o8
          case measure => simp [intOf]; omega
        · obtain rfl : m = 5 := by have := HM.out; omega
          have i1 : ¬ (5 : Int) ≤ 4 := by omega
          have htk : (ts ++ [(tx l', numV (textL l'))]).take 5 = ts.take 5 := List.take_append_of_le_length (by rw [HLEN.out]; omega)
          have HTK := Go.Lib.hid htk
          clear htk
          go_wp2_with fail
          go_roundw
          case rel =>
            refine ⟨j + 1, A, 5, cap, ts ++ [(tx l', numV (textL l'))], numL (textL l'), by omega, by go_num, rfl, Go.Lib.hid ⟨HGO.out, by rw [List.length_append, HLEN.out]; rfl⟩, Go.Lib.hid (by omega), ?_, hr, gr1, HSZ2⟩
            rw [HTK.out]
            exact ow1
          case measure => simp [intOf]; omega
    · have hst : takeFlds K l0 b0 = (ts, l', b0) := by
        have hKj : K - j = 0 := by have := HK.out; omega
        rw [HQ.out.1, hKj, takeFlds_stop (.inl rfl)]
        simp
      have HST := Go.Lib.hid hst
      have hsz : ∀ x ∈ ts.take 5, x.1.size ≤ maxLen ∧ -9223372036854775808 ≤ x.2 ∧ x.2 ≤ 9223372036854775807 := fun x hx => HSZ.out x (List.mem_of_mem_take hx)
      have HZ := Go.Lib.hid hsz
      clear hst hsz HQ
      by_cases hn0 : 0 ≤ n
      · go_wp2_with fail
        refine (bad_any g _ _ wr rd).mono ?_
        rintro e w' ⟨rfl, rfl⟩
        go_wp2_with fail
        go_ret2
        exact ⟨gr, ts, l', b0, A, m, cap, ts.take 5, _, HST, Go.Lib.hid (by rw [decide_eq_true (by omega)]; rfl), rfl, rd, ow, Go.Lib.hid (fun _ => rfl), HZ⟩
      · go_wp2_with fail
        go_ret2
        exact ⟨gr, ts, l', b0, A, m, cap, ts.take 5, _, HST, Go.Lib.hid (by rw [decide_eq_false (by omega)]; rfl), rfl, rd, ow, Go.Lib.hid (fun _ => rfl), HZ⟩

end Go.Proofs.Ytjglpmakjampjaa.EdWalk
