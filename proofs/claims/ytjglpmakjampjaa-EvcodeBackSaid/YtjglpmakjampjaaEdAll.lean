/-
  Contract of layer 5: All.
-/
import Derived.Test.YtjglpmakjampjaaEdRows
import Derived.Test.YtjglpmakjampjaaEdTake
namespace Go.Proofs.Ytjglpmakjampjaa.EdWalk
open Go.RowKit Go.Proofs.Ytjglpmakjampjaa.MemRow Go.Proofs.Ytjglpmakjampjaa.Ev Go.Proofs.Ytjglpmakjampjaa.NameMath Go.Proofs.Ytjglpmakjampjaa.NameWalk Go.Proofs.Ytjglpmakjampjaa.EvWalk Go.Proofs.Ytjglpmakjampjaa.NumMath Go.Proofs.Ytjglpmakjampjaa.NumMem Go.Proofs.Ytjglpmakjampjaa.NumWalk Go.Proofs.Ytjglpmakjampjaa.EcWalk

set_option maxHeartbeats 4000000 in
set_option maxRecDepth 100000 in
theorem all5_any (A0 : Option Addr) (n0 cap0 : Nat) (l : List UInt8) (w : World) (h : Rd w A0 n0 cap0 l) (hl : l.length ≤ 100000000) :
    Calls Try.prog 16 #[.slice A0 n0 cap0] w fun e w' => AllOut l w e w' := by
  have HL := Go.Lib.hid h.len
  have hn0 : n0 ≤ 100000000 := by rw [← HL.out]; exact hl
  go_enter Try.func16, Try.ntmps16
  go_wp2_with fail
  refine (newReader_any A0 n0 cap0 l w h (by omega)).mono ?_
  rintro e w1 ⟨g, rfl, hg, r1, b1⟩
  clear h
  go_wp2_with fail
  go_loopw [4, 6, 7] (fun lv _ _ wr => ∃ (A : Option Addr) (m cap : Nat) (es : List Ev) (l' : List UInt8), lv = .slice A m cap ∧ Hid (allF l = (allF l').map (es ++ ·)) ∧ m + l'.length ≤ l.length ∧ OwnE wr (g + 1) A m cap es ∧ Rdr wr 60 g l' false ∧ Below w.heap.size w wr) (fun lv _ _ _ => l.length - sliceLen lv)
  case atStart => exact ⟨none, 0, 0, [], l, rfl, Go.Lib.hid (by simp), by omega, OwnE.nil _ _, r1, b1⟩
  case round =>
    obtain ⟨A, m, cap, es, l', rfl, HQ, hm, oe, rd, be⟩ := hrel
    clear r1 b1
    go_wp2_with fail
    refine (left_any g l' false wr rd).mono ?_
    rintro e w' ⟨rfl, rfl⟩
    by_cases hl' : l' = []
    · subst hl'
      have hall : allF l = some es := by
        rw [HQ.out, allF_nil]
        simp
      have HALL := Go.Lib.hid hall
      clear hall HQ
      go_wp2_with fail
      go_ret2
      exact ⟨be, .inl ⟨es, A, m, cap, HALL.out, rfl, oe.lower (by omega)⟩⟩
    · have hpos : 0 < l'.length := List.length_pos_iff.2 hl'
      have HNE := Go.Lib.hid hl'
      clear hl'
      generalize hk : l'.length = k at *
      have HK := Go.Lib.hid hk
      clear hk
      go_wp2_with fail
      refine (take5_any g l' wr rd).mono ?_
      rintro e w2 ⟨gg, hT⟩
      have be2 := be.grown gg be.size (by rintro q ⟨rfl⟩; exact hg)
      have oe2 := oe.off gg (Nat.lt_succ_self g)
      have gwr := rd.lt
      rcases hT with ⟨ev, l'', htk, v, rfl, hv, hok, r2⟩ | ⟨htk, hno, l'', b'', r2⟩
      · obtain ⟨T, nT, cT, F, nF, cF, rfl, o1, o2⟩ := hv
        have hlt := takeE_lt htk
        rw [HK.out] at hlt
        have hall : allF l = (allF l'').map ((es ++ [ev]) ++ ·) := by
          rw [HQ.out, allF_some HNE.out htk]
          simp [Option.map_map, Function.comp_def]
        have HALL := Go.Lib.hid hall
        clear hall HQ htk oe rd gg HNE
        have al : Below w2.heap.size w2 (w2.alloc (.cells #[.string ev.s, .string ev.t, .slice T nT cT, .slice F nF cF] 26)) := (Below.refl _ _).alloc (Nat.le_refl _) _
        have e3 := EvAt.new w2 (.string ev.s) (.string ev.t) (.slice T nT cT) (.slice F nF cF)
        have oe3 := oe2.below al
        have r3 := r2.below al
        have o1' := own_lower (OwnC.below o1 al) (base' := g + 1) gwr
        have o2' := own_lower (OwnC.below o2 al) (base' := g + 1) gwr
        have be3 := below_chain be2 al
        go_upto_region 5 with (fail)
        generalize w2.alloc (.cells #[.string ev.s, .string ev.t, .slice T nT cT, .slice F nF cF] 26) = w3 at *
        clear be2 oe2 r2 o1 o2 al be
        have k0 := e3.c0
        have k1 := e3.c1
        have k2 := e3.c2
        have k3 := e3.c3
        have al4 : Below w3.heap.size w3 (w3.alloc (.cells #[.string ev.s, .string ev.t, .slice T nT cT, .slice F nF cF] 26)) := (Below.refl _ _).alloc (Nat.le_refl _) _
        have r4 := r3.below al4
        have be4 := below_chain be3 al4
        obtain ⟨cs, oc, hlen, hc⟩ := oe3.below al4
        have p1 := OwnC.below o1' al4
        have p2 := OwnC.below o2' al4
        have big : g + 1 ≤ (w3.alloc (.cells #[.string ev.s, .string ev.t, .slice T nT cT, .slice F nF cF] 26)).heap.size := r4.lt
        have d4 : RdC 4 (w3.alloc (.cells #[.string ev.s, .string ev.t, .slice T nT cT, .slice F nF cF] 26)) (some ⟨w3.heap.size, 0, none⟩) 1 1 [.string ev.s, .string ev.t, .slice T nT cT, .slice F nF cF] := RdC.new w3 26 [.string ev.s, .string ev.t, .slice T nT cT, .slice F nF cF] rfl (by decide)
        have one : ∀ v ∈ ([.string ev.s, .string ev.t, .slice T nT cT, .slice F nF cF] : List Value), v.oneCell' = true := by
          intro v hv
          simp only [List.mem_cons, List.not_mem_nil, or_false] at hv
          rcases hv with rfl | rfl | rfl | rfl <;> rfl
        have h63 : m + 1 ≤ maxLen := by unfold maxLen; omega
        have hsz : (m + 1) * 80 ≤ 140737488355328 := by omega
        clear oe3 r3 be3 o1' o2'
        go_wp2_with (at_builtin; refine wpList_append_cells rfl (.tmp 21) (.tmp 23) 41 rfl 26 (.agg #[.string ⟨#[]⟩, .string ⟨#[]⟩, .slice none 0 0, .slice none 0 0]) 80 Try.underlying41 event_info rfl (by decide) rfl rfl oc d4 one h63 hsz big ?_; intro A8 c8 w8 o8 g8 _)
        go_roundw
        case rel =>
          have low := fun r e => row_low oc (r := r) e
          exact ⟨A8, m + 1, c8, es ++ [ev], l'', rfl, HALL, by omega, OwnE.more oc hlen hc p1 p2 o8 g8, rdr_apart r4 g8 (fun r e => by have := low r e; omega), be4.grown g8 be4.size (fun r e => by have := low r e; omega)⟩
        case measure => simp [sliceLen]; omega
      · obtain rfl := hno
        have hall : allF l = none := by
          rw [HQ.out, allF_none HNE.out htk]
          rfl
        have HALL := Go.Lib.hid hall
        clear hall HQ htk oe rd gg HNE
        go_wp2_with fail
        go_ret2
        exact ⟨be2.alloc be2.size _, .inr ⟨HALL.out, rfl⟩⟩

end Go.Proofs.Ytjglpmakjampjaa.EdWalk
