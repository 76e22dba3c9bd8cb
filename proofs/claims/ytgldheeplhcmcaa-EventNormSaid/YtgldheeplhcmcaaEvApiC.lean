/-
  Contracts of layer 4: the tags in order.
-/
import Derived.Test.YtgldheeplhcmcaaEvSortM
import Derived.Shelf.Slices.In.SortNone
namespace Go.Proofs.Ytgldheeplhcmcaa.EvWalk
open Go.RowKit Go.Maps Go.Sort Go.Proofs.Ytgldheeplhcmcaa.MemRow Go.Proofs.Ytgldheeplhcmcaa.Ev Go.Proofs.Ytgldheeplhcmcaa.NameMath Go.Proofs.Ytgldheeplhcmcaa.NameWalk

theorem lawS : Keyed Try.prog 9 := string_keyed Try.underlying9
theorem run_makeHint {P : Program} {t k e : TypeId} (hu : P.underlying t = some (.map k e)) (q : IntKind) (n : Int) (w : World) : (Instr.makeMap t (some (.int q n))).run P w = .ok (.map (some w.heap.size)) (w.alloc (.map #[] 0)) := by
  simp [Instr.makeMap, run_underlying hu, asInt, asIntOf, Result.andThen]

set_option maxHeartbeats 8000000 in
set_option maxRecDepth 100000 in
theorem evTags_any (A : Option Addr) (n ca : Nat) (ss : List ByteArray) (w : World) (ha : RdS w A n ca ss) (hz : ∀ x ∈ ss, x.size ≤ maxLen) (hn : n ≤ 1000) :
    Calls Try.prog 22 #[.slice A n ca] w fun e w' => ∃ F k cF, e = .returned (.slice F k cF) ∧ OwnC 1 w' (w.heap.size + 1) 9 F k cF (strs (normTags ss)) ∧ Below w.heap.size w w' := by
  have la := ha.len
  have LA := Go.Lib.hid la
  have HZ := Go.Lib.hid hz
  have hmm := run_makeHint (P := Try.prog) (t := 50) Try.underlying50
  clear la hz
  go_enter Try.func22, Try.ntmps22
  go_wp2_with fail
  go_loopw [5, 13] (fun _ i wr => ∃ j : Nat, j ≤ n ∧ i = .int .i64 j ∧ wr.ownsMap Try.prog 9 (unitElem (H := Unit)) w.heap.size j (setD (ss.take j)) ∧ Below w.heap.size w wr ∧ w.heap.size + 1 ≤ wr.heap.size) (fun _ i _ => n - (intOf i).toNat)
  case atStart => exact ⟨0, Nat.zero_le _, rfl, World.ownsMap_made _ _ _ _, (Below.refl _ _).alloc (Nat.le_refl _) _, by simp⟩
  case round =>
    obtain ⟨j, hj, rfl, hown, hnx, hws⟩ := hrel
    by_cases hlt : j < n
    · obtain ⟨ba, oa, rfl, _, ka⟩ := RdS.at_ (RdC.below ha hnx) (by omega)
      have ka1 := ka j hlt
      have i1 : (j : Int) < n := by omega
      have ta := take_get ss j (by rw [LA.out]; exact hlt)
      have sz := HZ.out _ (mem_getD ss j (by rw [LA.out]; exact hlt))
      have TA := Go.Lib.hid ta
      clear ka ta
      generalize ss.getD j ByteArray.empty = y at *
      have hkey : keyOf Try.prog 9 (.string y) = some (.string y.data.toList) := Go.WideMaps.keyOf_string_mk Try.underlying9 sz
      clear sz
      go_wp2_with (at_mapUpdate; refine wpList_mapUpdate_own _ rfl _ _ _ 50 rfl 9 51 lawS Try.underlying50 (unitElem (H := Unit)) w.heap.size j _ rfl hown (by unfold maxLen; omega) _ _ _ rfl rfl hkey _ [] unitElem_mk ?_; intro w1 hown1 hgrow1)
      have s1 := hgrow1.size
      go_roundw
      case rel => exact ⟨j + 1, by omega, by go_num, by rw [TA.out, setD_snoc]; exact hown1, hnx.grown hgrow1 hnx.size (fun j hj => by cases hj; exact Nat.le_refl _), by omega⟩
      case measure => simp [intOf]; omega
    · obtain rfl : n = j := by omega
      rw [List.take_of_length_le (by rw [LA.out]; exact Nat.le_refl _)] at hown
      have hDh := fun x => setD_has ss x
      have HD := Go.Lib.hid hDh
      have hDs := hown.size_le
      clear hDh
      generalize setD ss = D at *
      go_wp2_with (at_range; refine wpList_range_own _ rfl _ 50 rfl 9 51 lawS Try.underlying50 _ w.heap.size n _ rfl hown ?_; intro w0 hrg0 hg0 hs0)
      have s0 := hg0.size
      have hL := hown.lt
      go_frame
      obtain ⟨wo, rfl⟩ : ∃ wo : World, wo = wr := ⟨_, rfl⟩
      go_loopw [6, 7] (fun v _ wq => ∃ (left : Lit → Bool) (cnt : Nat) (us : List (List UInt8)) (F : Option Addr) (cF : Nat), v = .slice F us.length cF ∧ wq.ranges Try.prog 9 (unitElem (H := Unit)) w.heap.size wo.heap.size n D left cnt ∧ us.length + cnt ≤ Maps.size D ∧
          OwnC 1 wq (w.heap.size + 1) 9 F us.length cF (strs (us.map ofB)) ∧ Collected D left us ∧ Below w.heap.size w wq ∧ w.heap.size + 1 ≤ wq.heap.size)
        (fun _ _ wq => wq.rangeLeft w.heap.size wo.heap.size)
      case atStart =>
        exact ⟨_, _, [], none, 0, rfl, hrg0, by simp, OwnC.nil _ _, Collected.start D, hnx.grown hg0 hnx.size (fun j hj => by cases hj), by omega⟩
      case round =>
        obtain ⟨left, cnt, us, F, cF, rfl, hrg, hcs, hrow, hC, hnx2, hws2⟩ := hrel
        go_wp2_with (at_next; refine wpList_next_ranges _ rfl _ rfl 9 lawS (unitElem (H := Unit)) encStr (fun _ : Unit => Value.agg #[]) (fun key kl hk => by obtain ⟨x, hx, _⟩ := Maps.keyOf_str Try.underlying9 hk; exact ⟨x, hx⟩) (fun v y hv => ⟨(), (unitElem_inv hv).1⟩) w.heap.size wo.heap.size n _ _ _ rfl hrg ?_ ?_)
        · intro hc0 hl0
          have hm : ∀ x, x ∈ us ↔ ofB x ∈ ss := fun x => by rw [hC.2 x, hl0, ← HD.out x]; simp
          have hts := tags_sorted hC.1 hm
          have HT := Go.Lib.hid hts
          clear hm hts hC
          rcases hrow.2 with ⟨hv, hn0⟩ | ⟨g, cap, cur, hv, hbase, hb, h1, h2, h3, h4⟩
          · injection hv with e1 e2 e3
            subst e1 e3
            obtain rfl : us = [] := List.length_eq_zero_iff.1 hn0
            have c := Go.Lib.hid (Any.slices_Sort_string_none Try.lays190 none 0 wr)
            have hr := hrow.below (Below.refl _ _)
            clear hrow
            go_wp2_with (refine (c.out).mono ?_; rintro e w' ⟨rfl, rfl⟩)
            go_ret
            refine ⟨none, 0, 0, rfl, ?_, hnx2⟩
            rw [← HT.out, show (([] : List (List UInt8)).mergeSort leB).map ofB = [] by simp]
            exact OwnC.nil _ _
          · injection hv with e1 e2 e3
            subst e1 e3
            have hgl : g < wr.heap.size := (Array.getElem?_eq_some_iff.1 hb).1
            have hH : Holds encStr wr g 0 us.toArray := holds_of_block hb (by rw [strs_ofB] at h4; simpa using h4)
            have c := Go.Lib.hid (Try.slices_Sort_string g 0 cF us wr hH hgl (by omega))
            have P := fun n os => ownsRow_sorted (n := n) (os := os) (ss := us) (ts := us.mergeSort leB) (by simp) hbase hb h1 h2 h3
            have Q := Go.Lib.hid P
            clear P hH h4 hrow hrg
            go_wp2_with (refine (c.out).mono ?_; rintro e w' ⟨rfl, nn, os, rfl⟩)
            go_ret
            refine ⟨_, us.length, cF, rfl, ?_, hnx2.grown (grownBy_sorted _) hnx2.size (fun j hj => by cases hj; omega)⟩
            rw [← HT.out, strs_ofB]
            exact Q.out nn os
        · intro x kl yd yp w2 cnt2 hkey hlk hv hat hrg2 hlt2 hg2 hs2 hen
          obtain ⟨x', ex, rfl, hxs⟩ := Maps.keyOf_str Try.underlying9 hkey
          obtain rfl : x = x' := encStr_inj ex
          have hne : ∀ a, F = some a → some a.block ≠ some wo.heap.size := fun a hA e => by
            have := row_ne_iter hrow hrg
            rw [hA] at this
            exact this (by simpa [Value.ownBlock] using e.symm)
          have hrow2 := OwnC.grown hrow hg2 hne
          have hne2 : ∀ a, F = some a → some a.block ≠ some wo.heap.size := hne
          have hws3 := hg2.size
          have al : Below w2.heap.size w2 (w2.alloc (.cells #[.string ⟨x.toArray⟩] 9)) := (Below.refl _ _).alloc (Nat.le_refl _) _
          have hrow3 := OwnC.below hrow2 al
          have hrg3 := hrg2.alloc (.cells #[.string ⟨x.toArray⟩] 9)
          have d5 : RdC 1 (w2.alloc (.cells #[.string ⟨x.toArray⟩] 9)) (some ⟨w2.heap.size, 0, none⟩) 1 1 (strs [ofB x]) := RdC.new w2 9 (strs [ofB x]) rfl (by decide)
          have hnx3 := hnx2.grown hg2 hnx2.size (fun j hj => by cases hj; exact hnx.size)
          have hsa : w.heap.size + 1 ≤ (w2.alloc (.cells #[.string ⟨x.toArray⟩] 9)).heap.size := by simp; omega
          have hnx4 := hnx3.alloc hnx3.size (.cells #[.string ⟨x.toArray⟩] 9)
          have hlow := OwnC.lt hrow3
          have hCn := hC.step hlk hat
          have hleft := hrg.left_eq
          clear hs2 hrow hrow2 hrg al hnx2 hnx3 hg2 hC hkey hlk hat hrg2 hv
          go_wp2_with (at_builtin; refine wpList_append_cells rfl (.tmp 27) (.tmp 29) 22 rfl 9 (.string ByteArray.empty) 16 Try.underlying22 string_info rfl (by decide) rfl rfl hrow3 d5 (strs_one _) (by unfold maxLen; omega) (by omega) hsa ?_; intro F' cF' w3 hrow4 hg3 hloc)
          have hg4 := hrg3.kept hg3 (fun e => by
            cases hF : F with
            | none => rw [hF] at e; cases e
            | some a => rw [hF] at e; have := (hlow a hF).1; simp only [Option.map_some, Option.some.injEq] at e; omega) (fun e => by
            cases hF : F with
            | none => rw [hF] at e; cases e
            | some a => rw [hF] at e; exact hne a hF e.symm)
          have hnx5 := hnx4.grown hg3 hnx4.size (fun j hj => by
            cases hF : F with
            | none => rw [hF] at hj; cases hj
            | some a => rw [hF] at hj; have := (hlow a hF).1; simp only [Option.map_some, Option.some.injEq] at hj; omega)
          go_roundw
          case rel => exact ⟨_, cnt2, us ++ [x], F', cF', by simp, hg4, by simp; omega, by simpa [strs_append, List.map_append] using hrow4, hCn, hnx5, Nat.le_trans hsa hg3.size⟩
          case measure => rw [hg4.left_eq, hleft]; exact hlt2

end Go.Proofs.Ytgldheeplhcmcaa.EvWalk
