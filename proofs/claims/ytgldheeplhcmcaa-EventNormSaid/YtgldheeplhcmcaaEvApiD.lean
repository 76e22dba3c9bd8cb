/-
  Contracts of layer 4: the numbers in the order of their names.
-/
import Derived.Test.YtgldheeplhcmcaaEvApiC
import Derived.Shelf.SlSortCmp.NoneTotal
namespace Go.Proofs.Ytgldheeplhcmcaa.EvWalk
open Go.RowKit Go.Maps Go.Sort Go.Proofs.Ytgldheeplhcmcaa.MemRow Go.Proofs.Ytgldheeplhcmcaa.Ev Go.Proofs.Ytgldheeplhcmcaa.NameMath Go.Proofs.Ytgldheeplhcmcaa.NameWalk

set_option maxHeartbeats 2000000 in
theorem cmpFields_any (x y : ByteArray × Int) (W : World) :
    Calls Try.prog 39 #[.agg #[.string x.1, .int .i64 x.2], .agg #[.string y.1, .int .i64 y.2]] W fun e w' => e = .returned (.int .i64 (cmpF x y)) ∧ ∃ q os', w' = grow (W.drewN q) os' := by
  have c := Go.Lib.hid (fun W' => Try.strings_Compare x.1 y.1 W')
  unfold cmpF
  generalize Lib.compareBytes x.1.data.toList y.1.data.toList = r at c ⊢
  go_enter Try.func39, Try.ntmps39
  go_wp2_with (refine (c.out _).mono ?_; rintro e w' ⟨rfl, rfl⟩)
  go_ret
  exact ⟨rfl, 0, _, by rw [alloc_eq_grow, alloc_eq_grow, grow_grow]; rfl⟩

theorem sortF_any (g cap : Nat) (us : List (ByteArray × Int)) (w : World) (hH : HoldsK fld 2 w g 0 us.toArray) (hg : g < w.heap.size) (hl : us.length < 4611686018427387904) :
    Calls Try.prog 38 #[.slice (some ⟨g, 0, none⟩) us.length cap, .func (.func 39) #[] #[]] w fun e w' =>
      e = .returned (.tuple #[]) ∧ ∃ d n os, PermIn 0 us.toArray.size us.toArray d ∧ SortedIn (ltOf cmpF) 0 us.toArray.size d ∧ w' = sortWorldK fld 2 w g 0 n d os :=
  AnyQ.slices_SortFunc Try.sortF 2 Try.isAgg38 Try.sizeOf38 fld (fun _ => rfl) (fun x v hv => by simp [fld] at hv; rcases hv with rfl | rfl <;> rfl) cmpF swoF 39 #[] g 0 cap us.toArray w
    (enters_of Try.func39 (by kernel_rfl) rfl) (fun _ _ _ _ x y => cmpFields_any x y _) hH hg (by simpa using hl)

set_option maxHeartbeats 8000000 in
set_option maxRecDepth 100000 in
theorem evFields_any (A : Option Addr) (n ca : Nat) (fs : List (ByteArray × Int)) (w : World) (ha : RdF w A n ca fs) (hz : ∀ x ∈ fs, x.1.size ≤ maxLen) (hw : ∀ x ∈ fs, -9223372036854775808 ≤ x.2 ∧ x.2 ≤ 9223372036854775807) (hn : n ≤ 1000) :
    Calls Try.prog 23 #[.slice A n ca] w fun e w' => ∃ F k cF, e = .returned (.slice F k cF) ∧ OwnC 2 w' (w.heap.size + 1) 38 F k cF (flds (normFs fs)) ∧ Below w.heap.size w w' := by
  have la := ha.len
  have LA := Go.Lib.hid la
  have HZ := Go.Lib.hid hz
  have HW := Go.Lib.hid hw
  have hmm := run_makeHint (P := Try.prog) (t := 53) Try.underlying53
  clear la hz hw
  go_enter Try.func23, Try.ntmps23
  go_wp2_with fail
  go_loopw [5, 14] (fun _ i wr => ∃ j : Nat, j ≤ n ∧ i = .int .i64 j ∧ wr.ownsMap Try.prog 9 (plainElem (H := Unit) Try.prog 3) w.heap.size j (numD (fs.take j)) ∧ Below w.heap.size w wr ∧ w.heap.size + 1 ≤ wr.heap.size) (fun _ i _ => n - (intOf i).toNat)
  case atStart => exact ⟨0, Nat.zero_le _, rfl, World.ownsMap_made _ _ _ _, (Below.refl _ _).alloc (Nat.le_refl _) _, by simp⟩
  case round =>
    obtain ⟨j, hj, rfl, hown, hnx, hws⟩ := hrel
    by_cases hlt : j < n
    · obtain ⟨ba, oa, rfl, _, ka⟩ := RdF.at_ (RdC.below ha hnx) (by omega)
      obtain ⟨ka1, ka2⟩ := ka j hlt
      have i1 : (j : Int) < n := by omega
      have hjl : j < fs.length := by rw [LA.out]; exact hlt
      have ta := fs_take fs j hjl
      have sz := HZ.out _ (fs_mem fs j hjl)
      have wz := HW.out _ (fs_mem fs j hjl)
      have TA := Go.Lib.hid ta
      clear ka ta hjl
      generalize fs.getD j (ByteArray.empty, 0) = y at *
      obtain ⟨y, z⟩ := y
      simp only at ka1 ka2 sz wz
      have hkey : keyOf Try.prog 9 (.string y) = some (.string y.data.toList) := Go.WideMaps.keyOf_string_mk Try.underlying9 sz
      have hval : plainElem (H := Unit) Try.prog 3 (.int .i64 z) = some (.lit (.int .i64 z), []) := plainElem_int Try.underlying3 (WalkArith.wf_i64 wz)
      clear sz wz
      have hown2 := hown.alloc (.cells #[.string y, .int .i64 z] 38)
      have hnx2 := hnx.alloc hnx.size (.cells #[.string y, .int .i64 z] 38)
      have s2 : w.heap.size + 1 ≤ (wr.alloc (.cells #[.string y, .int .i64 z] 38)).heap.size := by simp; omega
      go_wp2_with (at_mapUpdate; refine wpList_mapUpdate_own _ rfl _ _ _ 53 rfl 9 3 lawS Try.underlying53 (plainElem (H := Unit) Try.prog 3) w.heap.size j _ rfl hown2 (by unfold maxLen; omega) _ _ _ rfl rfl hkey _ [] hval ?_; intro w1 hown1 hgrow1)
      go_roundw
      case rel => exact ⟨j + 1, by omega, by go_num, by rw [TA.out, numD_snoc]; exact hown1, hnx2.grown hgrow1 hnx2.size (fun j hj => by cases hj; exact Nat.le_refl _), Nat.le_trans s2 hgrow1.size⟩
      case measure => simp [intOf]; omega
    · obtain rfl : n = j := by omega
      rw [List.take_of_length_le (by rw [LA.out]; exact Nat.le_refl _)] at hown
      have hDh := fun x => numD_has fs x
      have hDa := fun x z => numD_at fs x z
      have HD := Go.Lib.hid hDh
      have HA := Go.Lib.hid hDa
      have hDs := hown.size_le
      clear hDh hDa
      generalize numD fs = D at *
      go_wp2_with (at_range; refine wpList_range_own _ rfl _ 53 rfl 9 3 lawS Try.underlying53 _ w.heap.size n _ rfl hown ?_; intro w0 hrg0 hg0 hs0)
      have s0 := hg0.size
      have hL := hown.lt
      go_frame
      obtain ⟨wo, rfl⟩ : ∃ wo : World, wo = wr := ⟨_, rfl⟩
      go_loopw [6, 7, 8] (fun v _ _ wq => ∃ (left : Lit → Bool) (cnt : Nat) (us : List (ByteArray × Int)) (F : Option Addr) (cF : Nat), v = .slice F us.length cF ∧ wq.ranges Try.prog 9 (plainElem (H := Unit) Try.prog 3) w.heap.size wo.heap.size n D left cnt ∧ us.length + cnt ≤ Maps.size D ∧
          OwnC 2 wq (w.heap.size + 1) 38 F us.length cF (flds us) ∧ Collected D left (us.map fun f => f.1.data.toList) ∧ (∀ f ∈ us, f.2 = (lastF fs f.1).2) ∧ Below w.heap.size w wq ∧ w.heap.size + 1 ≤ wq.heap.size)
        (fun _ _ _ wq => wq.rangeLeft w.heap.size wo.heap.size)
      case atStart =>
        exact ⟨_, _, [], none, 0, rfl, hrg0, by simp, OwnC.nil _ _, Collected.start D, by simp, hnx.grown hg0 hnx.size (fun j hj => by cases hj), by omega⟩
      case round =>
        obtain ⟨left, cnt, us, F, cF, rfl, hrg, hcs, hrow, hC, hv2, hnx2, hws2⟩ := hrel
        have HV := Go.Lib.hid hv2
        clear hv2
        go_wp2_with (at_next; refine wpList_next_ranges _ rfl _ rfl 9 lawS (plainElem (H := Unit) Try.prog 3) encStr (Value.int .i64) (fun key kl hk => by obtain ⟨x, hx, _⟩ := Maps.keyOf_str Try.underlying9 hk; exact ⟨x, hx⟩) (fun v y hv => by obtain ⟨c, rfl, _⟩ := plainElem_int_inv Try.underlying3 hv; exact ⟨c, rfl⟩) w.heap.size wo.heap.size n _ _ _ rfl hrg ?_ ?_)
        · intro hc0 hl0
          have hm : ∀ x, x ∈ us.map (fun f => f.1.data.toList) ↔ ofB x ∈ fs.map (·.1) := fun x => by rw [hC.2 x, hl0, ← HD.out x]; simp
          have HM := Go.Lib.hid hm
          have HC := Go.Lib.hid hC.1
          clear hm hC
          rcases hrow.2 with ⟨hv, hn0⟩ | ⟨g, cap, cur, hv, hbase, hb, h1, h2, h3, h4⟩
          · injection hv with e1 e2 e3
            subst e1 e3
            obtain rfl : us = [] := List.length_eq_zero_iff.1 hn0
            have c0 : Calls Try.prog 38 #[.slice none 0 0, .func (.func 39) #[] #[]] wr fun e w' => e = .returned (.tuple #[]) ∧ w' = wr := AnyF.slices_SortFunc_none Try.sortF none 0 _ wr
            have c := Go.Lib.hid c0
            have hts : normFs fs = [] := by
              have h := fields_sorted (us := []) (fs := fs) (d := #[]) HC.out HM.out HV.out ⟨rfl, fun _ _ => rfl, List.Perm.refl _⟩ (fun i j _ _ hj => absurd hj (by simp))
              exact h.symm
            have HT := Go.Lib.hid hts
            clear hrow c0 hts hrg
            go_wp2_with (refine (c.out).mono ?_; rintro e w' ⟨rfl, rfl⟩)
            go_ret
            refine ⟨none, 0, 0, rfl, ?_, hnx2⟩
            rw [HT.out]
            exact OwnC.nil _ _
          · injection hv with e1 e2 e3
            subst e1 e3
            have hgl : g < wr.heap.size := (Array.getElem?_eq_some_iff.1 hb).1
            have hH : HoldsK fld 2 wr g 0 us.toArray := holdsK_of_block hb h4
            have c := Go.Lib.hid (sortF_any g cF us wr hH hgl (by omega))
            have P := fun nn os d (hd : d.size = us.length) => ownsRow_sortK (n := nn) (os := os) (d := d) hd hbase hb h1 h2 h3
            have Q := Go.Lib.hid P
            clear P hH h4 hrow hrg
            go_wp2_with (refine (c.out).mono ?_; rintro e w' ⟨rfl, d, nn, os, hp, hs, rfl⟩)
            go_ret
            refine ⟨_, us.length, cF, rfl, ?_, hnx2.grown (grownBy_sortK _) hnx2.size (fun j hj => by cases hj; omega)⟩
            rw [← fields_sorted HC.out HM.out HV.out hp hs]
            exact Q.out nn os d (by simpa using hp.1)
        · intro x c kl yd yp w2 cnt2 hkey hlk hv hat hrg2 hlt2 hg2 hs2 hen
          obtain ⟨x', ex, rfl, hxs⟩ := Maps.keyOf_str Try.underlying9 hkey
          obtain rfl : x = x' := encStr_inj ex
          have hcx : c = (lastF fs (ofB x)).2 := by
            obtain ⟨c', ec, hy, _⟩ := plainElem_int_inv Try.underlying3 hv
            have h1 := HA.out x (.agg []) ((HD.out x).1 (has_true_of_atKey hat))
            rw [hat] at h1
            injection hy with hy1 hy2
            injection ec with _ ec
            rw [hy1] at h1
            injection h1 with h1
            injection h1 with _ h1
            rw [ec, h1]
          have HCX := Go.Lib.hid hcx
          have hne : ∀ a, F = some a → some a.block ≠ some wo.heap.size := fun a hA e => by
            have := row_ne_iter hrow hrg
            rw [hA] at this
            exact this (by simpa [Value.ownBlock] using e.symm)
          have hrow2 := OwnC.grown hrow hg2 hne
          have hws3 := hg2.size
          have al : Below w2.heap.size w2 (w2.alloc (.cells #[.string ⟨x.toArray⟩, .int .i64 c] 38)) := (Below.refl _ _).alloc (Nat.le_refl _) _
          have hrow3 := OwnC.below hrow2 al
          have hrg3 := hrg2.alloc (.cells #[.string ⟨x.toArray⟩, .int .i64 c] 38)
          have d5 : RdC 2 (w2.alloc (.cells #[.string ⟨x.toArray⟩, .int .i64 c] 38)) (some ⟨w2.heap.size, 0, none⟩) 1 1 (flds [(ofB x, c)]) := RdC.new w2 38 (flds [(ofB x, c)]) rfl (by decide)
          have hnx3 := hnx2.grown hg2 hnx2.size (fun j hj => by cases hj; exact hnx.size)
          have hsa : w.heap.size + 1 ≤ (w2.alloc (.cells #[.string ⟨x.toArray⟩, .int .i64 c] 38)).heap.size := by simp; omega
          have hnx4 := hnx3.alloc hnx3.size (.cells #[.string ⟨x.toArray⟩, .int .i64 c] 38)
          have hlow := OwnC.lt hrow3
          have hCn := hC.step hlk hat
          have hleft := hrg.left_eq
          clear hs2 hrow hrow2 hrg al hnx2 hnx3 hg2 hC hkey hlk hat hrg2 hv hcx
          go_wp2_with (at_builtin; refine wpList_append_cells rfl (.tmp 31) (.tmp 35) 23 rfl 38 (.agg #[.string ⟨#[]⟩, .int .i64 0]) 24 Try.underlying23 field_info rfl (by decide) rfl rfl hrow3 d5 (flds_one _) (by unfold maxLen; omega) (by omega) hsa ?_; intro F' cF' w3 hrow4 hg3 hloc)
          have hg4 := hrg3.kept hg3 (fun e => by
            cases hF : F with
            | none => rw [hF] at e; cases e
            | some a => rw [hF] at e; have := (hlow a hF).1; simp only [Option.map_some, Option.some.injEq] at e; omega) (fun e => by
            cases hF : F with
            | none => rw [hF] at e; cases e
            | some a => rw [hF] at e; exact hne a hF e.symm)
          have hnx5 := hnx4.grown hg3 hnx4.size (fun j hj => by
            cases hF : F with
            | none => rw [hF] at hj; cases hj
            | some a => rw [hF] at hj; have := (hlow a hF).1; simp only [Option.map_some, Option.some.injEq] at hj; omega)
          go_roundw
          case rel =>
            refine ⟨_, cnt2, us ++ [(ofB x, c)], F', cF', by simp, hg4, by simp; omega, by simpa [flds_append] using hrow4, by simpa [toB_ofB] using hCn, ?_, hnx5, Nat.le_trans hsa hg3.size⟩
            intro f hf
            rcases List.mem_append.1 hf with hf | hf
            · exact HV.out f hf
            · obtain rfl := List.mem_singleton.1 hf
              exact HCX.out
          case measure => rw [hg4.left_eq, hleft]; exact hlt2

end Go.Proofs.Ytgldheeplhcmcaa.EvWalk
