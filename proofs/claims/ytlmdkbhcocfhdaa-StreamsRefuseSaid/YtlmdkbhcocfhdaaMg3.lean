/-
  Contracts of the landed streams: New, Add, Version, Positions.
-/
import Derived.Deep.RegionHeldLaw
import Derived.Maps.OwnOps
import Derived.WalkSpells
import Derived.Deep.QuietTactic
import Derived.BigQuiet
import Derived.Shelf.Sort.Plain
import Derived.Shelf.Slices.In.SortNone
import Derived.Shelf.SlIter.Nil
import Derived.Test.YtlmdkbhcocfhdaaProg
import Derived.Test.YtlmdkbhcocfhdaaMg2
namespace Go.Proofs.Ytlmdkbhcocfhdaa.SmWalk
open Go.RowKit Go.Maps Go.Proofs.Ytlmdkbhcocfhdaa.MemRow Go.Proofs.Ytlmdkbhcocfhdaa.Ev Go.Proofs.Ytlmdkbhcocfhdaa.NameMath Go.Proofs.Ytlmdkbhcocfhdaa.NameWalk Go.Proofs.Ytlmdkbhcocfhdaa.EvWalk Go.Proofs.Ytlmdkbhcocfhdaa.NumMem Go.Proofs.Ytlmdkbhcocfhdaa.NMap Go.Proofs.Ytlmdkbhcocfhdaa.DkWalk

set_option maxHeartbeats 4000000 in
set_option maxRecDepth 100000 in
theorem new12_any (w : World) : Calls Try.prog 10 #[] w fun e w' => ∃ g, e = .returned (.pointer (some ⟨g, 0, none⟩)) ∧ StL g [] w' (fun k => w.heap.size ≤ k ∧ k < w'.heap.size) ∧ Below w.heap.size w w' := by
  have hmm := fun W => run_makeMap (P := Try.prog) 46 W
  go_enter Try.func10, Try.ntmps10
  go_wp2
  go_ret
  have b1 : Below w.heap.size w (w.alloc (.map #[] 0)) := (Below.refl _ w).alloc (Nat.le_refl _) _
  have s1 : (w.alloc (.map #[] 0)).heap.size = w.heap.size + 1 := by simp
  have o1 := World.ownsMap_made w Try.prog 9 slR
  have b2 := b1.alloc b1.size (.cells #[.map (some w.heap.size), .int .i64 0] 48)
  have bx := heap_alloc_new (w.alloc (.map #[] 0)) (.cells #[.map (some w.heap.size), .int .i64 0] 48)
  have s2 : ((w.alloc (.map #[] 0)).alloc (.cells #[.map (some w.heap.size), .int .i64 0] 48)).heap.size = w.heap.size + 2 := by simp
  have o2 := o1.alloc (.cells #[.map (some w.heap.size), .int .i64 0] 48)
  rw [s1] at bx
  refine ⟨w.heap.size + 1, rfl, ⟨fun k => w.heap.size ≤ k ∧ k < w.heap.size + 2, w.heap.size, .map [], fun _ => ⟨0, 0, 0⟩, ⟨bx, o2, NOf.empty _, fun s hs => (by cases hs), fun s hs => (by cases hs), ⟨by omega, by omega⟩, ⟨by omega, by omega⟩, fun k hk => by rw [s2]; exact hk, fun k hk => hk.2⟩⟩, b2⟩

section
variable {w : World} {F G : Nat → Prop} {g mb : Nat} {T : Tb} {M : DataW Hr} {hd : ByteArray → Hr}
theorem lit_ints (w : World) {g : Nat} (hg : g = w.heap.size) (p : Int) : (w.alloc (.cells #[.int .i64 p] 3)).cell? ((⟨g, 0, none⟩ : Addr).add 0) = some (.int .i64 p) := by
  subst hg
  rw [add_plain, cell_of_row _ w.heap.size 0 _ _ _ (heap_alloc_new w (.cells #[.int .i64 p] 3))]
  rfl
set_option maxHeartbeats 4000000 in
set_option maxRecDepth 100000 in
theorem add12_any (h : TbR w F G g T mb M hd) (ok : TOk T) (hl : T.length < 200) {s : ByteArray} (hs : s.size ≤ maxLen) {p : Int} (hp : -9223372036854775808 ≤ p ∧ p ≤ 9223372036854775807) :
    Calls Try.prog 12 #[.pointer (some ⟨g, 0, none⟩), .string s, .int .i64 p] w fun e w' => e = .returned (.tuple #[.int .i64 (addF T s p).1, .int .i64 (addF T s p).2.1]) ∧
      ∃ F1 M1 hd1, TbR w' F1 (up G w w') g (addF T s p).2.2 mb M1 hd1 ∧ (∀ k, F1 k → up F w w' k) ∧ Ch F w w' ∧ Kin w w' F T hd (addF T s p).2.2 hd1 := by
  have k0 := h.c0
  have k1 := h.c1
  have z0 := h.frozen 0
  have z1 := h.frozen 1
  have hlast := last_pos ok.rise
  by_cases hc : p ≤ lastP T
  · rw [add_no s (.inr hc)]
    have H := Go.Lib.hid h
    clear h hlast
    go_enter Try.func12, Try.ntmps12
    go_wp2_with fail
    go_ret2
    exact ⟨rfl, F, M, hd, H.out.wide (fun _ hk => .inl hk) (fun k hk => up_lt H.out.lt (Nat.le_refl _) hk), fun _ hk => .inl hk, Ch.refl _ _, Kin.same (Below.refl _ _) _ _ _⟩
  · have hy := add_yes ok.rise s (p := p) (by omega) (by omega)
    have hall : (posF T s (lastP T)) = allP T s := by
      rw [posF_all, List.filter_eq_self.2]
      intro q hq
      unfold allP at hq
      obtain ⟨x, hx, rfl⟩ := List.mem_map.1 hq
      have := last_le ok.rise x (List.mem_filter.1 hx).1
      simpa using this
    rw [hall] at hy
    have hlen := allP_len T s
    obtain ⟨old, ho⟩ := oldOf_any T hd s
    have ql := h.look ho hs
    have al : Below w.heap.size w (w.alloc (.cells #[.int .i64 p] 3)) := (Below.refl _ _).alloc (Nat.le_refl _) _
    have h1 := h.below al
    have hold := h1.old ho
    have hlit := lit_ints w rfl p
    have qm : ∀ W, (binOp .eql 46 (.map (some mb)) (.map none)).run Try.prog W = .ok (.bool (some mb).isNone) W := fun W => run_eql_map_nil W _ _ _ _ Try.underlying46
    have hkey := keyN_of hs
    have hmx : Maps.size M < maxLen := by
      have := h.size
      have := namesT_len T
      unfold maxLen
      omega
    have HY := Go.Lib.hid hy
    have H := Go.Lib.hid h
    have H1 := Go.Lib.hid h1
    have HO := Go.Lib.hid ho
    have AL := Go.Lib.hid al
    clear hy h h1 ho hall al hlast
    go_enter Try.func12, Try.ntmps12
    go_upto_region 5 with (fail)
    go_upto_region 6 with (at_builtin; refine wpList_app1 (F := F) (G := G) rfl (.tmp 29) (.tmp 31) rfl rfl rfl rfl hold (by omega) p hlit ?_; intro h' w2 ap)
    have HB := H1.out.app_box HO.out ap
    have bx2 := HB.1.trans H1.out.box
    have own2 := H1.out.app_own HO.out ap
    have y0 : w2.cell? ⟨g, 0, none⟩ = some (.map (some mb)) := by rw [cell_of_row w2 g 0 _ _ _ bx2]; rfl
    have BX := Go.Lib.hid bx2
    have AP := Go.Lib.hid ap
    have HN := Go.Lib.hid ap.li.len
    clear HB bx2 ap hold hlit ql qm k0 k1 z0 z1
    go_upto_region 7 with (at_mapUpdate; refine wpList_mapUpdate_own _ rfl _ _ _ 46 rfl 9 38 keyedN Try.underlying46 slR mb (Maps.size M) M rfl own2 hmx _ _ _ rfl rfl hkey _ [] (slR_some h') ?_; intro w3 ho3 hg3)
    have bx3 := (hg3.block g (by have := AP.out.size; have := H1.out.glt; omega) (fun e => H1.out.ne (by injection e with e; exact e.symm))).trans BX.out
    have x1 : w3.cell? ⟨g, 1, none⟩ = some (.int .i64 (lastP T)) := by rw [cell_of_row w3 g 1 _ _ _ bx3]; rfl
    have zf : w3.frozen? ⟨g, 1, none⟩ = false := by simp [World.frozen?, bx3]
    obtain ⟨q1, q2, q3⟩ := H1.out.added HO.out AP.out hg3 ho3
    have Q1 := Go.Lib.hid q1
    have Q2 := Go.Lib.hid q2
    have Q3 := Go.Lib.hid q3
    clear q1 q2 q3 bx3 own2 y0 ho3 hg3
    obtain ⟨hb, hn, hcp⟩ := h'
    obtain rfl : hn = (allP T s).length + 1 := by
      have := HN.out
      rw [List.length_append] at this
      exact this.symm
    go_wp2_with fail
    go_ret2
    rw [HY.out]
    have hsz := AL.out.size
    have e1 := Q2.out.size
    refine ⟨by simp, _, _, _, Q1.out.wide (fun k hk => ?_) (fun k hk => ?_), fun k hk => ?_, (Ch.of_below AL.out).trans (Q2.out.wide fun k hk => .inl hk), Q3.out.from AL.out⟩
    · rcases hk with hk | ⟨hk, hk2⟩
      · exact .inl hk
      · exact .inr ⟨by omega, hk2⟩
    · exact up_lt H.out.lt (by omega) hk
    · rcases hk with hk | ⟨hk, hk2⟩
      · exact .inl hk
      · exact .inr ⟨by omega, hk2⟩

set_option maxHeartbeats 4000000 in
set_option maxRecDepth 100000 in
theorem ver12_any (h : TbR w F G g T mb M hd) (ok : TOk T) {s : ByteArray} (hs : s.size ≤ maxLen) (u : Int) :
    Calls Try.prog 20 #[.pointer (some ⟨g, 0, none⟩), .string s, .int .i64 u] w fun e w' => e = .returned (.int .i64 (verN (allP T s) u : Nat)) ∧ ∃ q, w' = w.drewN q := by
  have k0 := h.c0
  obtain ⟨old, ho⟩ := oldOf_any T hd s
  have ql := h.look ho hs
  obtain ⟨A, n, c, e, rd, _⟩ := mkL_rd h ho
  rw [e] at ql
  have hlen := allP_len T s
  have hl := ok.len
  have hn := rd.len
  have hp : (allP T s).Pairwise (· ≤ ·) := (allP_rise ok.rise s).imp fun h => by omega
  have hcp := List.countP_le_length (p := fun x : Int => decide (x < u)) (l := allP T s)
  generalize hL : allP T s = l at *
  have HV : Hid (verN l u = l.countP (· < u) + if u ∈ l then 1 else 0) := Go.Lib.hid rfl
  clear h ho e hL ok
  generalize verN l u = V at *
  go_enter Try.func20, Try.ntmps20
  go_wp2_with fail
  refine (search_any A n c l u w rd (by omega) hp).mono ?_
  rintro e w1 ⟨rfl, q, rfl⟩
  clear rd hp ql
  by_cases hu : u ∈ l
  · have hv := HV.out
    rw [if_pos hu] at hv
    rw [decide_eq_true hu]
    generalize l.countP (· < u) = cn at *
    subst hv
    clear HV hu
    have i1 : IntKind.i64.wrap ((cn : Int) + 1) = (cn : Int) + 1 := IntWalk.i64_in _ (by omega)
    go_wp2_with fail
    go_ret
    exact ⟨by simp, _, rfl⟩
  · have hv := HV.out
    rw [if_neg hu, Nat.add_zero] at hv
    rw [decide_eq_false hu]
    generalize l.countP (· < u) = cn at *
    subst hv
    clear HV hu
    go_wp2_with fail
    go_ret
    exact ⟨rfl, _, rfl⟩
end

end Go.Proofs.Ytlmdkbhcocfhdaa.SmWalk

/-
  Contracts of the landed streams: Positions.
-/
namespace Go.Proofs.Ytlmdkbhcocfhdaa.SmWalk
open Go.RowKit Go.Maps Go.Proofs.Ytlmdkbhcocfhdaa.MemRow Go.Proofs.Ytlmdkbhcocfhdaa.Ev Go.Proofs.Ytlmdkbhcocfhdaa.NameMath Go.Proofs.Ytlmdkbhcocfhdaa.NameWalk Go.Proofs.Ytlmdkbhcocfhdaa.EvWalk Go.Proofs.Ytlmdkbhcocfhdaa.NumMem Go.Proofs.Ytlmdkbhcocfhdaa.NMap Go.Proofs.Ytlmdkbhcocfhdaa.DkWalk

theorem elem_ints : Try.prog.elem 38 = 3 := by kernel_rfl
section
variable {w : World} {F G : Nat → Prop} {g mb : Nat} {T : Tb} {M : DataW Hr} {hd : ByteArray → Hr}
set_option maxHeartbeats 4000000 in
set_option maxRecDepth 100000 in
theorem pos12_any (h : TbR w F G g T mb M hd) (ok : TOk T) {s : ByteArray} (hs : s.size ≤ maxLen) (u : Int) :
    Calls Try.prog 18 #[.pointer (some ⟨g, 0, none⟩), .string s, .int .i64 u] w fun e w' => ∃ B m c, e = .returned (.slice B m c) ∧ RdI w' B m c (posF T s u) ∧ OwnC 1 w' w.heap.size 3 B m c (nums (posF T s u)) ∧ Below w.heap.size w w' := by
  have k0 : w.drew.cell? ⟨g, 0, none⟩ = some (.map (some mb)) := h.c0
  obtain ⟨old, ho⟩ := oldOf_any T hd s
  have bq : ∀ q, Below w.heap.size w (w.drewN q) := fun q => ⟨rfl, rfl, rfl, Nat.le_refl _, fun _ _ => rfl⟩
  have bd : Below w.heap.size w w.drew := ⟨rfl, rfl, rfl, Nat.le_refl _, fun _ _ => rfl⟩
  have qd := (h.below bd).look ho hs
  have ql := fun q => (h.below (bq q)).look ho hs
  have LK : ∀ w', Below w.heap.size w w' → (Instr.lookup 46 (.map (some mb)) (.string s) false).run Try.prog w' = .ok (mkL old) w' := fun w' b => (h.below b).look ho hs
  have k00 := h.c0
  obtain ⟨A, n, c, e, rd, hA⟩ := mkL_rd h ho
  rw [e] at qd
  simp only [e] at ql LK
  have LK := Go.Lib.hid LK
  have hlen := allP_len T s
  have hl := ok.len
  have hn := rd.len
  have hv := verN_le (allP_rise ok.rise s) u
  obtain ⟨qs, rs⟩ := slice_hi (k := 1) 38 3 Try.underlying38 elem_ints (by kernel_rfl) rd (m := verN (allP T s) u) (by omega)
  have CV := Go.Lib.hid (ver12_any (h.below bd) ok hs u)
  have rs' : RdI w A (verN (allP T s) u) c (posF T s u) := by
    rw [posF_take ok.rise]
    unfold RdI
    have e2 : nums ((allP T s).take (verN (allP T s) u)) = (nums (allP T s)).take (verN (allP T s) u * 1) := by simp [nums, List.map_take]
    rw [e2]
    exact rs
  have hA' : A = none → verN (allP T s) u = 0 := fun e => by have := hA e; omega
  have hm : verN (allP T s) u ≤ 1000000 := by omega
  generalize verN (allP T s) u = m at *
  generalize posF T s u = pl at *
  have BQ := Go.Lib.hid bq
  clear h ho e ok rs hA hv rd bq bd
  go_enter Try.func18, Try.ntmps18
  go_wp2_with fail
  go_region_held (fun w' => w'.cell? ⟨g, 0, none⟩ = some (.map (some mb)) ∧ (Instr.lookup 46 (.map (some mb)) (.string s) false).run Try.prog w' = .ok (.slice A n c) w')
    (first | exact ⟨k0, qd⟩ | exact ⟨k0, ql _⟩ | exact ⟨y6, l6⟩)
    (first
      | (go_at_call 20; refine (CV.out).mono ?_; rintro e w5 ⟨rfl, q, rfl⟩)
      | (go_at_call 24; refine (cloneI_any A m c pl _ (RdC.drewN rs' _) hA' hm).mono ?_; rintro e w6 ⟨B, m2, c2, rfl, r6, o6, b6⟩; have B6 : Below w.heap.size w w6 := below_chain (BQ.out _) b6; have y6 := bcell B6 k00; have l6 := LK.out w6 B6))
  all_goals
    go_wp2_with fail
    go_ret
    exact ⟨_, _, _, rfl, r6, o6, B6⟩
end

end Go.Proofs.Ytlmdkbhcocfhdaa.SmWalk

/-
  Contracts of the landed streams: Clone.
-/
namespace Go.Proofs.Ytlmdkbhcocfhdaa.SmWalk
open Go.RowKit Go.Maps Go.Proofs.Ytlmdkbhcocfhdaa.MemRow Go.Proofs.Ytlmdkbhcocfhdaa.Ev Go.Proofs.Ytlmdkbhcocfhdaa.NameMath Go.Proofs.Ytlmdkbhcocfhdaa.NameWalk Go.Proofs.Ytlmdkbhcocfhdaa.EvWalk Go.Proofs.Ytlmdkbhcocfhdaa.NumMem Go.Proofs.Ytlmdkbhcocfhdaa.NMap Go.Proofs.Ytlmdkbhcocfhdaa.DkWalk

/-- v[:n:n] -/
theorem slice_fullI (x : Hr) (hc : x.n ≤ x.c) (W : World) : (Instr.slice 38 (valL x) none (some (.int .i64 (x.n : Int))) (some (.int .i64 (x.n : Int)))).run Try.prog W = .ok (.slice (some ⟨x.b, 0, none⟩) x.n x.n) W := by
  have hu : Try.prog.underlying 38 = some (.slice (Try.prog.elem 38)) := by rw [elem_ints]; exact Try.underlying38
  rw [run_slice_hm (P := Try.prog) W 38 _ x.n x.c hu .i64 .i64 (x.n : Int) (x.n : Int) (by omega) (by omega) (by omega), elem_ints, run_size (k := 1) (by kernel_rfl)]
  simp only [Result.andThen, sliced, Int.toNat_natCast, Nat.zero_mul, Option.map_some, Addr.add, Nat.sub_zero]
  congr 2
  split <;> rfl
/-- A list without room. -/
def fullH (hd : ByteArray → Hr) (s : ByteArray) : Hr := ⟨(hd s).b, (hd s).n, (hd s).n⟩
/-- A table that is being made. -/
structure CloR (w : World) (g mb : Nat) (lp : Int) (ns : List ByteArray) (M : DataW Hr) (hd : ByteArray → Hr) : Prop where
  box : w.heap[g]? = some (.cells #[.map (some mb), .int .i64 lp] 48 (0, 0))
  own : w.ownsMap Try.prog 9 slR mb (Maps.size M) M
  nm : NOf M ns (fullH hd)
theorem CloR.grown {w w' : World} {g mb : Nat} {lp : Int} {ns : List ByteArray} {M : DataW Hr} {hd : ByteArray → Hr} {row : Option Nat} (h : CloR w g mb lp ns M hd) (hg : w.grownBy w' row) (h1 : some g ≠ row) (h2 : some mb ≠ row) : CloR w' g mb lp ns M hd :=
  ⟨(hg.block g (Array.getElem?_eq_some_iff.1 h.box).1 h1).trans h.box, h.own.kept hg h2, h.nm⟩
section
variable {w : World} {F G : Nat → Prop} {g mb : Nat} {T : Tb} {M : DataW Hr} {hd : ByteArray → Hr}
set_option maxHeartbeats 8000000 in
set_option maxRecDepth 100000 in
theorem clone12_any (h : TbR w F G g T mb M hd) (ok : TOk T) :
    Calls Try.prog 11 #[.pointer (some ⟨g, 0, none⟩)] w fun e w' => ∃ g', e = .returned (.pointer (some ⟨g', 0, none⟩)) ∧ Below w.heap.size w w' ∧
      ∃ mb2 M2, TbR w' (fun k => w.heap.size ≤ k ∧ k < w'.heap.size) (up G w w') g' T mb2 M2 (fullH hd) := by
  have bd : Below w.heap.size w w.drew := ⟨rfl, rfl, rfl, Nat.le_refl _, fun _ _ => rfl⟩
  have k0 : w.drew.cell? ⟨g, 0, none⟩ = some (.map (some mb)) := h.c0
  have k1 : w.drew.cell? ⟨g, 1, none⟩ = some (.int .i64 (lastP T)) := h.c1
  have hsz := h.size
  have hns := namesT_len T
  have hlt := ok.len
  have ql : ∀ ty, (Builtin.len_ #[46] ty #[.map (some mb)]).run Try.prog w.drew = .ok (.int .i64 (Maps.size M : Nat)) w.drew := fun ty => (h.below bd).own.len Try.underlying46 ty
  have hmm := run_makeHintN (P := Try.prog) (t := 46) Try.underlying46
  have b1 := bd.alloc (Nat.le_refl _) (.map #[] 0)
  have x0 := bcell b1 h.c0
  have x1 := bcell b1 h.c1
  have B2 : Below w.heap.size w ((w.alloc (.map #[] 0)).alloc (.cells #[.map (some w.heap.size), .int .i64 (lastP T)] 48)) := ((Below.refl _ w).alloc (Nat.le_refl _) _).alloc (by simp) _
  have x2 := bcell B2 h.c0
  have x3 := bcell B2 h.c1
  have H := Go.Lib.hid h
  have OK := Go.Lib.hid ok
  have HSZ := Go.Lib.hid hsz
  clear h hsz b1 ok
  go_enter Try.func11, Try.ntmps11
  go_upto_region 1 with (fail)
  go_region_held (fun w' => w'.cell? ⟨g, 0, none⟩ = some (.map (some mb)) ∧ w'.cell? ⟨g, 1, none⟩ = some (.int .i64 (lastP T))) (first | exact ⟨k0, k1⟩ | exact ⟨x0, x1⟩ | exact ⟨x2, x3⟩) (fail)
  have bx := heap_alloc_new (w.alloc (.map #[] 0)) (.cells #[.map (some w.heap.size), .int .i64 (lastP T)] 48)
  have s1 : (w.alloc (.map #[] 0)).heap.size = w.heap.size + 1 := by simp
  have s2 : ((w.alloc (.map #[] 0)).alloc (.cells #[.map (some w.heap.size), .int .i64 (lastP T)] 48)).heap.size = w.heap.size + 2 := by simp
  have o2 := (World.ownsMap_made w Try.prog 9 slR).alloc (.cells #[.map (some w.heap.size), .int .i64 (lastP T)] 48)
  rw [s1] at bx
  have bz : Below w.heap.size ((w.alloc (.map #[] 0)).alloc (.cells #[.map (some w.heap.size), .int .i64 (lastP T)] 48)) ((w.alloc (.map #[] 0)).alloc (.cells #[.map (some w.heap.size), .int .i64 (lastP T)] 48)).drew := ⟨rfl, rfl, rfl, Nat.le_refl _, fun _ _ => rfl⟩
  have B3 := B2.trans bz
  have C3 : CloR ((w.alloc (.map #[] 0)).alloc (.cells #[.map (some w.heap.size), .int .i64 (lastP T)] 48)).drew (w.heap.size + 1) w.heap.size (lastP T) [] (.map []) hd := ⟨bx, o2, NOf.empty _⟩
  have s3 : ((w.alloc (.map #[] 0)).alloc (.cells #[.map (some w.heap.size), .int .i64 (lastP T)] 48)).drew.heap.size = w.heap.size + 2 := s2
  clear bx s1 s2 o2 bz B2 x0 x1 x2 x3 k0 k1 ql hmm bd
  go_upto_region 2 with (fail)
  generalize ((w.alloc (.map #[] 0)).alloc (.cells #[.map (some w.heap.size), .int .i64 (lastP T)] 48)).drew = w3 at *
  have h3 := H.out.below B3
  have p0 := h3.c0
  have hown := h3.own
  have NM := h3.nm
  have BB := Go.Lib.hid B3
  have CC := Go.Lib.hid C3
  have SS := Go.Lib.hid s3
  clear h3 B3 C3 s3
  go_wp2_with (at_range; refine wpList_range_own _ rfl _ 46 rfl 9 38 keyedN Try.underlying46 slR mb (Maps.size M) M rfl hown ?_; intro w4 hrg4 hg4 hs4)
  go_frame
  go_loopw [4, 5] (fun _ _ wr => ∃ (left : Lit → Bool) (cnt : Nat) (Mc : DataW Hr), wr.ranges Try.prog 9 slR mb w3.heap.size (Maps.size M) M left cnt ∧ Hid (CloR wr (w.heap.size + 1) w.heap.size (lastP T) (cameN left (namesT T)) Mc hd) ∧ Below w.heap.size w wr) (fun _ _ wr => wr.rangeLeft mb w3.heap.size)
  case atStart =>
    have hb4 := grown_below hg4
    have hl : ∀ s ∈ namesT T, has M (keyN s) = true := fun s hs => NM.yes hs
    refine ⟨_, _, .map [], hrg4, Go.Lib.hid ?_, below_chain BB.out hb4⟩
    rw [cameN_start hl]
    exact CC.out.grown hg4 (by simp) (by simp)
  case round =>
    obtain ⟨left, cnt, Mc, hrg, HA, hb⟩ := hrel
    clear hrg4 hg4 hs4
    go_wp2_with (at_next; refine wpList_next_ns _ slR mkL mkL_inv valL slR_held rfl _ rfl NM mb w3.heap.size (Maps.size M) _ _ rfl hrg ?_ ?_)
    · intro hc0 hl0
      have ha := HA.out
      rw [cameN_end _ hl0] at ha
      have h4 := H.out.below hb
      have HR : Hid (TbR wr (fun k => w.heap.size ≤ k ∧ k < wr.heap.size) (up G w wr) (w.heap.size + 1) T w.heap.size Mc (fullH hd)) := Go.Lib.hid (by
        have z1 := (Array.getElem?_eq_some_iff.1 ha.box).1
        refine ⟨ha.box, ha.own, ha.nm, fun s hs => ?_, fun s hs t ht _ hx => absurd hx (Nat.lt_irrefl _), ⟨by omega, z1⟩, ⟨Nat.le_refl _, by omega⟩, fun k hk => .inr hk, fun k hk => up_lt H.out.lt hb.size hk⟩
        have r := h4.li s hs
        obtain ⟨cur, e1, e2, e3⟩ := r.ex
        have := r.le
        have := r.cap
        exact ⟨⟨cur, e1, by simp only [fullH]; omega, e3⟩, r.len, r.pos, Nat.le_refl _, by simp only [fullH]; omega, fun hx => absurd hx (Nat.lt_irrefl _), .inl r.gb⟩)
      clear ha HA hrg h4
      go_wp2_with fail
      go_ret
      exact ⟨_, rfl, hb, _, _, HR.out⟩
    · intro s hs w5 cnt5 hlk hss hrg5 hlt5 hg5 hs5 hen
      have s3 := SS.out
      have h5 := HA.out.grown hg5 (by rw [s3]; simp) (by rw [s3]; simp)
      have b5 : Below w.heap.size w w5 := hb.grown hg5 hb.size (fun r e => by injection e with e; omega)
      have r := (H.out.below b5).li s hs
      have hle := r.le
      have hcn : (cameN left (namesT T)).length ≤ (namesT T).length := List.length_filter_le _ _
      have hmx : Maps.size Mc < maxLen := by
        rw [h5.nm.size (h5.own.canon keyedN) ((up_nodupN (namesT_up T)).sublist (List.filter_sublist (p := fun s => !left (keyN s))))]
        unfold maxLen
        omega
      have hkey := keyN_of hss
      obtain ⟨w8, hrun8, hown8, hg8⟩ := (show w5.drew.ownsMap Try.prog 9 slR w.heap.size (Maps.size Mc) Mc from h5.own).update keyedN Try.underlying46 hmx hkey (slR_some (fullH hd s))
      have hsl := slice_fullI (hd s) hle
      have y0 : w5.drew.cell? ⟨w.heap.size + 1, 0, none⟩ = some (.map (some w.heap.size)) := by
        show w5.cell? _ = _
        rw [cell_of_row w5 (w.heap.size + 1) 0 _ _ _ h5.box]
        rfl
      have y8 := hg8.cell (a := ⟨w.heap.size + 1, 0, none⟩) y0 (by simp)
      have hF : fullH hd s = ⟨(hd s).b, (hd s).n, (hd s).n⟩ := rfl
      have n1 : (some (w.heap.size + 1) : Option Nat) ≠ some w.heap.size := by simp
      have c8 : CloR w8 (w.heap.size + 1) w.heap.size (lastP T) (cameN (cutN left s) (namesT T)) (Mc.put (keyN s) (.held (fullH hd s))) hd :=
        ⟨(hg8.block (w.heap.size + 1) (Array.getElem?_eq_some_iff.1 h5.box).1 n1).trans h5.box, tightN hown8, h5.nm.put (isMapN h5.own) (s := s) (cameN_step hs) (fun _ _ => rfl)⟩
      have hmb := H.out.mlt
      have z5 := hb.size
      have b8 : Below w.heap.size w w8 := (b5.trans (show Below w.heap.size w5 w5.drew from ⟨rfl, rfl, rfl, Nat.le_refl _, fun _ _ => rfl⟩)).grown hg8 b5.size (fun j e => by injection e with e; omega)
      have hrg8 := (show w5.drew.ranges Try.prog 9 slR mb w3.heap.size (Maps.size M) M (cutN left s) cnt5 from hrg5).kept hg8 (fun e => by injection e with e; omega) (fun e => by injection e with e; omega)
      have HLEFT := hrg.left_eq
      rw [hF] at hrun8
      have C8 := Go.Lib.hid c8
      clear h5 r hcn hmx hb hown8 hg8 hrg hrg5 hg5 hs5 HA c8 hmb z5 n1 hF hle hlk s3
      generalize hd s = x at *
      obtain ⟨xb, xn, xc⟩ := x
      go_upto_region 5 with (fail)
      go_region_held_law (fun w' => w'.cell? ⟨w.heap.size + 1, 0, none⟩ = some (.map (some w.heap.size))) (first | exact y0 | exact y8) (fail)
      go_wp2_with fail
      go_roundw
      case rel => exact ⟨_, cnt5, _, hrg8, C8, b8⟩
      case measure => rw [hrg8.left_eq, HLEFT]; exact hlt5
end

end Go.Proofs.Ytlmdkbhcocfhdaa.SmWalk

/-
  DERIVED: THE SHELF's CONTRACTS AT THIS DUMP, IN PLAIN WORDS (tools/lay-plain.mjs out of 'TryShelf.lean', which tools/lay-shelf.mjs wrote): THE SAME DECLARATIONS UNDER THE SAME NAMES: 'import', 'namespace', 'open', 'def', 'theorem' AND NOTHING ELSE: no command of the shelf's: FOR A HAND-IN. Each laying: the table of numbers ('.._ren') and one theorem, a field a fact of the dump's own or the kernel's comparison; each contract: ONE APPLICATION.
-/
namespace Go.Proofs
open Go.Shelf
def Try.lays190_ren : Go.Shelf.Ren := ⟨fun | 190 => 27 | 125 => 33 | 258 => 32 | 128 => 44 | 129 => 45 | 302 => 35 | 303 => 36 | 304 => 37 | 305 => 38 | 306 => 39 | 307 => 40 | 308 => 41 | 309 => 42 | 310 => 43 | 333 => 46 | 329 => 47 | 330 => 48 | 334 => 49 | 335 => 50 | 336 => 51 | 344 => 52 | n => n, fun | 31 => 35 | 9 => 9 | 3 => 3 | 46 => 59 | 0 => 0 | 51 => 74 | 53 => 76 | 4 => 4 | 183 => 67 | 182 => 66 | 131 => 55 | 5 => 5 | 218 => 77 | 222 => 81 | 228 => 83 | 229 => 84 | n => n, fun | n => n⟩
theorem Try.lays190 : Go.Proofs.Lays.n190 Try.prog Try.lays190_ren := {
  mixed := by kernel_rfl
  f125 := Try.func33.trans (congrArg some (by kernel_rfl))
  f128 := Try.func44.trans (congrArg some (by kernel_rfl))
  f129 := Try.func45.trans (congrArg some (by kernel_rfl))
  f190 := Try.func27.trans (congrArg some (by kernel_rfl))
  f258 := Try.func32.trans (congrArg some (by kernel_rfl))
  f302 := Try.func35.trans (congrArg some (by kernel_rfl))
  f303 := Try.func36.trans (congrArg some (by kernel_rfl))
  f304 := Try.func37.trans (congrArg some (by kernel_rfl))
  f305 := Try.func38.trans (congrArg some (by kernel_rfl))
  f306 := Try.func39.trans (congrArg some (by kernel_rfl))
  f307 := Try.func40.trans (congrArg some (by kernel_rfl))
  f308 := Try.func41.trans (congrArg some (by kernel_rfl))
  f309 := Try.func42.trans (congrArg some (by kernel_rfl))
  f310 := Try.func43.trans (congrArg some (by kernel_rfl))
  f329 := Try.func47.trans (congrArg some (by kernel_rfl))
  f330 := Try.func48.trans (congrArg some (by kernel_rfl))
  f333 := Try.func46.trans (congrArg some (by kernel_rfl))
  f334 := Try.func49.trans (congrArg some (by kernel_rfl))
  f335 := Try.func50.trans (congrArg some (by kernel_rfl))
  f336 := Try.func51.trans (congrArg some (by kernel_rfl))
  f344 := Try.func52.trans (congrArg some (by kernel_rfl))
  t0 := Try.underlying0
  a0 := Try.isAgg0
  z0 := Try.sizeOf0
  v0 := Try.zeroValue0
  t3 := Try.underlying3
  a3 := Try.isAgg3
  z3 := Try.sizeOf3
  v3 := Try.zeroValue3
  t4 := Try.underlying4
  a4 := Try.isAgg4
  z4 := Try.sizeOf4
  v4 := Try.zeroValue4
  t5 := Try.underlying5
  a5 := Try.isAgg5
  z5 := Try.sizeOf5
  v5 := Try.zeroValue5
  t9 := Try.underlying9
  a9 := Try.isAgg9
  z9 := Try.sizeOf9
  v9 := Try.zeroValue9
  t31 := Try.underlying35
  a31 := Try.isAgg35
  z31 := Try.sizeOf35
  v31 := Try.zeroValue35
  t46 := Try.underlying59
  a46 := Try.isAgg59
  z46 := Try.sizeOf59
  v46 := Try.zeroValue59
  t51 := Try.underlying74
  a51 := Try.isAgg74
  z51 := Try.sizeOf74
  v51 := Try.zeroValue74
  t53 := Try.underlying76
  a53 := Try.isAgg76
  z53 := Try.sizeOf76
  v53 := Try.zeroValue76
  t131 := Try.underlying55
  a131 := Try.isAgg55
  z131 := Try.sizeOf55
  v131 := Try.zeroValue55
  t182 := Try.underlying66
  a182 := Try.isAgg66
  z182 := Try.sizeOf66
  v182 := Try.zeroValue66
  t183 := Try.underlying67
  a183 := Try.isAgg67
  z183 := Try.sizeOf67
  v183 := Try.zeroValue67
  t218 := Try.underlying77
  a218 := Try.isAgg77
  z218 := Try.sizeOf77
  v218 := Try.zeroValue77
  t222 := Try.underlying81
  a222 := Try.isAgg81
  z222 := Try.sizeOf81
  v222 := Try.zeroValue81
  t228 := Try.underlying83
  a228 := Try.isAgg83
  z228 := Try.sizeOf83
  v228 := Try.zeroValue83
  t229 := Try.underlying84
  a229 := Try.isAgg84
  z229 := Try.sizeOf84
  v229 := Try.zeroValue84 }
open Go.Sort Go.RowKit in
theorem Try.slices_Sort_string (blk off cap : Nat) (ss : List (List UInt8)) (w : World) (hH : Holds encStr w blk off ss.toArray) (hblk : blk < w.heap.size) (hsz : ss.length < 4611686018427387904) :
    Calls Try.prog 27 #[.slice (some ⟨blk, off, none⟩) ss.length cap] w fun e w' =>
      e = .returned (.tuple #[]) ∧ ∃ n os, w' = grow (putRow encStr (Sort.ahead w n) blk off (ss.mergeSort fun x y => decide (x ≤ y)).toArray) os := Any.slices_Sort_string Try.lays190 blk off cap ss w hH hblk hsz
open Go.RowKit Go.Sort in
theorem Try.slices_Sort_string_none (p : Option Addr) (cap : Nat) (w : World) :
    Calls Try.prog 27 #[.slice p 0 cap] w fun e w' => e = .returned (.tuple #[]) ∧ w' = w := Any.slices_Sort_string_none Try.lays190 p cap w
def Try.keysA_ren : Go.Shelf.Ren := ⟨fun | 7 => 22 | 10 => 28 | n => n, fun | 23 => 46 | 26 => 9 | 3 => 38 | 28 => 51 | 0 => 0 | 27 => 50 | 33 => 58 | 4 => 4 | n => n, fun | n => n⟩
theorem Try.keysA : Go.Proofs.SlLaysZ.n7 Try.prog Try.keysA_ren := {
  mixed := by kernel_rfl
  f7 := ⟨Try.f22.name, by decide, Try.func22.trans (congrArg some (by kernel_rfl))⟩
  f10 := ⟨Try.f28.name, by decide, Try.func28.trans (congrArg some (by kernel_rfl))⟩
  t0 := Try.underlying0
  a0 := Try.isAgg0
  z0 := Try.sizeOf0
  v0 := Try.zeroValue0
  t4 := Try.underlying4
  a4 := Try.isAgg4
  z4 := Try.sizeOf4
  v4 := Try.zeroValue4
  t23 := Try.underlying46
  a23 := Try.isAgg46
  z23 := Try.sizeOf46
  v23 := Try.zeroValue46
  t26 := Try.underlying9
  a26 := Try.isAgg9
  z26 := Try.sizeOf9
  v26 := Try.zeroValue9
  t27 := Try.underlying50
  a27 := Try.isAgg50
  z27 := Try.sizeOf50
  v27 := Try.zeroValue50
  t28 := Try.underlying51
  a28 := Try.isAgg51
  z28 := Try.sizeOf51
  v28 := Try.zeroValue51
  t33 := Try.underlying58
  a33 := Try.isAgg58
  z33 := Try.sizeOf58
  v33 := Try.zeroValue58 }
def Try.sortedA_ren : Go.Shelf.Ren := ⟨fun | 6 => 21 | 8 => 26 | 9 => 27 | 11 => 31 | 13 => 33 | 12 => 32 | 23 => 44 | 24 => 45 | 14 => 35 | 15 => 36 | 16 => 37 | 17 => 38 | 18 => 39 | 19 => 40 | 20 => 41 | 21 => 42 | 22 => 43 | 25 => 46 | 26 => 47 | 27 => 48 | 28 => 49 | 29 => 50 | 30 => 51 | 31 => 52 | n => n, fun | 26 => 9 | 28 => 51 | 24 => 35 | 0 => 0 | 3 => 3 | 37 => 59 | 48 => 74 | 50 => 76 | 4 => 4 | 40 => 67 | 39 => 66 | 45 => 55 | 5 => 5 | 9 => 9 | 51 => 77 | 55 => 81 | 57 => 83 | 58 => 84 | 33 => 58 | n => n, fun | n => n⟩
theorem Try.sortedA : Go.Proofs.SlLaysZ.n6 Try.prog Try.sortedA_ren := {
  mixed := by kernel_rfl
  f6 := ⟨Try.f21.name, by decide, Try.func21.trans (congrArg some (by kernel_rfl))⟩
  f8 := ⟨Try.f26.name, by decide, Try.func26.trans (congrArg some (by kernel_rfl))⟩
  f11 := ⟨Try.f31.name, by decide, Try.func31.trans (congrArg some (by kernel_rfl))⟩
  t0 := Try.underlying0
  a0 := Try.isAgg0
  z0 := Try.sizeOf0
  v0 := Try.zeroValue0
  t24 := Try.underlying35
  a24 := Try.isAgg35
  z24 := Try.sizeOf35
  v24 := Try.zeroValue35
  t26 := Try.underlying9
  a26 := Try.isAgg9
  z26 := Try.sizeOf9
  v26 := Try.zeroValue9
  t28 := Try.underlying51
  a28 := Try.isAgg51
  z28 := Try.sizeOf51
  v28 := Try.zeroValue51
  i26 := by kernel_rfl }
end Go.Proofs

/-
  Contracts of the landed streams: Names.
-/
namespace Go.Proofs.Ytlmdkbhcocfhdaa.SmWalk
open Go.RowKit Go.Maps Go.Sort Go.Shelf Go.Proofs Go.Proofs.Ytlmdkbhcocfhdaa.MemRow Go.Proofs.Ytlmdkbhcocfhdaa.Ev Go.Proofs.Ytlmdkbhcocfhdaa.NameMath Go.Proofs.Ytlmdkbhcocfhdaa.NameWalk Go.Proofs.Ytlmdkbhcocfhdaa.EvWalk Go.Proofs.Ytlmdkbhcocfhdaa.NumMem Go.Proofs.Ytlmdkbhcocfhdaa.NMap Go.Proofs.Ytlmdkbhcocfhdaa.DkWalk

/-- slices.Sort's two contracts at this dump, at the fence that asks nothing. -/
theorem sortsN (m : Nat) : AnyZ.SortsIn Try.prog Try.sortedA_ren Fence.wide m :=
  ⟨fun blk off cap ss W hH hblk hsz => callsIn_wide.2 (Try.slices_Sort_string blk off cap ss W hH hblk hsz),
   fun p cap W => callsIn_wide.2 (Try.slices_Sort_string_none p cap W)⟩
section
variable {w : World} {F G : Nat → Prop} {g mb : Nat} {T : Tb} {M : DataW Hr} {hd : ByteArray → Hr}
set_option maxHeartbeats 4000000 in
set_option maxRecDepth 100000 in
theorem names12_any (h : TbR w F G g T mb M hd) (ok : TOk T) :
    Calls Try.prog 15 #[.pointer (some ⟨g, 0, none⟩)] w fun e w' => ∃ B m c, e = .returned (.slice B m c) ∧ RdS w' B m c (namesT T) ∧ Below w.heap.size w w' := by
  have k0 := h.c0
  have hsz := h.size
  have hns := namesT_len T
  have hlt := ok.len
  have hmax : Maps.size M ≤ maxLen := by unfold maxLen; omega
  have hbytes : Maps.size M * 16 ≤ 140737488355328 := by omega
  have hown := h.own
  have hbl := hown.lt
  have hseq : SeqGives Fence.wide 2 Try.prog 28 #[.pointer (some ⟨w.heap.size, 0, none⟩)] encStr (fun ss => ss.Perm (strKeys M)) (Maps.size M) (w.alloc (.cells #[.map (some mb)] 46)) :=
    AnyZ.keys_gives (ρ := Try.keysA_ren) { Try.keysA with } Fence.wide _ trivial rfl (by omega) w.heap.size mb (Maps.size M) M _ (by simp) (by simp) (by
      obtain ⟨es, clock, hb, Ft, hs, hD⟩ := hown
      exact ⟨es, clock, (Below.heap_alloc _ _ mb hbl).trans hb, Ft, hs, hD⟩)
  have cK : Calls Try.prog 22 #[.map (some mb)] w fun e w' => e = .returned (.func (.func 28) #[] #[.pointer (some ⟨w.heap.size, 0, none⟩)]) ∧ w' = w.alloc (.cells #[.map (some mb)] 46) := (callsIn_wide (n := 5)).1 (AnyZ.keys_in Try.keysA Fence.wide 5 trivial rfl (some mb) w)
  have cS := AnyZ.sorted_in Try.sortedA Fence.wide 5 trivial trivial trivial trivial rfl (by omega) (sortsN _) (enters_of Try.func27 (by kernel_rfl) rfl) 28 #[.pointer (some ⟨w.heap.size, 0, none⟩)] trivial (enters_of Try.func28 (by kernel_rfl) rfl) _ _ hmax hbytes _ hseq
  have cS' := (callsIn_wide (n := 5)).1 cS
  change Calls Try.prog 21 _ _ _ at cS'
  have al : Below w.heap.size w (w.alloc (.cells #[.map (some mb)] 46)) := (Below.refl _ _).alloc (Nat.le_refl _) _
  have CS := Go.Lib.hid cS'
  have CK := Go.Lib.hid cK
  have HP := Go.Lib.hid (h.nm.strs (hown.canon keyedN) (up_nodupN (namesT_up T)))
  clear cS cS' cK hseq hown h hbl hbytes hmax hsz
  go_enter Try.func15, Try.ntmps15
  go_wp2_with fail
  refine (CK.out).mono ?_
  rintro e w1 ⟨rfl, rfl⟩
  go_wp2_with fail
  refine (CS.out).mono ?_
  rintro e w2 ⟨v, ss, rfl, hS, hrow, hnil, hb⟩
  have hss := sorted_strs (namesT_up T) (hS.trans HP.out)
  have hss' : (ss.mergeSort fun x y => decide (x ≤ y)).map encStr = MemRow.strs (namesT T) := hss
  have hln : ss.length = (namesT T).length := by
    have := (hS.trans HP.out).length_eq
    simpa using this
  rw [hss', hln] at hrow
  have bw := below_chain al hb
  obtain ⟨B, c, hv⟩ : ∃ B c, v = .slice B (namesT T).length c := by
    rcases hrow.2 with ⟨e, h0⟩ | ⟨g', cap, cur, e, _⟩
    · exact ⟨none, 0, by rw [e, h0]⟩
    · exact ⟨_, _, e⟩
  subst hv
  have hr : RdS w2 B (namesT T).length c (namesT T) := OwnC.rd (k := 1) hrow
  clear hss hss' hS hnil
  go_wp2_with fail
  go_ret
  exact ⟨_, _, _, rfl, hr, bw⟩
end

end Go.Proofs.Ytlmdkbhcocfhdaa.SmWalk

/-
  The landed streams is as it is asked to be.
-/
namespace Go.Proofs.Ytlmdkbhcocfhdaa.SmWalk
open Go.RowKit Go.Maps Go.Proofs.Ytlmdkbhcocfhdaa.MemRow Go.Proofs.Ytlmdkbhcocfhdaa.Ev Go.Proofs.Ytlmdkbhcocfhdaa.NameMath Go.Proofs.Ytlmdkbhcocfhdaa.NameWalk Go.Proofs.Ytlmdkbhcocfhdaa.EvWalk Go.Proofs.Ytlmdkbhcocfhdaa.NumMem Go.Proofs.Ytlmdkbhcocfhdaa.NMap Go.Proofs.Ytlmdkbhcocfhdaa.DkWalk

theorem stL_up {w w' : World} {G F1 : Nat → Prop} {g mb : Nat} {T : Tb} {M : DataW Hr} {hd : ByteArray → Hr} (h : TbR w' F1 (up G w w') g T mb M hd) : StL g T w' (up G w w') := ⟨F1, mb, M, hd, h⟩
theorem drewN_below (w : World) (q : Nat) : Below w.heap.size w (w.drewN q) := ⟨rfl, rfl, rfl, Nat.le_refl _, fun _ _ => rfl⟩
theorem sApi : SApi StL where
  keeps := stL_keeps
  new := fun {base w} hb => by
    refine (new12_any w).mono ?_
    rintro e w' ⟨g, rfl, hs, hbl⟩
    exact ⟨g, rfl, Pair.fresh (G := fun _ => False) (fun k h => h) noT_keeps (fun k h => h.elim) hb hs hbl, hbl⟩
  add := fun {base w g T Q s p} pr kq hb ok hl hs hp => by
    obtain ⟨G, GQ, ⟨F, mb, M, hd, h⟩, hq, h1, h2, h3⟩ := pr
    refine (add12_any h ok hl hs hp).mono ?_
    rintro e w' ⟨rfl, F1, M1, hd1, t1, _, hc, _⟩
    have hc' : Ch G w w' := hc.wide h.fG
    exact ⟨rfl, Pair.left hq kq h1 h2 h3 hb (stL_up t1) hc', ch_below (Below.refl _ _) hc' h1 hb⟩
  ver := fun {base w g T Q s u} pr kq ok hs hu => by
    have pr' := pr
    obtain ⟨G, GQ, ⟨F, mb, M, hd, h⟩, hq, h1, h2, h3⟩ := pr
    refine (ver12_any h ok hs u).mono ?_
    rintro e w' ⟨rfl, q, rfl⟩
    rw [posF_ver ok.rise]
    exact ⟨rfl, pr'.below (stL_keeps _ _) kq (drewN_below w q), drewN_below w q⟩
  pos := fun {base w g T Q s u} pr kq ok hs hu => by
    have pr' := pr
    obtain ⟨G, GQ, ⟨F, mb, M, hd, h⟩, hq, h1, h2, h3⟩ := pr
    refine (pos12_any h ok hs u).mono ?_
    rintro e w' ⟨B, m, c, rfl, r, _, b⟩
    exact ⟨B, m, c, rfl, r, pr'.below (stL_keeps _ _) kq b, b⟩
  names := fun {base w g T Q} pr kq ok => by
    have pr' := pr
    obtain ⟨G, GQ, ⟨F, mb, M, hd, h⟩, hq, h1, h2, h3⟩ := pr
    refine (names12_any h ok).mono ?_
    rintro e w' ⟨B, m, c, rfl, r, b⟩
    exact ⟨B, m, c, rfl, r, pr'.below (stL_keeps _ _) kq b, b⟩
theorem twApi : TwApi StL TwL where
  toSApi := sApi
  tkeeps := twL_keeps
  swap := twL_swap
  fst := twL_fst
  clone := fun {base w g T Q} pr kq hb ok => by
    obtain ⟨G, GQ, ⟨F, mb, M, hd, h⟩, hq, h1, h2, h3⟩ := pr
    refine (clone12_any h ok).mono ?_
    rintro e w' ⟨g', rfl, b, mb2, M2, t2⟩
    have t1 := (h.below b).wide (G' := up G w w') (fun k hk => .inl hk) (fun k hk => up_lt h.lt b.size hk)
    refine ⟨g', rfl, Pair.left hq kq h1 h2 h3 hb ⟨F, mb, M, hd, _, mb2, M2, fullH hd, t1, t2, fun k hk hn => ?_, fun s hs t ht hsp e => ?_, fun s hs t ht hsp e => absurd hsp (Nat.lt_irrefl _)⟩ (Ch.of_below b), b⟩
    · have := h.lt k (h.fG k hk)
      omega
    · by_cases est : t = s
      · subst est
        exact Nat.le_refl _
      · exact absurd e (h.apart s hs t ht est hsp)
  tadd := fun {base w g g' T T' Q s p} pr kq hb ok hl hs hp => by
    obtain ⟨G, GQ, ⟨F, mb, M, hd, F', mb', M', hd', h, h', hFF, a1, a2⟩, hq, h1, h2, h3⟩ := pr
    refine (add12_any h ok hl hs hp).mono ?_
    rintro e w' ⟨rfl, F1, M1, hd1, t1, hF1, hc, kin⟩
    obtain ⟨y, a3, a4⟩ := kin _ _ _ _ _ _ _ h' hFF a1 a2
    have hc' : Ch G w w' := hc.wide h.fG
    have y' := y.wide (G' := up G w w') (fun k hk => .inl hk) (fun k hk => up_lt h.lt hc.size hk)
    refine ⟨rfl, Pair.left hq kq h1 h2 h3 hb ⟨F1, _, M1, hd1, F', mb', M', hd', t1, y', fun k hk hn => ?_, a3, a4⟩ hc', ch_below (Below.refl _ _) hc' h1 hb⟩
    rcases hF1 k hk with hk | hk
    · exact hFF k hk hn
    · have := h'.lt k (h'.fG k hn)
      omega
  tver := fun {base w g g' T T' Q s u} pr kq ok hs hu => by
    have pr' := pr
    obtain ⟨G, GQ, ⟨F, mb, M, hd, F', mb', M', hd', h, _⟩, hq, h1, h2, h3⟩ := pr
    refine (ver12_any h ok hs u).mono ?_
    rintro e w' ⟨rfl, q, rfl⟩
    rw [posF_ver ok.rise]
    exact ⟨rfl, pr'.below (twL_keeps _ _ _ _) kq (drewN_below w q), drewN_below w q⟩
  tpos := fun {base w g g' T T' Q s u} pr kq ok hs hu => by
    have pr' := pr
    obtain ⟨G, GQ, ⟨F, mb, M, hd, F', mb', M', hd', h, _⟩, hq, h1, h2, h3⟩ := pr
    refine (pos12_any h ok hs u).mono ?_
    rintro e w' ⟨B, m, c, rfl, r, _, b⟩
    exact ⟨B, m, c, rfl, r, pr'.below (twL_keeps _ _ _ _) kq b, b⟩

end Go.Proofs.Ytlmdkbhcocfhdaa.SmWalk

