/-
  Contracts of the document's answers of layer 8: put, drop.
-/
import Derived.Deep.QuietTactic
import Derived.BigQuiet
import Derived.Deep.RegionLaw
import Derived.Deep.RegionHeld
import Derived.Deep.RegionHeldLaw
import Derived.Maps.OwnSet
import Derived.Maps.Ext
import Derived.Maps.RangeWalk
import Derived.Sort.KeysCollected
import Derived.Test.YtfdhfjmmmjhgbaaMg1
namespace Go.Proofs.Ytfdhfjmmmjhgbaa.DkWalk
open Go.RowKit Go.Proofs.Ytfdhfjmmmjhgbaa.MemRow Go.Proofs.Ytfdhfjmmmjhgbaa.Ev Go.Proofs.Ytfdhfjmmmjhgbaa.NameMath Go.Proofs.Ytfdhfjmmmjhgbaa.NameWalk Go.Proofs.Ytfdhfjmmmjhgbaa.EvWalk Go.Proofs.Ytfdhfjmmmjhgbaa.NumMem

/-! ### The box of a file -/
def FAt (w : World) (g : Nat) (v0 v1 v2 : Value) : Prop := w.heap[g]? = some (.cells #[v0, v1, v2] 73 (0, 0))
theorem FAt.new (w : World) (v0 v1 v2 : Value) : FAt (w.alloc (.cells #[v0, v1, v2] 73)) w.heap.size v0 v1 v2 := heap_alloc_new w _
section
variable {w w' : World} {g : Nat} {v0 v1 v2 : Value}
theorem FAt.lt (h : FAt w g v0 v1 v2) : g < w.heap.size := (Array.getElem?_eq_some_iff.1 h).1
theorem FAt.below (h : FAt w g v0 v1 v2) (hb : Below w.heap.size w w') : FAt w' g v0 v1 v2 := (hb.block g h.lt).trans h
theorem FAt.c0 (h : FAt w g v0 v1 v2) : w.cell? ⟨g, 0, none⟩ = some v0 := by rw [cell_of_row w g 0 _ _ _ h]; rfl
theorem FAt.c1 (h : FAt w g v0 v1 v2) : w.cell? ⟨g, 1, none⟩ = some v1 := by rw [cell_of_row w g 1 _ _ _ h]; rfl
theorem FAt.c2 (h : FAt w g v0 v1 v2) : w.cell? ⟨g, 2, none⟩ = some v2 := by rw [cell_of_row w g 2 _ _ _ h]; rfl
theorem FAt.frozen (h : FAt w g v0 v1 v2) (i : Nat) : w.frozen? ⟨g, i, none⟩ = false := by
  unfold FAt at h
  simp [World.frozen?, h]
theorem FAt.grown {row : Option Nat} (h : FAt w g v0 v1 v2) (hg : w.grownBy w' row) (hne : some g ≠ row) : FAt w' g v0 v1 v2 := (hg.block g h.lt hne).trans h
end
theorem file_info : (Try.prog.info? 73).map (fun i => (i.zero, i.size, i.bytes)) = some (some (.agg #[.string ⟨#[]⟩, .slice none 0 0, .int .i64 0]), 3, 48) := by kernel_rfl
theorem file_size : (Try.prog.info? 73).map (·.size) = some 3 := by kernel_rfl
theorem elem_files : Try.prog.elem 59 = 73 := by kernel_rfl
theorem fl_one (s : ByteArray) (B : Option Addr) (m c : Nat) (k : Int) : ∀ v ∈ ([.string s, .slice B m c, .int .i64 k] : List Value), v.oneCell' = true := by
  intro v hv
  simp only [List.mem_cons, List.not_mem_nil, or_false] at hv
  rcases hv with rfl | rfl | rfl <;> rfl
theorem row_low {k : Nat} {w : World} {base : Nat} {t : TypeId} {A : Option Addr} {n cap : Nat} {cs : List Value} (h : OwnC k w base t A n cap cs) {r : Nat} (e : A.map (·.block) = some r) : base ≤ r := by
  cases A with
  | none => cases e
  | some a =>
    simp only [Option.map_some, Option.some.injEq] at e
    have := (OwnC.lt h a rfl).1
    omega

theorem own_lower {k : Nat} {w : World} {base base' : Nat} {t : TypeId} {A : Option Addr} {n cap : Nat} {cs : List Value} (h : OwnC k w base t A n cap cs) (hb : base' ≤ base) : OwnC k w base' t A n cap cs := by
  refine ⟨h.1, ?_⟩
  rcases h.2 with h2 | ⟨g, c, cur, hv, hg, rest⟩
  · exact .inl h2
  · exact .inr ⟨g, c, cur, hv, Nat.le_trans hb hg, rest⟩
/-- What stands while a row of files is made: the file's box, the row that is made. -/
structure PtAt (w wr : World) (F : Nat → Prop) (gf : Nat) (v0 v1 v2 : Value) (A : Option Addr) (m c : Nat) (fs : List Fl) : Prop where
  box : FAt wr gf v0 v1 v2
  own : ∃ cs, OwnC 3 wr (gf + 1) 73 A m c cs ∧ fs.length = m ∧ FlsR w F fs cs
  bel : Below w.heap.size w wr
  lo : w.heap.size ≤ gf
section
variable {w wr w' : World} {F : Nat → Prop} {gf m c : Nat} {v0 v1 v2 : Value} {A : Option Addr} {fs : List Fl}
theorem PtAt.below (h : PtAt w wr F gf v0 v1 v2 A m c fs) (hb : Below wr.heap.size wr w') : PtAt w w' F gf v0 v1 v2 A m c fs := by
  obtain ⟨cs, o, hl, hf⟩ := h.own
  exact ⟨h.box.below hb, ⟨cs, OwnC.below o hb, hl, hf⟩, below_chain h.bel hb, h.lo⟩
/-- A file more. -/
theorem PtAt.more {A' : Option Addr} {c' : Nat} {cs : List Value} {f : Fl} {B : Option Addr} {nb cb : Nat} (h : PtAt w wr F gf v0 v1 v2 A m c fs) (o : OwnC 3 wr (gf + 1) 73 A m c cs) (hl : fs.length = m) (hf : FlsR w F fs cs)
    (r : Own w 0 5 B nb cb f.b) (hb : ∀ a, B = some a → F a.block) (o' : OwnC 3 w' (gf + 1) 73 A' (m + 1) c' (cs ++ [.string f.name, .slice B nb cb, .int .i64 f.safe])) (hg : wr.grownBy w' (A.map (·.block)))
    : PtAt w w' F gf v0 v1 v2 A' (m + 1) c' (fs ++ [f]) := by
  have lo := h.lo
  have low := fun r e => row_low o (r := r) e
  exact ⟨h.box.grown hg (fun e => by have := low gf e.symm; omega), ⟨_, o', by rw [List.length_append, hl]; rfl, FlsR.snoc r hb fs cs hf⟩, h.bel.grown hg h.bel.size (fun r e => by have := low r e; omega), h.lo⟩
/-- The disk's row is one that was made. -/
theorem fin_row {g base : Nat} {D : Dk} {A0 : Option Addr} {n0 cap0 : Nat} {cs0 cs : List Value} (h0 : RefAt w g D F A0 n0 cap0 cs0) (bel : Below w.heap.size w wr) (o : OwnC 3 wr base 73 A m c cs) (lo : w.heap.size ≤ base) (hl : fs.length = m) (hf : FlsR w (up F w wr) fs cs) :
    wr.frozen? ⟨g, 2, none⟩ = false ∧ wr.cell? ⟨g, 2, none⟩ = some (.slice A0 n0 cap0) ∧ RefIs (wr.setCell ⟨g, 2, none⟩ (.slice A m c)) g ⟨D.quota, D.left, fs⟩ (up F w (wr.setCell ⟨g, 2, none⟩ (.slice A m c))) ∧ Ch (fun k => k = g) w (wr.setCell ⟨g, 2, none⟩ (.slice A m c)) := by
  have hr := h0.below bel
  have glt := h0.lt g h0.fg
  have hs := grownSet wr g 2 (.slice A m c)
  have hsz : w.heap.size ≤ (wr.setCell ⟨g, 2, none⟩ (.slice A m c)).heap.size := Nat.le_trans bel.size hs.size
  refine ⟨hr.frozen 2, hr.c2, ⟨A, m, c, cs, box_set hr.box (by omega), ?_, hl, FlsR.map (fun _ _ _ _ r _ => own8_grown (r.below bel) hs (fun a ha e => own8_not (r.below bel) hr.box (by decide) a ha (by injection e))) (fun _ hf => up_mono hs.size hf) _ _ hf, .inl h0.fg, fun a ha => ?_, fun k hk => up_lt h0.lt hsz hk⟩, (Ch.of_below bel).then_grown hs (fun r e => by injection e with e; exact .inl (.inl e.symm))⟩
  · have o2 := OwnC.grown o hs (fun a ha e => by have := (OwnC.lt o a ha).1; injection e with e; omega)
    exact own_lower o2 (Nat.zero_le _)
  · have h1 := OwnC.lt o a ha
    exact .inr ⟨by omega, Nat.lt_of_lt_of_le h1.2 hs.size⟩
theorem PtAt.fin {g : Nat} {D : Dk} {A0 : Option Addr} {n0 cap0 : Nat} {cs0 : List Value} (h : PtAt w wr F gf v0 v1 v2 A m c fs) (h0 : RefAt w g D F A0 n0 cap0 cs0) :
    wr.frozen? ⟨g, 2, none⟩ = false ∧ wr.cell? ⟨g, 2, none⟩ = some (.slice A0 n0 cap0) ∧ RefIs (wr.setCell ⟨g, 2, none⟩ (.slice A m c)) g ⟨D.quota, D.left, fs⟩ (up F w (wr.setCell ⟨g, 2, none⟩ (.slice A m c))) ∧ Ch (fun k => k = g) w (wr.setCell ⟨g, 2, none⟩ (.slice A m c)) := by
  have lo := h.lo
  obtain ⟨cs, o, hl, hf⟩ := h.own
  exact fin_row h0 h.bel o (by omega) hl (FlsR.map (fun _ _ _ _ r _ => r) (fun _ hf => .inl hf) _ _ hf)
end

set_option maxHeartbeats 8000000 in
set_option maxRecDepth 100000 in
theorem refPutF_any (g : Nat) (D : Dk) (F : Nat → Prop) (A : Option Addr) (n cap : Nat) (cs : List Value) (f : Fl) (B : Option Addr) (nb cb : Nat) (w : World) (h : RefAt w g D F A n cap cs) (hn : n ≤ 1000) (rf : Own w 0 5 B nb cb f.b) (hB : ∀ a, B = some a → F a.block) :
    Calls Try.prog 51 #[.pointer (some ⟨g, 0, none⟩), .agg #[.string f.name, .slice B nb cb, .int .i64 f.safe]] w fun e w' => e = .returned (.tuple #[]) ∧ RefIs w' g ⟨D.quota, D.left, putF D.fs f⟩ (up F w w') ∧ Ch (fun k => k = g) w w' := by
  have HL := Go.Lib.hid h.len
  have H := Go.Lib.hid h
  have glt := h.lt g h.fg
  go_enter Try.func51, Try.ntmps51
  go_upto_region 1 with (fail)
  have e1 := FAt.new w (.string f.name) (.slice B nb cb) (.int .i64 f.safe)
  have b1 : Below w.heap.size w (w.alloc (.cells #[.string f.name, .slice B nb cb, .int .i64 f.safe] 73)) := (Below.refl _ _).alloc (Nat.le_refl _) _
  generalize w.alloc (.cells #[.string f.name, .slice B nb cb, .int .i64 f.safe] 73) = w1 at *
  go_upto_region 2 with (fail)
  have al : Below w1.heap.size w1 (w1.alloc (.cells #[] 73)) := (Below.refl _ _).alloc (Nat.le_refl _) _
  have s2 : PtAt w (w1.alloc (.cells #[] 73)) F w.heap.size (.string f.name) (.slice B nb cb) (.int .i64 f.safe) (some ⟨w1.heap.size, 0, none⟩) 0 0 (putS (D.fs.take 0) f).1 :=
    ⟨e1.below al, ⟨[], OwnC.empty w1 _ e1.lt, rfl, rfl⟩, below_chain b1 al, Nat.le_refl _⟩
  generalize w1.alloc (.cells #[] 73) = w2 at *
  clear e1 b1 al
  go_wp2_with fail
  go_loopw [4, 5, 6] (fun o d i wr => ∃ (j : Nat) (A' : Option Addr) (m c : Nat), j ≤ n ∧ o = .slice A' m c ∧ d = .bool (putS (D.fs.take j) f).2 ∧ i = .int .i64 j ∧ PtAt w wr F w.heap.size (.string f.name) (.slice B nb cb) (.int .i64 f.safe) A' m c (putS (D.fs.take j) f).1) (fun _ _ i _ => n - (intOf i).toNat)
  case atStart => exact ⟨0, _, 0, 0, Nat.zero_le _, rfl, rfl, rfl, s2⟩
  case round =>
    obtain ⟨j, A', m, c, hj, rfl, rfl, rfl, sr⟩ := hrel
    clear s2
    have k2 := bcell sr.bel h.c2
    by_cases hlt : j < n
    · obtain ⟨b, o, Bx, nx, cx, rfl, x0', x1', x2', rx, hx⟩ := h.files hlt
      have x0 := bcell sr.bel x0'
      have x1 := bcell sr.bel x1'
      have x2 := bcell sr.bel x2'
      have i1 : (j : Int) < n := by omega
      have hjl : j < D.fs.length := by rw [HL.out]; exact hlt
      have hml : (putS (D.fs.take j) f).1.length ≤ 1001 := by
        have := putS_len' (D.fs.take j) f
        have h2 : (D.fs.take j).length ≤ 1000 := by rw [List.length_take]; omega
        omega
      have HS := Go.Lib.hid (putS_snoc (f := f) hjl)
      have X0 := Go.Lib.hid x0'
      have X1 := Go.Lib.hid x1'
      have X2 := Go.Lib.hid x2'
      have K2 := Go.Lib.hid h.c2
      clear x0' x1' x2' hjl
      generalize D.fs.getD j noFl = x at *
      generalize putS (D.fs.take j) f = p at *
      obtain ⟨l, d⟩ := p
      simp only at sr hml
      have hmm : m ≤ 1001 := by
        obtain ⟨_, _, hl, _⟩ := sr.own
        omega
      have f0 := sr.box.c0
      clear hml
      go_upto_region 6 with (fail)
      go_cut [31] (fun v wx => v = .bool (!d && leN f.name x.name) ∧ ∃ k, wx = wr.drewN k)
      case first =>
        cases d with
        | true =>
          go_wp2_with fail
          go_quiet (fail)
          go_wp2_with fail
          go_meet
          exact ⟨rfl, _, rfl⟩
        | false =>
          cases hl : less f.name x.name with
          | true =>
            have hle : leN f.name x.name = true := by unfold leN; rw [hl]; rfl
            have HLE := Go.Lib.hid hle
            have e1 : Op.bytesLess f.name.toList x.name.toList = true := hl
            clear hl hle
            go_wp2_with fail
            go_quiet (fail)
            go_wp2_with fail
            go_meet
            exact ⟨by rw [HLE.out]; simp, _, rfl⟩
          | false =>
            have e1 : Op.bytesLess f.name.toList x.name.toList = false := hl
            cases he : eqN f.name x.name with
            | true =>
              have hle : leN f.name x.name = true := by unfold leN; rw [hl, he]; rfl
              have HLE := Go.Lib.hid hle
              have e2 : (f.name.toList == x.name.toList) = true := he
              clear hl hle he
              go_wp2_with fail
              go_quiet (fail)
              go_wp2_with fail
              go_meet
              exact ⟨by rw [HLE.out]; simp, _, rfl⟩
            | false =>
              have hle : leN f.name x.name = false := by unfold leN; rw [hl, he]; rfl
              have HLE := Go.Lib.hid hle
              have e2 : (f.name.toList == x.name.toList) = false := he
              clear hl hle he
              go_wp2_with fail
              go_quiet (fail)
              go_wp2_with fail
              go_meet
              exact ⟨by rw [HLE.out]; simp, _, rfl⟩
      case rest =>
        obtain ⟨rfl, q, rfl⟩ := hcut
        have bq : Below wr.heap.size wr (wr.drewN q) := bel_drewN (Below.refl _ _) q
        have sq := sr.below bq
        generalize wr.drewN q = wq at *
        clear k2 x0 x1 x2 f0 bq sr
        have HST : Hid (stp f (l, d) x = (if eqN x.name f.name = true then (if (!d && leN f.name x.name) = true then l ++ [f] else l) else (if (!d && leN f.name x.name) = true then l ++ [f] else l) ++ [x], d || (!d && leN f.name x.name))) := Go.Lib.hid (by
          unfold stp
          cases d <;> cases leN f.name x.name <;> rfl)
        generalize (!d && leN f.name x.name) = c1 at *
        go_upto_if 31 with (fail)
        go_cut [4, 5] (fun v4 v5 wx => ∃ A5 m5 c5, v4 = .slice A5 m5 c5 ∧ m5 ≤ m + 1 ∧ v5 = .bool (d || c1) ∧ PtAt w wx F w.heap.size (.string f.name) (.slice B nb cb) (.int .i64 f.safe) A5 m5 c5 (if c1 = true then l ++ [f] else l))
        case first =>
          cases c1 with
          | false =>
            go_wp2_with fail
            go_meet
            exact ⟨A', m, c, rfl, by omega, by simp, sq⟩
          | true =>
            have f0 := sq.box.c0
            have f1 := sq.box.c1
            have f2 := sq.box.c2
            have al : Below wq.heap.size wq (wq.alloc (.cells #[.string f.name, .slice B nb cb, .int .i64 f.safe] 73)) := (Below.refl _ _).alloc (Nat.le_refl _) _
            have s8 := sq.below al
            have d8 : RdC 3 (wq.alloc (.cells #[.string f.name, .slice B nb cb, .int .i64 f.safe] 73)) (some ⟨wq.heap.size, 0, none⟩) 1 1 [.string f.name, .slice B nb cb, .int .i64 f.safe] := RdC.new wq 73 [.string f.name, .slice B nb cb, .int .i64 f.safe] rfl (by decide)
            have big : w.heap.size + 1 ≤ (wq.alloc (.cells #[.string f.name, .slice B nb cb, .int .i64 f.safe] 73)).heap.size := s8.box.lt
            have h63 : m + 1 ≤ maxLen := by unfold maxLen; omega
            have hsz : (m + 1) * 48 ≤ 140737488355328 := by omega
            obtain ⟨cs8, oc, hl8, hf8⟩ := s8.own
            go_wp2_with (at_builtin; refine wpList_append_cells rfl (.tmp 32) (.tmp 34) 59 rfl 73 (.agg #[.string ⟨#[]⟩, .slice none 0 0, .int .i64 0]) 48 Try.underlying59 file_info rfl (by decide) rfl rfl oc d8 (fl_one _ _ _ _ _) h63 hsz big ?_; intro A9 c9 w9 o9 g9 _)
            go_meet
            exact ⟨A9, m + 1, c9, rfl, Nat.le_refl _, by simp, s8.more oc hl8 hf8 rf hB o9 g9⟩
        case rest =>
          obtain ⟨A5, m5, c5, rfl, hm5, rfl, s5⟩ := hcut
          generalize hl5 : (if c1 = true then l ++ [f] else l) = l5 at *
          generalize hd5 : (d || c1) = d5 at *
          clear sq hl5 hd5
          have k2 := bcell s5.bel K2.out
          have x0 := bcell s5.bel X0.out
          have x1 := bcell s5.bel X1.out
          have x2 := bcell s5.bel X2.out
          have f0 := s5.box.c0
          cases he : eqN x.name f.name with
          | true =>
            have e2 : (x.name.toList == f.name.toList) = true := he
            have HST2 : Hid (putS (D.fs.take (j + 1)) f = (l5, d5)) := Go.Lib.hid (by rw [HS.out, HST.out, he]; rfl)
            clear he HST HS X0 X1 X2 K2
            go_wp2_with fail
            go_quiet (fail)
            go_wp2_with fail
            go_roundw
            case rel => exact ⟨j + 1, A5, m5, c5, by omega, rfl, by rw [HST2.out], by go_num, by rw [HST2.out]; exact s5.below (bel_drewN (Below.refl _ _) _)⟩
            case measure => simp [intOf]; omega
          | false =>
            have e2 : (x.name.toList == f.name.toList) = false := he
            have HST2 : Hid (putS (D.fs.take (j + 1)) f = (l5 ++ [x], d5)) := Go.Lib.hid (by rw [HS.out, HST.out, he]; rfl)
            clear he HST HS
            go_upto_region 9 with (fail)
            go_cut [46] (fun v wx => v = .bool true ∧ ∃ k, wx = wc.drewN k)
            case first =>
              go_wp2_with fail
              go_quiet (fail)
              go_wp2_with fail
              go_meet
              exact ⟨rfl, _, rfl⟩
            case rest =>
              obtain ⟨rfl, qz, rfl⟩ := hcut
              have s6 := s5.below (bel_drewN (Below.refl _ _) qz)
              generalize wc.drewN qz = wz at *
              clear k2 x0 x1 x2 f0 s5
              have k2 := bcell s6.bel K2.out
              have x0 := bcell s6.bel X0.out
              have x1 := bcell s6.bel X1.out
              have x2 := bcell s6.bel X2.out
              have al : Below wz.heap.size wz (wz.alloc (.cells #[.string x.name, .slice Bx nx cx, .int .i64 x.safe] 73)) := (Below.refl _ _).alloc (Nat.le_refl _) _
              have s8 := s6.below al
              have d8 : RdC 3 (wz.alloc (.cells #[.string x.name, .slice Bx nx cx, .int .i64 x.safe] 73)) (some ⟨wz.heap.size, 0, none⟩) 1 1 [.string x.name, .slice Bx nx cx, .int .i64 x.safe] := RdC.new wz 73 [.string x.name, .slice Bx nx cx, .int .i64 x.safe] rfl (by decide)
              have big : w.heap.size + 1 ≤ (wz.alloc (.cells #[.string x.name, .slice Bx nx cx, .int .i64 x.safe] 73)).heap.size := s8.box.lt
              have h63 : m5 + 1 ≤ maxLen := by unfold maxLen; omega
              have hsz : (m5 + 1) * 48 ≤ 140737488355328 := by omega
              obtain ⟨cs8, oc, hl8, hf8⟩ := s8.own
              go_wp2_with (at_builtin; refine wpList_append_cells rfl (.tmp 47) (.tmp 55) 59 rfl 73 (.agg #[.string ⟨#[]⟩, .slice none 0 0, .int .i64 0]) 48 Try.underlying59 file_info rfl (by decide) rfl rfl oc d8 (fl_one _ _ _ _ _) h63 hsz big ?_; intro A9 c9 w9 o9 g9 _)
              go_roundw
              case rel => exact ⟨j + 1, A9, m5 + 1, c9, by omega, rfl, by rw [HST2.out], by go_num, by rw [HST2.out]; exact s8.more oc hl8 hf8 rx hx o9 g9⟩
              case measure => simp [intOf]; omega
    · obtain rfl : n = j := by omega
      have ht : D.fs.take n = D.fs := List.take_of_length_le (by rw [HL.out]; exact Nat.le_refl _)
      rw [ht] at sr ⊢
      have hml := putS_len' D.fs f
      have hmm : m ≤ 1001 := by
        obtain ⟨_, _, hl, _⟩ := sr.own
        have := HL.out
        omega
      have HPF : Hid (putF D.fs f = if (putS D.fs f).2 = true then (putS D.fs f).1 else (putS D.fs f).1 ++ [f]) := Go.Lib.hid rfl
      clear ht hml
      generalize putS D.fs f = p at *
      obtain ⟨l, d⟩ := p
      simp only at sr
      cases d with
      | true =>
        have hp : putF D.fs f = l := by rw [HPF.out]; rfl
        obtain ⟨z1, z2, z3, z4⟩ := sr.fin h
        have Z3 := Go.Lib.hid z3
        have Z4 := Go.Lib.hid z4
        have HP := Go.Lib.hid hp
        clear hp z3 z4
        go_wp2_with fail
        go_end0
        exact ⟨rfl, by rw [HP.out]; exact Z3.out, Z4.out⟩
      | false =>
        have hp : putF D.fs f = l ++ [f] := by rw [HPF.out]; rfl
        have HP := Go.Lib.hid hp
        have f0 := sr.box.c0
        have f1 := sr.box.c1
        have f2 := sr.box.c2
        have al : Below wr.heap.size wr (wr.alloc (.cells #[.string f.name, .slice B nb cb, .int .i64 f.safe] 73)) := (Below.refl _ _).alloc (Nat.le_refl _) _
        have s8 := sr.below al
        have d8 : RdC 3 (wr.alloc (.cells #[.string f.name, .slice B nb cb, .int .i64 f.safe] 73)) (some ⟨wr.heap.size, 0, none⟩) 1 1 [.string f.name, .slice B nb cb, .int .i64 f.safe] := RdC.new wr 73 [.string f.name, .slice B nb cb, .int .i64 f.safe] rfl (by decide)
        have big : w.heap.size + 1 ≤ (wr.alloc (.cells #[.string f.name, .slice B nb cb, .int .i64 f.safe] 73)).heap.size := s8.box.lt
        have h63 : m + 1 ≤ maxLen := by unfold maxLen; omega
        have hsz : (m + 1) * 48 ≤ 140737488355328 := by omega
        obtain ⟨cs8, oc, hl8, hf8⟩ := s8.own
        clear hp
        go_wp2_with (at_builtin; refine wpList_append_cells rfl (.tmp 59) (.tmp 61) 59 rfl 73 (.agg #[.string ⟨#[]⟩, .slice none 0 0, .int .i64 0]) 48 Try.underlying59 file_info rfl (by decide) rfl rfl oc d8 (fl_one _ _ _ _ _) h63 hsz big ?_; intro A9 c9 w9 o9 g9 _; obtain ⟨z1, z2, z3, z4⟩ := (s8.more oc hl8 hf8 rf hB o9 g9).fin h; have Z3 := Go.Lib.hid z3; have Z4 := Go.Lib.hid z4; clear z3 z4)
        go_end0
        exact ⟨rfl, by rw [HP.out]; exact Z3.out, Z4.out⟩

/-! ### A file taken away -/
def dropF (fs : List Fl) (s : ByteArray) : List Fl := fs.take (idxF fs s) ++ fs.drop (idxF fs s + 1)
theorem FlsR.one {w : World} {F : Nat → Prop} : ∀ (fs : List Fl) (cs : List Value), FlsR w F fs cs → ∀ v ∈ cs, v.oneCell' = true
  | [], cs, h, v, hv => by
    obtain rfl : cs = [] := h
    simp at hv
  | f :: fs, cs, ⟨B, nb, cb, cs', hc, _, _, h⟩, v, hv => by
    subst hc
    simp only [List.mem_cons] at hv
    rcases hv with rfl | rfl | rfl | hv
    · rfl
    · rfl
    · rfl
    · exact FlsR.one fs cs' h v hv

set_option maxHeartbeats 8000000 in
set_option maxRecDepth 100000 in
theorem refDrop_any (g : Nat) (D : Dk) (F : Nat → Prop) (A : Option Addr) (n cap : Nat) (cs : List Value) (s : ByteArray) (w : World) (h : RefAt w g D F A n cap cs) (hn : n ≤ 1000) (hs : idxF D.fs s < D.fs.length) :
    Calls Try.prog 50 #[.pointer (some ⟨g, 0, none⟩), .string s] w fun e w' => e = .returned (.tuple #[]) ∧ RefIs w' g ⟨D.quota, D.left, dropF D.fs s⟩ (up F w w') ∧ Ch (fun k => k = g) w w' := by
  have hl := h.len
  have hat : atI D.fs s = (idxF D.fs s : Int) := by unfold atI; rw [if_pos hs]
  have hdf : dropF D.fs s = D.fs.take (idxF D.fs s) ++ D.fs.drop (idxF D.fs s + 1) := rfl
  rw [hdf]
  clear hdf
  go_enter Try.func50, Try.ntmps50
  go_wp2_with fail
  refine (refAt_any g D F A n cap cs s w h).mono ?_
  rintro e w' ⟨rfl, rfl⟩
  rw [hat]
  generalize hK : idxF D.fs s = k at *
  have HK := Go.Lib.hid hK
  clear hat hK
  have hk : k < n := by omega
  have rA := OwnC.rd h.own
  obtain ⟨q1, d1⟩ := slice_hi (P := Try.prog) 59 73 Try.underlying59 elem_files file_size rA (m := k) (by omega)
  have q1' : ∀ W, (Instr.slice 59 (.slice A n cap) none (some (.int .i64 (k : Int))) none).run Try.prog W = .ok (.slice A k cap) W := q1
  obtain ⟨A2, q2, d2⟩ := slice_lo (P := Try.prog) 59 73 Try.underlying59 elem_files file_size rA (m := k + 1) (by omega)
  have ec : ((k + 1 : Nat) : Int) = (k : Int) + 1 := by omega
  rw [ec] at q2
  have t1 := FlsR.take _ _ k h.fls
  have t2 := FlsR.drop _ _ (k + 1) h.fls
  have al : Below w.heap.size w (w.alloc (.cells #[] 73)).drew := bel_drew ((Below.refl _ _).alloc (Nat.le_refl _) _)
  have o6 : OwnC 3 (w.alloc (.cells #[] 73)).drew w.heap.size 73 (some ⟨w.heap.size, 0, none⟩) 0 0 [] := OwnC.empty w _ (Nat.le_refl _)
  have d6 := RdC.below d1 al
  have k2 := h.c2
  have k6 := bcell al k2
  have h1a : 0 + k ≤ maxLen := by unfold maxLen; omega
  have h1b : (0 + k) * 48 ≤ 140737488355328 := by omega
  have h2a : k + (n - (k + 1)) ≤ maxLen := by unfold maxLen; omega
  have h2b : (k + (n - (k + 1))) * 48 ≤ 140737488355328 := by omega
  have one1 := FlsR.one _ _ t1
  have one2 := FlsR.one _ _ t2
  have HLEN : Hid ((D.fs.take k ++ D.fs.drop (k + 1)).length = k + (n - (k + 1))) := Go.Lib.hid (by rw [List.length_append, List.length_take, List.length_drop]; omega)
  have HF := Go.Lib.hid (FlsR.append _ _ _ _ t1 t2)
  have i3 : IntKind.i64.wrap ((k : Int) + 1) = (k : Int) + 1 := IntWalk.i64_in _ (by omega)
  have q2' : ∀ W, (Instr.slice 59 (.slice A n cap) (some (.int .i64 ((k : Int) + 1))) none none).run Try.prog W = .ok (.slice A2 (n - (k + 1)) (cap - (k + 1))) W := q2
  clear t1 t2 q1 ec q2
  go_wp2_with fail
  go_region_law (first
    | (refine step_append_cells (by rfl) (.tmp 16) (.tmp 23) 59 rfl 73 (.agg #[.string ⟨#[]⟩, .slice none 0 0, .int .i64 0]) 48 Try.underlying59 file_info rfl (by decide) rfl rfl o10 d10 one2 h2a h2b b10.size ?_; intro A12 c12 w12 o12 g12 e12; have b12 := below_grown_own o10 b10 g12 b10.size; obtain ⟨z1, z2, z3, z4⟩ := fin_row (fs := D.fs.take k ++ D.fs.drop (k + 1)) h b12 o12 (Nat.le_refl _) HLEN.out (FlsR.map (fun _ _ _ _ r _ => r) (fun _ hf => .inl hf) _ _ (by simpa using HF.out)); have Z3 := Go.Lib.hid z3; have Z4 := Go.Lib.hid z4; clear z3 z4)
    | (refine step_append_cells (by rfl) (.tmp 9) (.tmp 15) 59 rfl 73 (.agg #[.string ⟨#[]⟩, .slice none 0 0, .int .i64 0]) 48 Try.underlying59 file_info rfl (by decide) rfl rfl o6 d6 one1 h1a h1b al.size ?_; intro A10 c10 w10 o10 g10 e10; rw [Nat.zero_add] at o10; have b10 := below_grown_own o6 al g10 al.size; have k10 := bcell b10 k2; have d10 := RdC.below d2 b10))
  all_goals
    go_wp2_with fail
    go_end0
    rw [HK.out]
    exact ⟨rfl, Z3.out, Z4.out⟩

end Go.Proofs.Ytfdhfjmmmjhgbaa.DkWalk

/-
  Contract of the document's answer of layer 8: Append.
-/
namespace Go.Proofs.Ytfdhfjmmmjhgbaa.DkWalk
open Go.RowKit Go.Proofs.Ytfdhfjmmmjhgbaa.MemRow Go.Proofs.Ytfdhfjmmmjhgbaa.Ev Go.Proofs.Ytfdhfjmmmjhgbaa.NameMath Go.Proofs.Ytfdhfjmmmjhgbaa.NameWalk Go.Proofs.Ytfdhfjmmmjhgbaa.EvWalk Go.Proofs.Ytfdhfjmmmjhgbaa.NumMem

theorem u8_info : (Try.prog.info? 5).map (fun i => (i.zero, i.size, i.bytes)) = some (some (.int .u8 0), 1, 1) := by kernel_rfl
/-- append(v, x...), v of the call's own, inside a region that draws its order. -/
theorem step_append_more {P : Program} {w : World} {base : Nat} {A : Option Addr} {n cap : Nat} {l : List UInt8} {ops : Array Oper} {o : Oper} {a : Act} {K : Act → World → Prop} {Q : Exit → Act → World → Prop} {E : Prop} (hw : Region.wanted o (yielded ops a.tmps) = true) (s x : Operand) (T : TypeId)
    (ho : o.op = .call { callee := .builtin .append, args := #[s, x], argTypes := #[T, T] }) (e : TypeId) (hT : P.underlying T = some (.slice e)) (hi : (P.info? e).map (fun i => (i.zero, i.size, i.bytes)) = some (some (.int .u8 0), 1, 1))
    (hs : a.eval s = .slice A n cap) {B : Option Addr} {m c : Nat} {k : List UInt8} (hx : a.eval x = .slice B m c) (hown : Own w base e A n cap l) (hr : Rd w B m c k) (hsz : n + m ≤ 140737488355328) (hbase : base ≤ w.heap.size) (w0 : World) (hb : Below base w0 w)
    (h : ∀ A' cap' w', Own w' base e A' (n + m) cap' (l ++ k) → Below base w0 w' → K (a.put o.dst (.slice A' (n + m) cap')) w') :
    if Region.wanted o (yielded ops a.tmps) = true then Oper.wp P o a w K Q else E :=
  step_append_bytes hw s x T ho e hT hi hs hx hown hr hsz hbase fun A' cap' w' h2 h3 =>
    h A' cap' w' h2 (hb.grown h3 hbase (fun g hg => (World.ownsRow.lt hown g hg).1))

/-- What stands of a disk's numbers, always. -/
structure DkOk (D : Dk) : Prop where
  len : D.fs.length ≤ 200
  fls : ∀ f ∈ D.fs, f.b.length ≤ 65536 ∧ f.safe ≤ f.b.length
  left : -1 ≤ D.left ∧ D.left ≤ 9223372036854775807
  quota : 0 ≤ D.quota ∧ D.quota ≤ 9223372036854775807
theorem burn_ok {D : Dk} (h : DkOk D) : DkOk (burnD D) := ⟨h.len, h.fls, by
  have := h.left
  unfold burnD
  simp only
  split <;> omega, h.quota⟩
/-- What a call that answers with a number comes to. -/
def Did (c : Int) (D' : Dk) (g : Nat) (F : Nat → Prop) (w : World) (e : Ending) (w' : World) : Prop := e = .returned (.int .i64 c) ∧ RefIs w' g D' (up F w w') ∧ Ch F w w'
theorem Did.of {c : Int} {D' : Dk} {g : Nat} {F : Nat → Prop} {w w' : World} {A : Option Addr} {n cap : Nat} {cs : List Value} (h : RefAt w' g D' F A n cap cs) (hl : ∀ k, F k → k < w.heap.size) (hc : Ch F w w') : Did c D' g F w (.returned (.int .i64 c)) w' :=
  ⟨rfl, ⟨A, n, cap, cs, h.wide (fun _ hf => .inl hf) (fun _ hk => up_lt hl hc.size hk)⟩, hc⟩

def fileOf (fs : List Fl) (s : ByteArray) : Fl := if idxF fs s < fs.length then fs.getD (idxF fs s) noFl else ⟨s, [], 0⟩
def appendC (D : Dk) (s : ByteArray) (b : List UInt8) : Int × Dk :=
  if mayN s = false then (5, D)
  else if 65536 < (fileOf D.fs s).b.length + b.length ∨ (¬ idxF D.fs s < D.fs.length ∧ 200 ≤ D.fs.length) then (3, D)
  else if D.quota < (usedF D.fs + b.length : Nat) then (10, D)
  else (0, ⟨D.quota, D.left, putF D.fs ⟨s, (fileOf D.fs s).b ++ b, (fileOf D.fs s).safe⟩⟩)
def appendD (D : Dk) (s : ByteArray) (b : List UInt8) : Int × Dk := if D.left = 0 then (14, D) else appendC (burnD D) s b
theorem refUsed_bel (g : Nat) (D : Dk) (F : Nat → Prop) (A : Option Addr) (n cap : Nat) (cs : List Value) (w : World) (h : RefAt w g D F A n cap cs) (hn : n ≤ 1000) (hb : ∀ f ∈ D.fs, f.b.length ≤ 65536) :
    Calls Try.prog 25 #[.pointer (some ⟨g, 0, none⟩)] w fun e w' => e = .returned (.int .i64 (usedF D.fs : Nat)) ∧ Below w.heap.size w w' := by
  refine (refUsed_any g D F A n cap cs w h hn hb).mono ?_
  rintro e w' ⟨rfl, rfl⟩
  exact ⟨rfl, Below.refl _ _⟩
theorem FAt.all {w : World} {g : Nat} {v0 v1 v2 : Value} (h : FAt w g v0 v1 v2) (x0 x1 x2 : Value) : FAt (((w.setCell ⟨g, 0, none⟩ x0).setCell ⟨g, 1, none⟩ x1).setCell ⟨g, 2, none⟩ x2) g x0 x1 x2 := by
  unfold FAt at h ⊢
  simp only [World.setCell, Array.getElem?_modify, h]
  rfl
theorem bel_all3 {w a : World} {B : Nat} (h : Below B a w) {g : Nat} (hg : B ≤ g) (x0 x1 x2 : Value) : Below B a (((w.setCell ⟨g, 0, none⟩ x0).setCell ⟨g, 1, none⟩ x1).setCell ⟨g, 2, none⟩ x2) :=
  ((h.setCell hg _).setCell hg _).setCell hg _

set_option maxHeartbeats 8000000 in
set_option maxRecDepth 100000 in
theorem refAppendC_any (g : Nat) (D : Dk) (F : Nat → Prop) (s : ByteArray) (Bb : Option Addr) (m cb : Nat) (b : List UInt8) (w : World) (h : RefIs w g D F) (ok : DkOk D) (hs : s.size ≤ maxLen) (rb : Rd w Bb m cb b) (hm : m ≤ 1000000) :
    Calls Try.prog 43 #[.pointer (some ⟨g, 0, none⟩), .string s, .slice Bb m cb] w (fun e w' => Did (appendD D s b).1 (appendD D s b).2 g F w e w') := by
  obtain ⟨A, n, cap, cs, h⟩ := h
  have HLT := Go.Lib.hid h.lt
  have hbl := rb.len
  generalize hR : appendD D s b = R
  have HR := Go.Lib.hid hR
  clear hR
  go_enter Try.func43, Try.ntmps43
  go_wp2_with fail
  refine (refBurn_any g D F A n cap cs w h ok.left).mono ?_
  rintro e w1 ⟨rfl, h1, g1⟩
  have rb1 := Rd.grown rb g1 h.apart.2
  have c1 : Ch F w w1 := Ch.of_grown g1 (fun r e => by injection e with e; subst e; exact .inl h.fg)
  by_cases h0 : D.left = 0
  · have hb0 : burnD D = D := by
      unfold burnD
      rw [if_neg (by omega)]
    rw [hb0] at h1
    obtain rfl : R = (14, D) := by rw [← HR.out]; unfold appendD; rw [if_pos h0]
    rw [decide_eq_true h0]
    have HD := Go.Lib.hid (Did.of (c := 14) h1 HLT.out c1)
    clear HR h1 c1 g1 h0 hb0
    go_wp2_with fail
    go_ret
    exact HD.out
  rw [decide_eq_false h0]
  have HR1 : Hid (appendC (burnD D) s b = R) := Go.Lib.hid (by rw [← HR.out]; unfold appendD; rw [if_neg h0])
  have ok1 := burn_ok ok
  clear HR h0 h ok rb g1
  generalize burnD D = D1 at *
  go_wp2_with fail
  refine (refMayN_any s w1 hs).mono ?_
  rintro e w' ⟨rfl, rfl⟩
  cases hmay : mayN s with
  | false =>
    obtain rfl : R = (5, D1) := by rw [← HR1.out]; unfold appendC; rw [if_pos hmay]
    have HD := Go.Lib.hid (Did.of (c := 5) h1 HLT.out c1)
    clear HR1 h1 c1 hmay
    go_wp2_with fail
    go_ret
    exact HD.out
  | true =>
    have HR2 : Hid ((if 65536 < (fileOf D1.fs s).b.length + b.length ∨ (¬ idxF D1.fs s < D1.fs.length ∧ 200 ≤ D1.fs.length) then (3, D1) else if D1.quota < (usedF D1.fs + b.length : Nat) then (10, D1) else (0, ⟨D1.quota, D1.left, putF D1.fs ⟨s, (fileOf D1.fs s).b ++ b, (fileOf D1.fs s).safe⟩⟩)) = R) := Go.Lib.hid (by
      rw [← HR1.out]
      unfold appendC
      rw [if_neg (show ¬ mayN s = false by rw [hmay]; decide)])
    clear HR1 hmay
    go_wp2_with fail
    refine (refAt_any g D1 F A n cap cs s w1 h1).mono ?_
    rintro e w' ⟨rfl, rfl⟩
    have hn : n ≤ 200 := by rw [← h1.len]; exact ok1.len
    have HN := Go.Lib.hid h1.len
    have HFB := Go.Lib.hid (fun f hf => (ok1.fls f hf).1)
    have HAT : Hid (atI D1.fs s = if idxF D1.fs s < D1.fs.length then (idxF D1.fs s : Int) else -1) := Go.Lib.hid rfl
    have HFO : Hid (fileOf D1.fs s = if idxF D1.fs s < D1.fs.length then D1.fs.getD (idxF D1.fs s) noFl else ⟨s, [], 0⟩) := Go.Lib.hid rfl
    have HNM := Go.Lib.hid (fun h => idxF_name (fs := D1.fs) (s := s) h)
    generalize fileOf D1.fs s = f at *
    generalize atI D1.fs s = kz at *
    generalize hki : idxF D1.fs s = k at *
    clear hki
    have al : Below w1.heap.size w1 (w1.alloc (.cells #[.string s, .slice none 0 0, .int .i64 0] 73)) := (Below.refl _ _).alloc (Nat.le_refl _) _
    have x2 := FAt.new w1 (.string s) (.slice none 0 0) (.int .i64 0)
    go_upto_region 9 with (fail)
    generalize w1.alloc (.cells #[.string s, .slice none 0 0, .int .i64 0] 73) = w2 at *
    go_upto_if 24 with (fail)
    go_cut [9] (fun v wx => v = .int .i64 kz ∧ Below w1.heap.size w1 wx ∧ ∃ nm Bf nf cf, FAt wx w1.heap.size (.string nm) (.slice Bf nf cf) (.int .i64 f.safe) ∧ Rd w1 Bf nf cf f.b ∧ f.b.length ≤ 65536)
    case first =>
      have z0 := x2.frozen 0
      have z1 := x2.frozen 1
      have z2 := x2.frozen 2
      have y0 := x2.c0
      have y1 := x2.c1
      have y2 := x2.c2
      by_cases hk : k < D1.fs.length
      · obtain rfl : kz = (k : Int) := by rw [HAT.out, if_pos hk]
        obtain rfl : f = D1.fs.getD k noFl := by rw [HFO.out, if_pos hk]
        have h65 := HFB.out _ (fl_get hk)
        obtain ⟨bo, o, B, nb, cb', rfl, x0', x1', x2', rB, _⟩ := h1.files (i := k) (by rw [← h1.len]; exact hk)
        have k2 := bcell al h1.c2
        have q0 := bcell al x0'
        have q1 := bcell al x1'
        have q2 := bcell al x2'
        have i0 : (0 : Int) ≤ k := by omega
        have i1 : (k : Int) < n := by rw [← h1.len]; omega
        have X := Go.Lib.hid (x2.all (.string (D1.fs.getD k noFl).name) (.slice B nb cb') (.int .i64 (D1.fs.getD k noFl).safe))
        have BB := Go.Lib.hid (bel_all3 al (Nat.le_refl w1.heap.size) (.string (D1.fs.getD k noFl).name) (.slice B nb cb') (.int .i64 (D1.fs.getD k noFl).safe))
        have RB := Go.Lib.hid rB.rd
        have H65 := Go.Lib.hid h65
        clear HAT HFO HNM HFB HR2 rB h65 x0' x1' x2'
        generalize D1.fs.getD k noFl = f at *
        go_wp2_with fail
        go_meet
        exact ⟨rfl, BB.out, _, _, _, _, X.out, RB.out, H65.out⟩
      · obtain rfl : kz = -1 := by rw [HAT.out, if_neg hk]
        obtain rfl : f = ⟨s, [], 0⟩ := by rw [HFO.out, if_neg hk]
        clear HAT HFO HNM HFB HR2
        go_wp2_with fail
        go_meet
        exact ⟨rfl, al, _, _, _, _, x2, Rd.nil _, by simp⟩
    case rest =>
      obtain ⟨rfl, bwc, nm, Bf, nf, cf, xc, rf1, hf65⟩ := hcut
      clear x2 al
      have hc := h1.below bwc
      have cc := c1.then_below bwc
      have k2 := hc.c2
      have y1 := xc.c1
      have hnf := rf1.len
      have hD1 := HN.out
      go_upto_region 11 with (fail)
      go_cut [50] (fun v wx => v = .bool (decide (65536 < f.b.length + b.length ∨ (¬ k < D1.fs.length ∧ 200 ≤ D1.fs.length))) ∧ wc = wx)
      case first =>
        by_cases hbig : 65536 < f.b.length + b.length
        · have hd : decide (65536 < f.b.length + b.length ∨ (¬ k < D1.fs.length ∧ 200 ≤ D1.fs.length)) = true := decide_eq_true (.inl hbig)
          have HD := Go.Lib.hid hd
          have i0 : (65536 : Int) < (nf : Int) + m := by omega
          clear hd HR2 HAT HFO HNM hbig
          go_wp2_with fail
          go_meet
          exact ⟨by rw [HD.out], rfl⟩
        · have i0 : ¬ (65536 : Int) < (nf : Int) + m := by omega
          by_cases hk : k < D1.fs.length
          · have hd : decide (65536 < f.b.length + b.length ∨ (¬ k < D1.fs.length ∧ 200 ≤ D1.fs.length)) = false := decide_eq_false (fun h => by rcases h with h | h; exact hbig h; exact h.1 hk)
            have HD := Go.Lib.hid hd
            have i1 : ¬ kz < 0 := by rw [HAT.out, if_pos hk]; omega
            clear hd HR2 HAT HFO HNM hbig hk
            go_wp2_with fail
            go_meet
            exact ⟨by rw [HD.out], rfl⟩
          · have i1 : kz < 0 := by rw [HAT.out, if_neg hk]; decide
            by_cases h2 : 200 ≤ n
            · have hd : decide (65536 < f.b.length + b.length ∨ (¬ k < D1.fs.length ∧ 200 ≤ D1.fs.length)) = true := decide_eq_true (.inr ⟨hk, by omega⟩)
              have HD := Go.Lib.hid hd
              have i2 : (200 : Int) ≤ n := by omega
              clear hd HR2 HAT HFO HNM hbig hk
              go_wp2_with fail
              go_meet
              exact ⟨by rw [HD.out], rfl⟩
            · have hd : decide (65536 < f.b.length + b.length ∨ (¬ k < D1.fs.length ∧ 200 ≤ D1.fs.length)) = false := decide_eq_false (fun h => by rcases h with h | h; exact hbig h; omega)
              have HD := Go.Lib.hid hd
              have i2 : ¬ (200 : Int) ≤ n := by omega
              clear hd HR2 HAT HFO HNM hbig hk
              go_wp2_with fail
              go_meet
              exact ⟨by rw [HD.out], rfl⟩
      case rest =>
        obtain ⟨rfl, rfl⟩ := hcut
        by_cases hbig : 65536 < f.b.length + b.length ∨ (¬ k < D1.fs.length ∧ 200 ≤ D1.fs.length)
        · obtain rfl : R = (3, D1) := by rw [← HR2.out, if_pos hbig]
          rw [decide_eq_true hbig]
          have HD := Go.Lib.hid (Did.of (c := 3) hc HLT.out cc)
          clear HR2 hbig HAT HFO HNM
          go_wp2_with fail
          go_ret
          exact HD.out
        · rw [decide_eq_false hbig]
          have HR3 : Hid ((if D1.quota < (usedF D1.fs + b.length : Nat) then (10, D1) else (0, ⟨D1.quota, D1.left, putF D1.fs ⟨s, f.b ++ b, f.safe⟩⟩)) = R) := Go.Lib.hid (by rw [← HR2.out, if_neg hbig])
          have hsum : f.b.length + b.length ≤ 65536 := by omega
          have hu := usedF_le (fs := D1.fs) HFB.out
          have hq := ok1.quota
          clear HR2 hbig HAT HFO HNM k2 y1
          have k0 := hc.c0
          have b0 : Below wc.heap.size wc wc.drew := bel_drew (Below.refl _ _)
          have hcd := hc.below b0
          generalize hU : usedF D1.fs = U at *
          have HU := Go.Lib.hid hU
          clear hU
          have hw : IntKind.i64.wrap ((U : Int) + m) = (U : Int) + m := IntWalk.i64_in _ (by omega)
          go_wp2_with fail
          go_region_held (fun w' => w'.cell? ⟨g, 0, none⟩ = some (.int .i64 D1.quota))
            (first | exact k0 | exact bcell b8 k0)
            (first | (go_at_call 25; refine (refUsed_bel g D1 F A n cap cs wc.drew hcd (by omega) HFB.out).mono ?_; rintro e w8 ⟨rfl, bb⟩; rw [HU.out]; have b8 := below_chain b0 bb; clear bb))
          have h8 := hc.below b8
          have c8 := cc.then_below b8
          have x8 := xc.below b8
          have B8 := below_chain bwc b8
          clear k0 b0 hcd hc cc xc bwc b8
          by_cases hov : D1.quota < (U + b.length : Nat)
          · obtain rfl : R = (10, D1) := by rw [← HR3.out, if_pos hov]
            have HD := Go.Lib.hid (Did.of (c := 10) h8 HLT.out c8)
            have i3 : D1.quota < (U : Int) + m := by omega
            clear HR3 hov
            go_wp2_with fail
            go_ret
            exact HD.out
          · have hR4 : (0, ⟨D1.quota, D1.left, putF D1.fs ⟨s, f.b ++ b, f.safe⟩⟩) = R := by rw [← HR3.out, if_neg hov]
            have i3 : ¬ D1.quota < (U : Int) + m := by omega
            clear HR3 hov
            subst hR4
            have r8 := rf1.below B8
            have p8 := rb1.below B8
            have f1 := x8.c1
            have f2 := x8.c2
            have bd1 : Below w8.heap.size w8 (w8.alloc (.cells #[] 5)).drew := bel_drew ((Below.refl _ _).alloc (Nat.le_refl _) _)
            have ow1 : Own (w8.alloc (.cells #[] 5)).drew w8.heap.size 5 (some ⟨w8.heap.size, 0, none⟩) 0 0 [] := Own.empty w8 5 (Nat.le_refl _)
            have rd1 := r8.below bd1
            have e1 := x8.below bd1
            have wz8 : w.heap.size ≤ w8.heap.size := c8.size
            have wz1 : w.heap.size ≤ w1.heap.size := c1.size
            have xlt := x8.lt
            have hn8 : ∀ k, F k → k < w8.heap.size := fun k hk => Nat.lt_of_lt_of_le (HLT.out k hk) wz8
            have HN8 := Go.Lib.hid hn8
            have hxF : ¬ w1.heap.size = g := fun hf => by have := HLT.out _ h1.fg; omega
            clear hn8
            go_wp2_with fail
            go_region_held_law (fun w' => w'.cell? ⟨w1.heap.size, 1, none⟩ = some (.slice Bf nf cf) ∧ w'.cell? ⟨w1.heap.size, 2, none⟩ = some (.int .i64 f.safe))
              (first | exact ⟨f1, f2⟩ | exact ⟨e1.c1, e1.c2⟩ | exact ⟨x5.c1, x5.c2⟩ | exact ⟨x6.c1, x6.c2⟩ | exact ⟨x9.c1, x9.c2⟩)
              (first
                | (refine step_append_fresh (by rfl) (.tmp 63) (.tmp 65) 33 rfl 5 Try.underlying33 u8_info rfl rfl ow1 rd1 (by omega) bd1.size w8 bd1 ?_; intro A5 c5 w5 o5 b5; have x5 := x8.below b5; (try go_simp))
                | (refine step_append_more (by rfl) (.tmp 66) (.tmp 67) 33 rfl 5 Try.underlying33 u8_info rfl rfl o5 (p8.below b5) (by omega) b5.size w8 b5 ?_; intro A6 c6 w6 o6 b6; have x6 := x8.below b6; have h6 := (h8.below b6).wide (G := up F w8 w6) (fun _ hf => .inl hf) (fun _ hk => up_lt HN8.out b6.size hk); (try go_simp))
                | (go_simp; go_at_call 51; refine (refPutF_any g D1 (up F w8 w6) A n cap cs ⟨s, f.b ++ b, f.safe⟩ A6 (nf + m) c6 w6 h6 (by omega) (own8_lower o6) (fun a ha => by subst ha; have := World.ownsRow.lt o6 a.block rfl; exact .inr this)).mono ?_; rintro e w9 ⟨rfl, r9, c9⟩; have x9 : FAt w9 w1.heap.size (.string nm) (.slice Bf nf cf) (.int .i64 f.safe) := (c9.block _ x6.lt hxF).trans x6))
            have C9 : Ch F w w9 := (c8.then_below b6).trans (c9.wide (fun k hk => .inl (by rw [hk]; exact h1.fg)))
            have R9 : RefIs w9 g ⟨D1.quota, D1.left, putF D1.fs ⟨s, f.b ++ b, f.safe⟩⟩ (up F w w9) := by
              obtain ⟨A', n', cap', cs', hh⟩ := r9
              refine ⟨A', n', cap', cs', hh.wide (fun k hk => ?_) (fun k hk => up_lt HLT.out C9.size hk)⟩
              have h2 := up_up b6.size c9.size hk
              rcases h2 with h2 | h2
              · exact .inl h2
              · exact .inr ⟨by omega, h2.2⟩
            have HD := Go.Lib.hid (show Did 0 ⟨D1.quota, D1.left, putF D1.fs ⟨s, f.b ++ b, f.safe⟩⟩ g F w (.returned (.int .i64 0)) w9 from ⟨rfl, R9, C9⟩)
            clear C9 R9 r9 c9
            go_wp2_with fail
            go_ret
            exact HD.out

end Go.Proofs.Ytfdhfjmmmjhgbaa.DkWalk

/-
  Contracts of the document's answers of layer 8: Read, List, Fuse, Remove, Rename, Sync.
-/
namespace Go.Proofs.Ytfdhfjmmmjhgbaa.DkWalk
open Go.RowKit Go.Proofs.Ytfdhfjmmmjhgbaa.MemRow Go.Proofs.Ytfdhfjmmmjhgbaa.Ev Go.Proofs.Ytfdhfjmmmjhgbaa.NameMath Go.Proofs.Ytfdhfjmmmjhgbaa.NameWalk Go.Proofs.Ytfdhfjmmmjhgbaa.EvWalk Go.Proofs.Ytfdhfjmmmjhgbaa.NumMem

theorem RefIs.wide {w : World} {g : Nat} {D : Dk} {F G : Nat → Prop} (h : RefIs w g D F) (hs : ∀ k, F k → G k) (hl : ∀ k, G k → k < w.heap.size) : RefIs w g D G := by
  obtain ⟨A, n, cap, cs, h⟩ := h
  exact ⟨A, n, cap, cs, h.wide hs hl⟩
/-- A call's steps, joined. -/
theorem Did.join {c : Int} {D' : Dk} {g : Nat} {F : Nat → Prop} {w w1 w' : World} (c1 : Ch F w w1) (hlt : ∀ k, F k → k < w.heap.size) (hg : F g) (r : RefIs w' g D' (up F w1 w')) (c2 : Ch (fun k => k = g) w1 w') : Did c D' g F w (.returned (.int .i64 c)) w' :=
  have hc := c1.trans (c2.wide (fun _ hk => .inl (by rw [hk]; exact hg)))
  ⟨rfl, r.wide (fun k hk => by
    rcases hk with hk | hk
    · exact .inl hk
    · exact .inr ⟨Nat.le_trans c1.size hk.1, hk.2⟩) (fun k hk => up_lt hlt hc.size hk), hc⟩

def readC (D : Dk) (s : ByteArray) : Int := if idxF D.fs s < D.fs.length then 0 else 11
def readB (D : Dk) (s : ByteArray) : List UInt8 := if idxF D.fs s < D.fs.length then (D.fs.getD (idxF D.fs s) noFl).b else []
set_option maxHeartbeats 4000000 in
set_option maxRecDepth 100000 in
theorem refRead_any (g : Nat) (D : Dk) (F : Nat → Prop) (s : ByteArray) (w : World) (h : RefIs w g D F) (ok : DkOk D) :
    Calls Try.prog 27 #[.pointer (some ⟨g, 0, none⟩), .string s] w fun e w' => ∃ B m c, e = .returned (.tuple #[.slice B m c, .int .i64 (readC D s)]) ∧ Rd w' B m c (readB D s) ∧ Below w.heap.size w w' := by
  obtain ⟨A, n, cap, cs, h⟩ := h
  by_cases hk : idxF D.fs s < D.fs.length
  · have e1 : readC D s = 0 := by unfold readC; rw [if_pos hk]
    have e2 : readB D s = (D.fs.getD (idxF D.fs s) noFl).b := by unfold readB; rw [if_pos hk]
    have e3 : atI D.fs s = (idxF D.fs s : Int) := by unfold atI; rw [if_pos hk]
    have h65 := (ok.fls _ (fl_get hk)).1
    rw [e1, e2]
    go_enter Try.func27, Try.ntmps27
    go_wp2_with fail
    refine (refAt_any g D F A n cap cs s w h).mono ?_
    rintro e w' ⟨rfl, rfl⟩
    rw [e3]
    have hkn : idxF D.fs s < n := by rw [← h.len]; exact hk
    have al : Below w.heap.size w (w.alloc (.cells #[] 5)) := (Below.refl _ _).alloc (Nat.le_refl _) _
    have ha := h.below al
    obtain ⟨b, o, B, nb, cb, rfl, x0, x1, x2, rB, _⟩ := ha.files hkn
    have hnb := rB.len
    have k2 := ha.c2
    have i0 : (0 : Int) ≤ idxF D.fs s := by omega
    have i1 : (idxF D.fs s : Int) < n := by omega
    clear e1 e2 e3
    generalize hki : idxF D.fs s = k at *
    have HKI := Go.Lib.hid hki
    clear hki
    go_wp2_with (at_builtin; refine wpList_append_fresh rfl (.tmp 12) (.tmp 20) 33 rfl 5 Try.underlying33 u8_info rfl rfl (Own.empty w 5 (Nat.le_refl _)) rB.rd (by omega) al.size w al ?_; intro A5 c5 w5 o5 b5)
    go_ret2
    exact ⟨_, _, _, rfl, by rw [HKI.out]; exact o5.rd, b5⟩
  · have e1 : readC D s = 11 := by unfold readC; rw [if_neg hk]
    have e2 : readB D s = [] := by unfold readB; rw [if_neg hk]
    have e3 : atI D.fs s = -1 := by unfold atI; rw [if_neg hk]
    rw [e1, e2]
    go_enter Try.func27, Try.ntmps27
    go_wp2_with fail
    refine (refAt_any g D F A n cap cs s w h).mono ?_
    rintro e w' ⟨rfl, rfl⟩
    rw [e3]
    go_wp2_with fail
    go_ret2
    exact ⟨none, 0, 0, rfl, Rd.nil _, Below.refl _ _⟩

def names (fs : List Fl) : List ByteArray := fs.map (·.name)
theorem string_info : (Try.prog.info? 9).map (fun i => (i.zero, i.size, i.bytes)) = some (some (.string ByteArray.empty), 1, 16) := by kernel_rfl
set_option maxHeartbeats 4000000 in
set_option maxRecDepth 100000 in
theorem refList_any (g : Nat) (D : Dk) (F : Nat → Prop) (w : World) (h : RefIs w g D F) (ok : DkOk D) :
    Calls Try.prog 23 #[.pointer (some ⟨g, 0, none⟩)] w fun e w' => ∃ B m c, e = .returned (.slice B m c) ∧ RdS w' B m c (names D.fs) ∧ Below w.heap.size w w' := by
  obtain ⟨A, n, cap, cs, h⟩ := h
  have HL := Go.Lib.hid h.len
  have hn : n ≤ 200 := by rw [← h.len]; exact ok.len
  go_enter Try.func23, Try.ntmps23
  go_upto_region 2 with (fail)
  have b1 : Below w.heap.size w (w.alloc (.cells #[] 9)) := (Below.refl _ _).alloc (Nat.le_refl _) _
  have o1 : OwnC 1 (w.alloc (.cells #[] 9)) w.heap.size 9 (some ⟨w.heap.size, 0, none⟩) 0 0 (MemRow.strs (names (D.fs.take 0))) := OwnC.empty w _ (Nat.le_refl _)
  generalize w.alloc (.cells #[] 9) = w1 at *
  go_wp2_with fail
  go_loopw [3, 4] (fun o i wr => ∃ (j : Nat) (B : Option Addr) (c : Nat), j ≤ n ∧ o = .slice B j c ∧ i = .int .i64 j ∧ OwnC 1 wr w.heap.size 9 B j c (MemRow.strs (names (D.fs.take j))) ∧ Below w.heap.size w wr) (fun _ i _ => n - (intOf i).toNat)
  case atStart => exact ⟨0, _, 0, Nat.zero_le _, rfl, rfl, o1, b1⟩
  case round =>
    obtain ⟨j, B, c, hj, rfl, rfl, oq, bq⟩ := hrel
    clear o1 b1
    have hr := h.below bq
    have k2 := hr.c2
    by_cases hlt : j < n
    · obtain ⟨b, o, Bx, nx, cx, rfl, x0, x1, x2, rx, _⟩ := hr.files hlt
      have i1 : (j : Int) < n := by omega
      have hjl : j < D.fs.length := by rw [HL.out]; exact hlt
      have HT : Hid (MemRow.strs (names (D.fs.take (j + 1))) = MemRow.strs (names (D.fs.take j)) ++ MemRow.strs [(D.fs.getD j noFl).name]) := Go.Lib.hid (by rw [fl_take _ _ hjl, ← strs_append]; simp [names])
      clear rx hjl
      generalize (D.fs.getD j noFl).name = nm at *
      have al : Below wr.heap.size wr (wr.alloc (.cells #[.string nm] 9)) := (Below.refl _ _).alloc (Nat.le_refl _) _
      have o4 := OwnC.below oq al
      have b4 := below_chain bq al
      have d4 : RdC 1 (wr.alloc (.cells #[.string nm] 9)) (some ⟨wr.heap.size, 0, none⟩) 1 1 (MemRow.strs [nm]) := RdC.new wr 9 (MemRow.strs [nm]) rfl (by decide)
      have h63 : j + 1 ≤ maxLen := by unfold maxLen; omega
      have hsz : (j + 1) * 16 ≤ 140737488355328 := by omega
      go_wp2_with (at_builtin; refine wpList_append_cells rfl (.tmp 15) (.tmp 24) 38 rfl 9 (.string ByteArray.empty) 16 Try.underlying38 string_info rfl (by decide) rfl rfl o4 d4 (strs_one [nm]) h63 hsz b4.size ?_; intro A8 c8 w8 o8 g8 _)
      go_roundw
      case rel =>
        have low := fun r e => row_low o4 (r := r) e
        exact ⟨j + 1, A8, c8, by omega, rfl, by go_num, by rw [HT.out]; exact o8, b4.grown g8 b4.size (fun r e => low r e)⟩
      case measure => simp [intOf]; omega
    · obtain rfl : n = j := by omega
      have ht : D.fs.take n = D.fs := List.take_of_length_le (by rw [HL.out]; exact Nat.le_refl _)
      rw [ht] at oq
      go_wp2_with fail
      go_ret
      exact ⟨_, _, _, rfl, OwnC.rd oq, bq⟩

def fuseD (D : Dk) (k : Int) : Dk := ⟨D.quota, max k 0, D.fs⟩
set_option maxRecDepth 100000 in
theorem refFuse_any (g : Nat) (D : Dk) (F : Nat → Prop) (k : Int) (w : World) (h : RefIs w g D F) (hk : -9223372036854775808 ≤ k ∧ k ≤ 9223372036854775807) :
    Calls Try.prog 14 #[.pointer (some ⟨g, 0, none⟩), .int .i64 k] w fun e w' => e = .returned (.tuple #[]) ∧ RefIs w' g (fuseD D k) (up F w w') ∧ Ch F w w' := by
  obtain ⟨A, n, cap, cs, h⟩ := h
  have z1 := h.frozen 1
  have k1 := h.c1
  have hs := grownSet w g 1 (.int .i64 (max k 0))
  have hc : Ch F w (w.setCell ⟨g, 1, none⟩ (.int .i64 (max k 0))) := Ch.of_grown hs (fun r e => by injection e with e; subst e; exact .inl h.fg)
  have hr : RefIs (w.setCell ⟨g, 1, none⟩ (.int .i64 (max k 0))) g (fuseD D k) (up F w (w.setCell ⟨g, 1, none⟩ (.int .i64 (max k 0)))) := ⟨A, n, cap, cs, (h.setL (max k 0)).wide (fun _ hf => .inl hf) (fun _ hk => up_lt h.lt hc.size hk)⟩
  by_cases h0 : k ≤ 0
  · have hm : max k 0 = 0 := by omega
    rw [hm] at hc hr
    go_enter Try.func14, Try.ntmps14
    go_wp2
    go_end0
    exact ⟨rfl, hr, hc⟩
  · have hm : max k 0 = k := by omega
    rw [hm] at hc hr
    go_enter Try.func14, Try.ntmps14
    go_wp2
    go_end0
    exact ⟨rfl, hr, hc⟩

def removeC (D : Dk) (s : ByteArray) : Int × Dk := if idxF D.fs s < D.fs.length then (0, ⟨D.quota, D.left, dropF D.fs s⟩) else (11, D)
def removeD (D : Dk) (s : ByteArray) : Int × Dk := if D.left = 0 then (14, D) else removeC (burnD D) s
set_option maxHeartbeats 4000000 in
set_option maxRecDepth 100000 in
theorem refRemove_any (g : Nat) (D : Dk) (F : Nat → Prop) (s : ByteArray) (w : World) (h : RefIs w g D F) (ok : DkOk D) :
    Calls Try.prog 40 #[.pointer (some ⟨g, 0, none⟩), .string s] w (fun e w' => Did (removeD D s).1 (removeD D s).2 g F w e w') := by
  obtain ⟨A, n, cap, cs, h⟩ := h
  have HLT := Go.Lib.hid h.lt
  generalize hR : removeD D s = R
  have HR := Go.Lib.hid hR
  clear hR
  go_enter Try.func40, Try.ntmps40
  go_wp2_with fail
  refine (refBurn_any g D F A n cap cs w h ok.left).mono ?_
  rintro e w1 ⟨rfl, h1, g1⟩
  have c1 : Ch F w w1 := Ch.of_grown g1 (fun r e => by injection e with e; subst e; exact .inl h.fg)
  by_cases h0 : D.left = 0
  · have hb0 : burnD D = D := by
      unfold burnD
      rw [if_neg (by omega)]
    rw [hb0] at h1
    obtain rfl : R = (14, D) := by rw [← HR.out]; unfold removeD; rw [if_pos h0]
    rw [decide_eq_true h0]
    have HD := Go.Lib.hid (Did.of (c := 14) h1 HLT.out c1)
    clear HR h1 c1 g1 h0 hb0
    go_wp2_with fail
    go_ret
    exact HD.out
  rw [decide_eq_false h0]
  have HR1 : Hid (removeC (burnD D) s = R) := Go.Lib.hid (by rw [← HR.out]; unfold removeD; rw [if_neg h0])
  have ok1 := burn_ok ok
  clear HR h0 h ok g1
  generalize burnD D = D1 at *
  go_wp2_with fail
  refine (refAt_any g D1 F A n cap cs s w1 h1).mono ?_
  rintro e w' ⟨rfl, rfl⟩
  have hn : n ≤ 1000 := by rw [← h1.len]; have := ok1.len; omega
  by_cases hk : idxF D1.fs s < D1.fs.length
  · have e3 : atI D1.fs s = (idxF D1.fs s : Int) := by unfold atI; rw [if_pos hk]
    obtain rfl : R = (0, ⟨D1.quota, D1.left, dropF D1.fs s⟩) := by rw [← HR1.out]; unfold removeC; rw [if_pos hk]
    rw [e3]
    have i0 : ¬ (idxF D1.fs s : Int) < 0 := by omega
    have HK := Go.Lib.hid hk
    clear HR1 e3 hk
    generalize hki : idxF D1.fs s = k at *
    have HKI := Go.Lib.hid hki
    clear hki
    go_wp2_with fail
    refine (refDrop_any g D1 F A n cap cs s w1 h1 hn (by rw [HKI.out]; exact HK.out)).mono ?_
    rintro e w2 ⟨rfl, r2, c2⟩
    have HD := Go.Lib.hid (Did.join (c := 0) c1 HLT.out h1.fg r2 c2)
    clear r2 c2 c1
    go_wp2_with fail
    go_ret
    exact HD.out
  · have e3 : atI D1.fs s = -1 := by unfold atI; rw [if_neg hk]
    obtain rfl : R = (11, D1) := by rw [← HR1.out]; unfold removeC; rw [if_neg hk]
    rw [e3]
    have HD := Go.Lib.hid (Did.of (c := 11) h1 HLT.out c1)
    clear HR1 e3 hk h1 c1
    go_wp2_with fail
    go_ret
    exact HD.out

end Go.Proofs.Ytfdhfjmmmjhgbaa.DkWalk

/-
  Contracts of the document's answers of layer 8: Rename, Sync.
-/
namespace Go.Proofs.Ytfdhfjmmmjhgbaa.DkWalk
open Go.RowKit Go.Proofs.Ytfdhfjmmmjhgbaa.MemRow Go.Proofs.Ytfdhfjmmmjhgbaa.Ev Go.Proofs.Ytfdhfjmmmjhgbaa.NameMath Go.Proofs.Ytfdhfjmmmjhgbaa.NameWalk Go.Proofs.Ytfdhfjmmmjhgbaa.EvWalk Go.Proofs.Ytfdhfjmmmjhgbaa.NumMem

theorem dropF_len {fs : List Fl} {s : ByteArray} (h : idxF fs s < fs.length) : (dropF fs s).length + 1 = fs.length := by
  unfold dropF
  rw [List.length_append, List.length_take, List.length_drop]
  omega
def renameC (D : Dk) (a b : ByteArray) : Int × Dk :=
  if ¬ idxF D.fs a < D.fs.length then (11, D) else if mayN b = false then (5, D) else if idxF D.fs b < D.fs.length then (12, D)
  else (0, ⟨D.quota, D.left, putF (dropF D.fs a) ⟨b, (D.fs.getD (idxF D.fs a) noFl).b, (D.fs.getD (idxF D.fs a) noFl).safe⟩⟩)
def renameD (D : Dk) (a b : ByteArray) : Int × Dk := if D.left = 0 then (14, D) else renameC (burnD D) a b
theorem Did.then_box {c : Int} {D' : Dk} {g : Nat} {F : Nat → Prop} {w w1 w2 w' : World} (c1 : Ch F w w1) (hlt : ∀ k, F k → k < w.heap.size) (hg : F g) (c2 : Ch (fun k => k = g) w1 w2) (r : RefIs w' g D' (up (up F w1 w2) w2 w')) (c3 : Ch (fun k => k = g) w2 w') : Did c D' g F w (.returned (.int .i64 c)) w' := by
  have c12 : Ch (fun k => k = g) w1 w' := c2.trans (c3.wide (fun _ hk => .inl hk))
  exact Did.join c1 hlt hg (r.wide (fun k hk => up_up c2.size c3.size hk) (fun k hk => up_lt (fun k hk => Nat.lt_of_lt_of_le (hlt k hk) c1.size) c12.size hk)) c12

set_option maxHeartbeats 4000000 in
set_option maxRecDepth 100000 in
theorem refRename_any (g : Nat) (D : Dk) (F : Nat → Prop) (a b : ByteArray) (w : World) (h : RefIs w g D F) (ok : DkOk D) (hb : b.size ≤ maxLen) :
    Calls Try.prog 38 #[.pointer (some ⟨g, 0, none⟩), .string a, .string b] w (fun e w' => Did (renameD D a b).1 (renameD D a b).2 g F w e w') := by
  obtain ⟨A, n, cap, cs, h⟩ := h
  have HLT := Go.Lib.hid h.lt
  generalize hR : renameD D a b = R
  have HR := Go.Lib.hid hR
  clear hR
  go_enter Try.func38, Try.ntmps38
  go_wp2_with fail
  refine (refBurn_any g D F A n cap cs w h ok.left).mono ?_
  rintro e w1 ⟨rfl, h1, g1⟩
  have c1 : Ch F w w1 := Ch.of_grown g1 (fun r e => by injection e with e; subst e; exact .inl h.fg)
  by_cases h0 : D.left = 0
  · have hb0 : burnD D = D := by
      unfold burnD
      rw [if_neg (by omega)]
    rw [hb0] at h1
    obtain rfl : R = (14, D) := by rw [← HR.out]; unfold renameD; rw [if_pos h0]
    rw [decide_eq_true h0]
    have HD := Go.Lib.hid (Did.of (c := 14) h1 HLT.out c1)
    clear HR h1 c1 g1 h0 hb0
    go_wp2_with fail
    go_ret
    exact HD.out
  rw [decide_eq_false h0]
  have HR1 : Hid (renameC (burnD D) a b = R) := Go.Lib.hid (by rw [← HR.out]; unfold renameD; rw [if_neg h0])
  have ok1 := burn_ok ok
  clear HR h0 h ok g1
  generalize burnD D = D1 at *
  go_wp2_with fail
  refine (refAt_any g D1 F A n cap cs a w1 h1).mono ?_
  rintro e w' ⟨rfl, rfl⟩
  have hn : n ≤ 200 := by rw [← h1.len]; exact ok1.len
  by_cases hk : idxF D1.fs a < D1.fs.length
  · have e3 : atI D1.fs a = (idxF D1.fs a : Int) := by unfold atI; rw [if_pos hk]
    rw [e3]
    have i0 : ¬ (idxF D1.fs a : Int) < 0 := by omega
    have HK := Go.Lib.hid hk
    have HR2 : Hid ((if mayN b = false then (5, D1) else if idxF D1.fs b < D1.fs.length then (12, D1) else (0, ⟨D1.quota, D1.left, putF (dropF D1.fs a) ⟨b, (D1.fs.getD (idxF D1.fs a) noFl).b, (D1.fs.getD (idxF D1.fs a) noFl).safe⟩⟩)) = R) := Go.Lib.hid (by
      rw [← HR1.out]
      unfold renameC
      rw [if_neg (show ¬ ¬ idxF D1.fs a < D1.fs.length from fun h => h hk)])
    clear HR1 e3 hk
    generalize hki : idxF D1.fs a = k at *
    have HKI := Go.Lib.hid hki
    clear hki
    go_wp2_with fail
    refine (refMayN_any b w1 hb).mono ?_
    rintro e w' ⟨rfl, rfl⟩
    cases hmay : mayN b with
    | false =>
      obtain rfl : R = (5, D1) := by rw [← HR2.out, if_pos hmay]
      have HD := Go.Lib.hid (Did.of (c := 5) h1 HLT.out c1)
      clear HR2 hmay h1 c1
      go_wp2_with fail
      go_ret
      exact HD.out
    | true =>
      have HR3 : Hid ((if idxF D1.fs b < D1.fs.length then (12, D1) else (0, ⟨D1.quota, D1.left, putF (dropF D1.fs a) ⟨b, (D1.fs.getD k noFl).b, (D1.fs.getD k noFl).safe⟩⟩)) = R) := Go.Lib.hid (by
        rw [← HR2.out, if_neg (show ¬ mayN b = false by rw [hmay]; decide)])
      clear HR2 hmay
      go_wp2_with fail
      refine (refAt_any g D1 F A n cap cs b w1 h1).mono ?_
      rintro e w' ⟨rfl, rfl⟩
      by_cases hk2 : idxF D1.fs b < D1.fs.length
      · have e4 : atI D1.fs b = (idxF D1.fs b : Int) := by unfold atI; rw [if_pos hk2]
        rw [e4]
        obtain rfl : R = (12, D1) := by rw [← HR3.out, if_pos hk2]
        have i5 : (0 : Int) ≤ idxF D1.fs b := by omega
        have HD := Go.Lib.hid (Did.of (c := 12) h1 HLT.out c1)
        clear HR3 hk2 e4 h1 c1
        go_wp2_with fail
        go_ret
        exact HD.out
      · have e4 : atI D1.fs b = -1 := by unfold atI; rw [if_neg hk2]
        rw [e4]
        have hR4 : (0, ⟨D1.quota, D1.left, putF (dropF D1.fs a) ⟨b, (D1.fs.getD k noFl).b, (D1.fs.getD k noFl).safe⟩⟩) = R := by rw [← HR3.out, if_neg hk2]
        clear HR3 hk2 e4
        have hkl := HK.out
        have hkn : k < n := by rw [← h1.len]; exact hkl
        obtain ⟨bo, o, B, nb, cb, rfl, x0, x1, x2, rB, hB⟩ := h1.files hkn
        have k2 := h1.c2
        have i1 : (0 : Int) ≤ k := by omega
        have i2 : (k : Int) < n := by omega
        generalize D1.fs.getD k noFl = f at *
        subst hR4
        have al : Below w1.heap.size w1 (w1.alloc (.cells #[.string f.name, .slice B nb cb, .int .i64 f.safe] 73)) := (Below.refl _ _).alloc (Nat.le_refl _) _
        have q3 := FAt.new w1 (.string f.name) (.slice B nb cb) (.int .i64 f.safe)
        have h3 := h1.below al
        have c3 := c1.then_below al
        have rB3 := rB.below al
        go_upto_region 13 with (fail)
        generalize w1.alloc (.cells #[.string f.name, .slice B nb cb, .int .i64 f.safe] 73) = w3 at *
        clear x0 x1 x2 k2 rB
        have hlt1 : ∀ k, F k → k < w1.heap.size := h1.lt
        have HL1 := Go.Lib.hid hlt1
        clear hlt1
        go_wp2_with fail
        refine (refDrop_any g D1 F _ n cap cs a w3 h3 (by omega) (by rw [HKI.out]; exact HK.out)).mono ?_
        rintro e w4 ⟨rfl, ⟨A4, n4, cap4, cs4, h4⟩, c4⟩
        have hgF := h1.fg
        have glt := HL1.out g hgF
        have q4 : FAt w4 w1.heap.size (.string f.name) (.slice B nb cb) (.int .i64 f.safe) := (c4.block _ q3.lt (by omega)).trans q3
        have rB4 : Own w4 0 5 B nb cb f.b := own8_keep rB3 fun ad ha => c4.block _ (h3.lt _ (hB ad ha)) (own8_not rB3 h3.box (by decide) ad ha)
        have hn4 : n4 ≤ 1000 := by
          have h5 := h4.len
          have h6 := dropF_len (fs := D1.fs) (s := a) (by rw [HKI.out]; exact HK.out)
          have h7 := h1.len
          simp only at h5
          omega
        have f1 := q4.c1
        have f2 := q4.c2
        clear q3 h3 rB3
        go_wp2_with fail
        refine (refPutF_any g ⟨D1.quota, D1.left, dropF D1.fs a⟩ (up F w3 w4) A4 n4 cap4 cs4 ⟨b, f.b, f.safe⟩ B nb cb w4 h4 hn4 rB4 (fun ad ha => .inl (hB ad ha))).mono ?_
        rintro e w5 ⟨rfl, r5, c5⟩
        have HD := Go.Lib.hid (Did.then_box (c := 0) c3 HLT.out hgF c4 r5 c5)
        clear r5 c5 c4 c3 h4 f1 f2 q4
        go_wp2_with fail
        go_ret
        exact HD.out
  · have e3 : atI D1.fs a = -1 := by unfold atI; rw [if_neg hk]
    obtain rfl : R = (11, D1) := by rw [← HR1.out]; unfold renameC; rw [if_pos hk]
    rw [e3]
    have HD := Go.Lib.hid (Did.of (c := 11) h1 HLT.out c1)
    clear HR1 e3 hk h1 c1
    go_wp2_with fail
    go_ret
    exact HD.out

end Go.Proofs.Ytfdhfjmmmjhgbaa.DkWalk

/-
  Contracts of the document's answers of layer 8: Sync, Truncate, Turn, Crash.
-/
namespace Go.Proofs.Ytfdhfjmmmjhgbaa.DkWalk
open Go.RowKit Go.Proofs.Ytfdhfjmmmjhgbaa.MemRow Go.Proofs.Ytfdhfjmmmjhgbaa.Ev Go.Proofs.Ytfdhfjmmmjhgbaa.NameMath Go.Proofs.Ytfdhfjmmmjhgbaa.NameWalk Go.Proofs.Ytfdhfjmmmjhgbaa.EvWalk Go.Proofs.Ytfdhfjmmmjhgbaa.NumMem

/-- A cell of a call's own row is written. -/
theorem own_set {k : Nat} {w : World} {base : Nat} {t : TypeId} {A : Option Addr} {n cap blk : Nat} {cs : List Value} (h : OwnC k w base t A n cap cs) (hA : A = some ⟨blk, 0, none⟩) (i : Nat) (x : Value) : OwnC k (w.setCell ⟨blk, i, none⟩ x) base t A n cap (cs.set i x) := by
  subst hA
  refine ⟨by rw [List.length_set]; exact h.1, ?_⟩
  rcases h.2 with ⟨hv, _⟩ | ⟨g, c, cur, hv, hb, hg, h1, h2, h3, h4⟩
  · cases hv
  · injection hv with e1 e2 e3
    injection e1 with e1
    injection e1 with e1 _ _
    subst e1 e3
    refine .inr ⟨blk, cap, cur.setIfInBounds i x, rfl, hb, ?_, h1, h2, by rw [Array.size_setIfInBounds]; exact h3, ?_⟩
    · simp only [World.setCell, Array.getElem?_modify, hg]
      rfl
    · rw [Array.toList_setIfInBounds, List.take_set, h4]
theorem own_zero {k : Nat} {w : World} {base : Nat} {t : TypeId} {A : Option Addr} {n cap b o : Nat} {cs : List Value} (h : OwnC k w base t A n cap cs) (hA : A = some ⟨b, o, none⟩) : o = 0 ∧ (∀ i, w.frozen? ⟨b, i, none⟩ = false) ∧ ∃ x fr, w.heap[b]? = some (.cells x t fr) := by
  subst hA
  rcases h.2 with ⟨hv, _⟩ | ⟨g, c, cur, hv, _, hg, _⟩
  · cases hv
  · injection hv with e1 e2 e3
    injection e1 with e1
    injection e1 with e1 e4 _
    subst e1
    exact ⟨e4, fun i => by simp [World.frozen?, hg], _, _, hg⟩
theorem FlsR.set {w : World} {F : Nat → Prop} : ∀ (fs : List Fl) (cs : List Value) (j : Nat) (k : Nat), FlsR w F fs cs → j < fs.length → FlsR w F (fs.set j ⟨(fs.getD j noFl).name, (fs.getD j noFl).b, k⟩) (cs.set (j * 3 + 2) (.int .i64 k))
  | [], _, j, _, _, hj => by simp at hj
  | f :: fs, cs, 0, k, ⟨B, nb, cb, cs', hc, r, hb, h⟩, _ => by
    subst hc
    exact ⟨B, nb, cb, cs', rfl, r, hb, h⟩
  | f :: fs, cs, j + 1, k, ⟨B, nb, cb, cs', hc, r, hb, h⟩, hj => by
    subst hc
    have e3 : (j + 1) * 3 + 2 = (j * 3 + 2) + 3 := by omega
    rw [e3]
    exact ⟨B, nb, cb, cs'.set (j * 3 + 2) (.int .i64 k), by simp, r, hb, by simpa using FlsR.set fs cs' j k h (by simpa using hj)⟩

theorem Did.drew {c : Int} {D' : Dk} {g : Nat} {F : Nat → Prop} {w w' : World} {e : Ending} (h : Did c D' g F w e w') : Did c D' g F w e w'.drew := by
  obtain ⟨h1, ⟨A, n, cap, cs, h2⟩, h3⟩ := h
  have hb : Below w'.heap.size w' w'.drew := bel_drew (Below.refl _ _)
  exact ⟨h1, ⟨A, n, cap, cs, h2.below hb⟩, h3.then_below hb⟩
def syncF (fs : List Fl) (s : ByteArray) : List Fl := fs.set (idxF fs s) ⟨(fs.getD (idxF fs s) noFl).name, (fs.getD (idxF fs s) noFl).b, (fs.getD (idxF fs s) noFl).b.length⟩
def syncC (D : Dk) (s : ByteArray) : Int × Dk := if ¬ idxF D.fs s < D.fs.length then (11, D) else (0, ⟨D.quota, D.left, syncF D.fs s⟩)
def syncD (D : Dk) (s : ByteArray) : Int × Dk := if D.left = 0 then (14, D) else syncC (burnD D) s
/-- A file's number of safe bytes is written. -/
theorem RefAt.setS {w : World} {g : Nat} {D : Dk} {F : Nat → Prop} {A : Option Addr} {n cap b o : Nat} {cs : List Value} (h : RefAt w g D F A n cap cs) (hA : A = some ⟨b, o, none⟩) {j : Nat} (hj : j < D.fs.length) (k : Nat) :
    RefAt (w.setCell ⟨b, o + j * 3 + 2, none⟩ (.int .i64 k)) g ⟨D.quota, D.left, D.fs.set j ⟨(D.fs.getD j noFl).name, (D.fs.getD j noFl).b, k⟩⟩ F A n cap (cs.set (j * 3 + 2) (.int .i64 k)) ∧ Ch F w (w.setCell ⟨b, o + j * 3 + 2, none⟩ (.int .i64 k)) ∧ w.frozen? ⟨b, o + j * 3 + 2, none⟩ = false := by
  obtain ⟨rfl, hf, x, fr, hx⟩ := own_zero h.own hA
  have e0 : 0 + j * 3 + 2 = j * 3 + 2 := by omega
  rw [e0]
  have hs := grownSet w b (j * 3 + 2) (.int .i64 k)
  have hbF := h.fa _ hA
  have hne : b ≠ g := own_not h.own h.box (by decide) _ hA
  refine ⟨⟨(hs.block g (h.lt g h.fg) (fun e => hne (by injection e with e; exact e.symm))).trans h.box, own_set h.own hA _ _, by rw [List.length_set]; exact h.len, ?_, h.fg, h.fa, fun k hk => Nat.lt_of_lt_of_le (h.lt k hk) hs.size⟩, Ch.of_grown hs (fun r e => by injection e with e; subst e; exact .inl hbF), hf _⟩
  exact FlsR.set _ _ j k (FlsR.map (fun _ _ _ _ r _ => own8_grown r hs (fun a ha e => own8_not r hx (by decide) a ha (by injection e))) (fun _ hf => hf) _ _ h.fls) hj

set_option maxHeartbeats 4000000 in
set_option maxRecDepth 100000 in
theorem refSync_any (g : Nat) (D : Dk) (F : Nat → Prop) (s : ByteArray) (w : World) (h : RefIs w g D F) (ok : DkOk D) :
    Calls Try.prog 37 #[.pointer (some ⟨g, 0, none⟩), .string s] w (fun e w' => Did (syncD D s).1 (syncD D s).2 g F w e w') := by
  obtain ⟨A, n, cap, cs, h⟩ := h
  have HLT := Go.Lib.hid h.lt
  generalize hR : syncD D s = R
  have HR := Go.Lib.hid hR
  clear hR
  go_enter Try.func37, Try.ntmps37
  go_wp2_with fail
  refine (refBurn_any g D F A n cap cs w h ok.left).mono ?_
  rintro e w1 ⟨rfl, h1, g1⟩
  have c1 : Ch F w w1 := Ch.of_grown g1 (fun r e => by injection e with e; subst e; exact .inl h.fg)
  by_cases h0 : D.left = 0
  · have hb0 : burnD D = D := by
      unfold burnD
      rw [if_neg (by omega)]
    rw [hb0] at h1
    obtain rfl : R = (14, D) := by rw [← HR.out]; unfold syncD; rw [if_pos h0]
    rw [decide_eq_true h0]
    have HD := Go.Lib.hid (Did.of (c := 14) h1 HLT.out c1)
    clear HR h1 c1 g1 h0 hb0
    go_wp2_with fail
    go_ret
    exact HD.out
  rw [decide_eq_false h0]
  have HR1 : Hid (syncC (burnD D) s = R) := Go.Lib.hid (by rw [← HR.out]; unfold syncD; rw [if_neg h0])
  have ok1 := burn_ok ok
  clear HR h0 h ok g1
  generalize burnD D = D1 at *
  go_wp2_with fail
  refine (refAt_any g D1 F A n cap cs s w1 h1).mono ?_
  rintro e w' ⟨rfl, rfl⟩
  by_cases hk : idxF D1.fs s < D1.fs.length
  · have e3 : atI D1.fs s = (idxF D1.fs s : Int) := by unfold atI; rw [if_pos hk]
    have hR2 : (0, ⟨D1.quota, D1.left, syncF D1.fs s⟩) = R := by rw [← HR1.out]; unfold syncC; rw [if_neg (fun h => h hk)]
    unfold syncF at hR2
    rw [e3]
    have i0 : ¬ (idxF D1.fs s : Int) < 0 := by omega
    clear HR1 e3
    generalize idxF D1.fs s = k at *
    have hkn : k < n := by rw [← h1.len]; exact hk
    obtain ⟨b, o, B, nb, cb, hA, x0, x1, x2, rB, _⟩ := h1.files hkn
    obtain ⟨hs1, hs2, hz⟩ := h1.setS hA hk (D1.fs.getD k noFl).b.length
    have HS1 := Go.Lib.hid hs1
    have HS2 := Go.Lib.hid hs2
    have hnb := rB.len
    rw [hnb] at HS1 HS2 hR2
    have k2 := h1.c2
    have i1 : (0 : Int) ≤ k := by omega
    have i2 : (k : Int) < n := by omega
    generalize D1.fs.getD k noFl = f at *
    subst hA hR2
    have HD := Go.Lib.hid (Did.of (c := 0) HS1.out HLT.out (c1.trans (HS2.out.wide (fun _ hf => .inl hf))))
    clear HS1 HS2 hs1 hs2 c1
    go_wp2_with fail
    go_region_with (fail)
    all_goals
      go_wp2_with fail
      go_ret
      exact HD.out.drew
  · have e3 : atI D1.fs s = -1 := by unfold atI; rw [if_neg hk]
    obtain rfl : R = (11, D1) := by rw [← HR1.out]; unfold syncC; rw [if_pos hk]
    rw [e3]
    have HD := Go.Lib.hid (Did.of (c := 11) h1 HLT.out c1)
    clear HR1 e3 hk h1 c1
    go_wp2_with fail
    go_ret
    exact HD.out

end Go.Proofs.Ytfdhfjmmmjhgbaa.DkWalk

/-
  Contracts of the document's answers of layer 8: Truncate, Turn.
-/
namespace Go.Proofs.Ytfdhfjmmmjhgbaa.DkWalk
open Go.RowKit Go.Proofs.Ytfdhfjmmmjhgbaa.MemRow Go.Proofs.Ytfdhfjmmmjhgbaa.Ev Go.Proofs.Ytfdhfjmmmjhgbaa.NameMath Go.Proofs.Ytfdhfjmmmjhgbaa.NameWalk Go.Proofs.Ytfdhfjmmmjhgbaa.EvWalk Go.Proofs.Ytfdhfjmmmjhgbaa.NumMem

theorem u8_size : (Try.prog.info? 5).map (·.size) = some 1 := by kernel_rfl
theorem elem_bytes : Try.prog.elem 33 = 5 := by kernel_rfl
theorem run_size_u8 (W : World) : (sizeOf 5).run Try.prog W = .ok 1 W := by
  have hi := u8_size
  cases hq : Try.prog.info? 5 with
  | none => simp [hq] at hi
  | some i =>
    have hs : i.size = 1 := by simpa [hq] using hi
    simp [sizeOf, typeInfo, hq, hs]
set_option maxRecDepth 100000 in
/-- v[:m] of bytes. -/
theorem slice_upto (A : Option Addr) (n cap m : Nat) (hc : m ≤ cap) (W : World) :
    (Instr.slice 33 (.slice A n cap) none (some (.int .i64 (m : Int))) none).run Try.prog W = .ok (.slice A m cap) W := by
  have hu : Try.prog.underlying 33 = some (.slice (Try.prog.elem 33)) := by rw [elem_bytes]; exact Try.underlying33
  have e : A.map (·.add 0) = A := by cases A <;> simp [Addr.add]
  rw [run_slice_h (P := Try.prog) W 33 _ n cap hu .i64 (m : Int) (by omega) (by omega), elem_bytes, run_size_u8]
  simp only [Result.andThen, sliced, Int.toNat_natCast, Nat.zero_mul, e, Nat.sub_zero]
  congr 2
  split <;> rfl

def truncC (D : Dk) (s : ByteArray) (z : Int) : Int × Dk :=
  if ¬ idxF D.fs s < D.fs.length then (11, D)
  else if z < 0 ∨ ((D.fs.getD (idxF D.fs s) noFl).b.length : Int) < z then (1, D)
  else (0, ⟨D.quota, D.left, putF D.fs ⟨s, (D.fs.getD (idxF D.fs s) noFl).b.take z.toNat, min (D.fs.getD (idxF D.fs s) noFl).safe z.toNat⟩⟩)
def truncD (D : Dk) (s : ByteArray) (z : Int) : Int × Dk := if D.left = 0 then (14, D) else truncC (burnD D) s z

set_option maxHeartbeats 2000000 in
set_option maxRecDepth 100000 in
theorem refTrunc_any (g : Nat) (D : Dk) (F : Nat → Prop) (s : ByteArray) (z : Int) (w : World) (h : RefIs w g D F) (ok : DkOk D) :
    Calls Try.prog 39 #[.pointer (some ⟨g, 0, none⟩), .string s, .int .i64 z] w (fun e w' => Did (truncD D s z).1 (truncD D s z).2 g F w e w') := by
  obtain ⟨A, n, cap, cs, h⟩ := h
  have HLT := Go.Lib.hid h.lt
  generalize hR : truncD D s z = R
  have HR := Go.Lib.hid hR
  clear hR
  go_enter Try.func39, Try.ntmps39
  go_wp2_with fail
  refine (refBurn_any g D F A n cap cs w h ok.left).mono ?_
  rintro e w1 ⟨rfl, h1, g1⟩
  have c1 : Ch F w w1 := Ch.of_grown g1 (fun r e => by injection e with e; subst e; exact .inl h.fg)
  by_cases h0 : D.left = 0
  · have hb0 : burnD D = D := by
      unfold burnD
      rw [if_neg (by omega)]
    rw [hb0] at h1
    obtain rfl : R = (14, D) := by rw [← HR.out]; unfold truncD; rw [if_pos h0]
    rw [decide_eq_true h0]
    have HD := Go.Lib.hid (Did.of (c := 14) h1 HLT.out c1)
    clear HR h1 c1 g1 h0 hb0
    go_wp2_with fail
    go_ret
    exact HD.out
  rw [decide_eq_false h0]
  have HR1 : Hid (truncC (burnD D) s z = R) := Go.Lib.hid (by rw [← HR.out]; unfold truncD; rw [if_neg h0])
  have ok1 := burn_ok ok
  clear HR h0 h ok g1
  generalize burnD D = D1 at *
  go_wp2_with fail
  refine (refAt_any g D1 F A n cap cs s w1 h1).mono ?_
  rintro e w' ⟨rfl, rfl⟩
  have hn : n ≤ 200 := by rw [← h1.len]; exact ok1.len
  by_cases hk : idxF D1.fs s < D1.fs.length
  · have e3 : atI D1.fs s = (idxF D1.fs s : Int) := by unfold atI; rw [if_pos hk]
    have hR2 : (if z < 0 ∨ ((D1.fs.getD (idxF D1.fs s) noFl).b.length : Int) < z then (1, D1) else (0, ⟨D1.quota, D1.left, putF D1.fs ⟨s, (D1.fs.getD (idxF D1.fs s) noFl).b.take z.toNat, min (D1.fs.getD (idxF D1.fs s) noFl).safe z.toNat⟩⟩)) = R := by
      rw [← HR1.out]
      unfold truncC
      rw [if_neg (show ¬ ¬ idxF D1.fs s < D1.fs.length from fun h => h hk)]
    have h65 := ok1.fls _ (fl_get hk)
    rw [e3]
    have i0 : ¬ (idxF D1.fs s : Int) < 0 := by omega
    clear HR1 e3
    generalize idxF D1.fs s = k at *
    have hkn : k < n := by rw [← h1.len]; exact hk
    obtain ⟨b, o, B, nb, cb, hA, x0, x1, x2, rB, hB⟩ := h1.files hkn
    have hnb := rB.len
    have k2 := h1.c2
    have i1 : (0 : Int) ≤ k := by omega
    have i2 : (k : Int) < n := by omega
    generalize D1.fs.getD k noFl = f at *
    have HR2 := Go.Lib.hid hR2
    have al : Below w1.heap.size w1 (w1.alloc (.cells #[.string f.name, .slice B nb cb, .int .i64 f.safe] 73)) := (Below.refl _ _).alloc (Nat.le_refl _) _
    have q3 := FAt.new w1 (.string f.name) (.slice B nb cb) (.int .i64 f.safe)
    have h3 := h1.below al
    have c3 := c1.then_below al
    have rB3 := rB.below al
    have hlt1 := h1.lt
    have hgF := h1.fg
    have wz1 := c1.size
    clear hR2
    rw [hA] at k2
    go_upto_region 8 with (fail)
    generalize w1.alloc (.cells #[.string f.name, .slice B nb cb, .int .i64 f.safe] 73) = w3 at *
    have HL1 := Go.Lib.hid hlt1
    clear x0 x1 x2 k2 rB al hlt1
    have f1 := q3.c1
    have f2 := q3.c2
    by_cases hbad : z < 0 ∨ (f.b.length : Int) < z
    · obtain rfl : R = (1, D1) := by rw [← HR2.out, if_pos hbad]
      have HD := Go.Lib.hid (Did.of (c := 1) h3 HLT.out c3)
      clear HR2 h3 c3 h1 c1
      rcases hbad with hz | hz
      · go_wp2_with fail
        go_ret
        exact HD.out
      · have hz0 : ¬ z < 0 := by omega
        have hz1 : (nb : Int) < z := by omega
        go_wp2_with fail
        go_ret
        exact HD.out
    · have hR3 : (0, ⟨D1.quota, D1.left, putF D1.fs ⟨s, f.b.take z.toNat, min f.safe z.toNat⟩⟩) = R := by rw [← HR2.out, if_neg hbad]
      obtain ⟨y, hy⟩ : ∃ y : Nat, z = y := ⟨z.toNat, by omega⟩
      subst hy
      rw [Int.toNat_natCast] at hR3
      have hmin : min (f.safe : Int) (y : Int) = ((min f.safe y : Nat) : Int) := by omega
      generalize min f.safe y = mn at *
      have HM := Go.Lib.hid hmin
      clear hmin
      subst hR3
      have hz0 : ¬ (y : Int) < 0 := by omega
      have hz1 : ¬ (nb : Int) < y := by omega
      have hyn : y ≤ nb := by omega
      clear HR2 hbad
      have rfy := rB3.rd.first hyn
      have qs := slice_upto B nb cb y (Nat.le_trans hyn rB3.rd.le_cap)
      have bd1 : Below w3.heap.size w3 (w3.alloc (.cells #[] 5)).drew := bel_drew ((Below.refl _ _).alloc (Nat.le_refl _) _)
      have ow1 : Own (w3.alloc (.cells #[] 5)).drew w3.heap.size 5 (some ⟨w3.heap.size, 0, none⟩) 0 0 [] := Own.empty w3 5 (Nat.le_refl _)
      have rd1 := rfy.below bd1
      have e1 := q3.below bd1
      have wz3 : w1.heap.size < w3.heap.size := q3.lt
      have HN3 : Hid (∀ k, F k → k < w3.heap.size) := Go.Lib.hid h3.lt
      have hxF : ¬ w1.heap.size = g := fun hf => by have := HL1.out _ hgF; omega
      go_upto_region 10 with (fail)
      go_region_held_law (fun w' => w'.cell? ⟨w1.heap.size, 1, none⟩ = some (.slice B nb cb) ∧ w'.cell? ⟨w1.heap.size, 2, none⟩ = some (.int .i64 f.safe))
        (first | exact ⟨f1, f2⟩ | exact ⟨e1.c1, e1.c2⟩ | exact ⟨x5.c1, x5.c2⟩ | exact ⟨x9.c1, x9.c2⟩)
        (first
          | (refine step_append_fresh (by rfl) (.tmp 36) (.tmp 40) 33 rfl 5 Try.underlying33 u8_info rfl rfl ow1 rd1 (by omega) bd1.size w3 bd1 ?_; intro A5 c5 w5 o5 b5; have x5 := q3.below b5; have h5 := (h3.below b5).wide (G := up F w3 w5) (fun _ hf => .inl hf) (fun _ hk => up_lt HN3.out b5.size hk); (try go_simp))
          | (go_simp; rw [HM.out]; go_at_call 51; refine (refPutF_any g D1 (up F w3 w5) A n cap cs ⟨s, f.b.take y, mn⟩ A5 y c5 w5 h5 (by omega) (own8_lower o5) (fun a ha => by subst ha; have := World.ownsRow.lt o5 a.block rfl; exact .inr this)).mono ?_; rintro e w9 ⟨rfl, r9, c9⟩; have x9 : FAt w9 w1.heap.size (.string f.name) (.slice B nb cb) (.int .i64 f.safe) := (c9.block _ x5.lt hxF).trans x5))
      all_goals
        have HD := Go.Lib.hid (Did.then_box (c := 0) c3 HLT.out hgF (Ch.of_below b5) r9 c9)
        clear r9 c9
        go_wp2_with fail
        go_ret
        exact HD.out
  · have e3 : atI D1.fs s = -1 := by unfold atI; rw [if_neg hk]
    obtain rfl : R = (11, D1) := by rw [← HR1.out]; unfold truncC; rw [if_pos hk]
    rw [e3]
    have HD := Go.Lib.hid (Did.of (c := 11) h1 HLT.out c1)
    clear HR1 e3 hk h1 c1
    go_wp2_with fail
    go_ret
    exact HD.out

end Go.Proofs.Ytfdhfjmmmjhgbaa.DkWalk

/-
  Contract of the document's answer of layer 8: Turn.
-/
namespace Go.Proofs.Ytfdhfjmmmjhgbaa.DkWalk
open Go.RowKit Go.Proofs.Ytfdhfjmmmjhgbaa.MemRow Go.Proofs.Ytfdhfjmmmjhgbaa.Ev Go.Proofs.Ytfdhfjmmmjhgbaa.NameMath Go.Proofs.Ytfdhfjmmmjhgbaa.NameWalk Go.Proofs.Ytfdhfjmmmjhgbaa.EvWalk Go.Proofs.Ytfdhfjmmmjhgbaa.NumMem

theorem xor1_fin : ∀ c : Fin 256, bits BinOp.xor IntKind.u8 (c.val : Int) 1 = ((c.val ^^^ 1 : Nat) : Int) := by decide +kernel
theorem xor1 (c : UInt8) : bits BinOp.xor IntKind.u8 (c.toNat : Int) 1 = (((c ^^^ 1).toNat : Nat) : Int) := by
  have h := xor1_fin ⟨c.toNat, UInt8.toNat_lt c⟩
  rw [h, UInt8.toNat_xor]
  rfl
theorem own8_set {w : World} {base : Nat} {t : TypeId} {A : Option Addr} {n cap blk : Nat} {l : List UInt8} (h : Own w base t A n cap l) (hA : A = some ⟨blk, 0, none⟩) (i : Nat) (c : UInt8) : Own (w.setCell ⟨blk, i, none⟩ (.int .u8 (c.toNat : Int))) base t A n cap (l.set i c) := by
  have h1 := own_set (k := 1) (cs := cellsOf l) h hA i (.int .u8 (c.toNat : Int))
  have e : (cellsOf l).set i (.int .u8 (c.toNat : Int)) = cellsOf (l.set i c) := by simp [cellsOf, List.map_set]
  rw [e] at h1
  exact h1
def turnC (D : Dk) (s : ByteArray) (z : Int) : Int × Dk :=
  if ¬ idxF D.fs s < D.fs.length then (11, D)
  else if z < 0 ∨ ((D.fs.getD (idxF D.fs s) noFl).b.length : Int) ≤ z then (1, D)
  else (0, ⟨D.quota, D.left, putF D.fs ⟨s, (D.fs.getD (idxF D.fs s) noFl).b.set z.toNat ((D.fs.getD (idxF D.fs s) noFl).b.getD z.toNat 0 ^^^ 1), (D.fs.getD (idxF D.fs s) noFl).safe⟩⟩)

set_option maxHeartbeats 2000000 in
set_option maxRecDepth 100000 in
theorem refTurn_any (g : Nat) (D1 : Dk) (F : Nat → Prop) (s : ByteArray) (z : Int) (w1 : World) (h : RefIs w1 g D1 F) (ok1 : DkOk D1) :
    Calls Try.prog 42 #[.pointer (some ⟨g, 0, none⟩), .string s, .int .i64 z] w1 (fun e w' => Did (turnC D1 s z).1 (turnC D1 s z).2 g F w1 e w') := by
  obtain ⟨A, n, cap, cs, h1⟩ := h
  have HLT := Go.Lib.hid h1.lt
  generalize hR : turnC D1 s z = R
  have HR1 := Go.Lib.hid hR
  clear hR
  go_enter Try.func42, Try.ntmps42
  go_wp2_with fail
  refine (refAt_any g D1 F A n cap cs s w1 h1).mono ?_
  rintro e w' ⟨rfl, rfl⟩
  have hn : n ≤ 200 := by rw [← h1.len]; exact ok1.len
  by_cases hk : idxF D1.fs s < D1.fs.length
  · have e3 : atI D1.fs s = (idxF D1.fs s : Int) := by unfold atI; rw [if_pos hk]
    have hR2 : (if z < 0 ∨ ((D1.fs.getD (idxF D1.fs s) noFl).b.length : Int) ≤ z then (1, D1) else (0, ⟨D1.quota, D1.left, putF D1.fs ⟨s, (D1.fs.getD (idxF D1.fs s) noFl).b.set z.toNat ((D1.fs.getD (idxF D1.fs s) noFl).b.getD z.toNat 0 ^^^ 1), (D1.fs.getD (idxF D1.fs s) noFl).safe⟩⟩)) = R := by
      rw [← HR1.out]
      unfold turnC
      rw [if_neg (show ¬ ¬ idxF D1.fs s < D1.fs.length from fun h => h hk)]
    have h65 := ok1.fls _ (fl_get hk)
    rw [e3]
    have i0 : ¬ (idxF D1.fs s : Int) < 0 := by omega
    clear HR1 e3
    generalize idxF D1.fs s = k at *
    have hkn : k < n := by rw [← h1.len]; exact hk
    obtain ⟨b, o, B, nb, cb, hA, x0, x1, x2, rB, hB⟩ := h1.files hkn
    have hnb := rB.len
    have k2 := h1.c2
    have i1 : (0 : Int) ≤ k := by omega
    have i2 : (k : Int) < n := by omega
    generalize D1.fs.getD k noFl = f at *
    have HR2 := Go.Lib.hid hR2
    clear hR2
    rw [hA] at k2
    by_cases hbad : z < 0 ∨ (f.b.length : Int) ≤ z
    · obtain rfl : R = (1, D1) := by rw [← HR2.out, if_pos hbad]
      have HD := Go.Lib.hid (Did.of (c := 1) h1 HLT.out (Ch.refl F w1))
      clear HR2 h1
      rcases hbad with hz | hz
      · go_wp2_with fail
        go_ret
        exact HD.out
      · have hz0 : ¬ z < 0 := by omega
        have hz1 : (nb : Int) ≤ z := by omega
        go_wp2_with fail
        go_ret
        exact HD.out
    · have hR3 : (0, ⟨D1.quota, D1.left, putF D1.fs ⟨s, f.b.set z.toNat (f.b.getD z.toNat 0 ^^^ 1), f.safe⟩⟩) = R := by rw [← HR2.out, if_neg hbad]
      obtain ⟨y, hy⟩ : ∃ y : Nat, z = y := ⟨z.toNat, by omega⟩
      subst hy
      rw [Int.toNat_natCast] at hR3
      have hz0 : ¬ (y : Int) < 0 := by omega
      have hz1 : ¬ (nb : Int) ≤ y := by omega
      have hz2 : (0 : Int) ≤ y := by omega
      have hz3 : (y : Int) < nb := by omega
      have hyn : y < nb := by omega
      clear HR2 hbad
      have al : Below w1.heap.size w1 (w1.alloc (.cells #[] 5)) := (Below.refl _ _).alloc (Nat.le_refl _) _
      have rB2 := (rB.below al).rd
      have k2' := bcell al k2
      have x0' := bcell al x0
      have x1' := bcell al x1
      have x2' := bcell al x2
      have hgF := h1.fg
      go_upto_region 7 with (at_builtin; refine wpList_append_fresh rfl (.tmp 29) (.tmp 37) 33 rfl 5 Try.underlying33 u8_info rfl rfl (Own.empty w1 5 (Nat.le_refl _)) rB2 (by omega) al.size w1 al ?_; intro A5 c5 w5 o5 b5)
      have h5 := h1.below b5
      have k5 := bcell b5 k2
      have y0 := bcell b5 x0
      have y1 := bcell b5 x1
      have y2 := bcell b5 x2
      obtain ⟨blk, oo, hA5, _, hc5⟩ := o5.rd.at_ (by omega)
      obtain ⟨rfl, hfz, _⟩ := own_zero (k := 1) (cs := cellsOf f.b) o5 hA5
      have hc := hc5 y hyn
      rw [Nat.zero_add] at hc
      have hz5 := hfz y
      have hbl := o5.block hA5
      generalize hcv : f.b.getD y 0 = cv at *
      have HX := Go.Lib.hid (xor1 cv)
      have o6 := own8_set o5 hA5 y (cv ^^^ 1)
      have hs := grownSet w5 blk y (.int .u8 ((cv ^^^ 1).toNat : Int))
      have b6 : Below w1.heap.size w1 (w5.setCell ⟨blk, y, none⟩ (.int .u8 ((cv ^^^ 1).toNat : Int))) := b5.setCell hbl.1 _
      have h6 := h1.below b6
      have HN := Go.Lib.hid h1.lt
      subst hA5 hR3
      have c6 : Ch F w1 (w5.setCell ⟨blk, y, none⟩ (.int .u8 ((cv ^^^ 1).toNat : Int))) := Ch.of_below b6
      have k6 := bcell b6 k2
      have y0' := bcell b6 x0
      have y1' := bcell b6 x1
      have y2' := bcell b6 x2
      have hlt6 : blk < (w5.setCell ⟨blk, y, none⟩ (.int .u8 ((cv ^^^ 1).toNat : Int))).heap.size := Nat.lt_of_lt_of_le hbl.2 hs.size
      clear k2 k2' x0' x1' x2' rB2 al hc5 hfz o5
      go_upto_region 8 with (fail)
      rw [HX.out]
      generalize w5.setCell ⟨blk, y, none⟩ (.int .u8 ((cv ^^^ 1).toNat : Int)) = w6 at *
      clear k5 y0 y1 y2 hc hz5 hs h5
      have h7 := h6.wide (G := up F w1 w6) (fun _ hf => .inl hf) (fun _ hk => up_lt HN.out b6.size hk)
      go_wp2_with fail
      refine (refPutF_any g D1 (up F w1 w6) _ n cap cs ⟨s, f.b.set y (cv ^^^ 1), f.safe⟩ (some ⟨blk, 0, none⟩) nb c5 w6 h7 (by omega) (own8_lower o6) (fun a ha => by injection ha with ha; subst ha; exact .inr ⟨hbl.1, hlt6⟩)).mono ?_
      rintro e w9 ⟨rfl, r9, c9⟩
      have HD := Go.Lib.hid (Did.then_box (c := 0) (Ch.refl F w1) HN.out hgF (Ch.of_below b6) r9 c9)
      clear r9 c9
      go_wp2_with fail
      go_ret
      exact HD.out
  · have e3 : atI D1.fs s = -1 := by unfold atI; rw [if_neg hk]
    obtain rfl : R = (11, D1) := by rw [← HR1.out]; unfold turnC; rw [if_pos hk]
    rw [e3]
    have HD := Go.Lib.hid (Did.of (c := 11) h1 HLT.out (Ch.refl F w1))
    clear HR1 e3 hk h1
    go_wp2_with fail
    go_ret
    exact HD.out

end Go.Proofs.Ytfdhfjmmmjhgbaa.DkWalk

/-
  Contract of the document's answer of layer 8: Crash.
-/
namespace Go.Proofs.Ytfdhfjmmmjhgbaa.DkWalk
open Go.RowKit Go.Proofs.Ytfdhfjmmmjhgbaa.MemRow Go.Proofs.Ytfdhfjmmmjhgbaa.Ev Go.Proofs.Ytfdhfjmmmjhgbaa.NameMath Go.Proofs.Ytfdhfjmmmjhgbaa.NameWalk Go.Proofs.Ytfdhfjmmmjhgbaa.EvWalk Go.Proofs.Ytfdhfjmmmjhgbaa.NumMem

def crashN (keep : Int) (f : Fl) : Nat := f.safe + min (max keep 0).toNat (f.b.length - f.safe)
def crashL (keep : Int) (f : Fl) : Fl := ⟨f.name, f.b.take (crashN keep f), crashN keep f⟩
def crashD (D : Dk) (keep : Int) : Dk := ⟨D.quota, -1, D.fs.map (crashL keep)⟩
/-- The disk's row is one that was made, with rows of bytes that are new. -/
theorem fin_new {w wr : World} {F : Nat → Prop} {g base m c : Nat} {A : Option Addr} {fs : List Fl} {D : Dk} {A0 : Option Addr} {n0 cap0 : Nat} {cs0 cs : List Value} (h0 : RefAt w g D F A0 n0 cap0 cs0) (bel : Below w.heap.size w wr) (o : OwnC 3 wr base 73 A m c cs) (lo : w.heap.size ≤ base) (hl : fs.length = m) (hf : FlsR wr (up F w wr) fs cs) :
    wr.frozen? ⟨g, 2, none⟩ = false ∧ wr.cell? ⟨g, 2, none⟩ = some (.slice A0 n0 cap0) ∧ RefIs (wr.setCell ⟨g, 2, none⟩ (.slice A m c)) g ⟨D.quota, D.left, fs⟩ (up F w (wr.setCell ⟨g, 2, none⟩ (.slice A m c))) ∧ Ch (fun k => k = g) w (wr.setCell ⟨g, 2, none⟩ (.slice A m c)) := by
  have hr := h0.below bel
  have glt := h0.lt g h0.fg
  have hs := grownSet wr g 2 (.slice A m c)
  have hsz : w.heap.size ≤ (wr.setCell ⟨g, 2, none⟩ (.slice A m c)).heap.size := Nat.le_trans bel.size hs.size
  refine ⟨hr.frozen 2, hr.c2, ⟨A, m, c, cs, box_set hr.box (by omega), ?_, hl, FlsR.map (fun _ _ _ _ r _ => own8_grown r hs (fun a ha e => own8_not r hr.box (by decide) a ha (by injection e))) (fun _ hf => up_mono hs.size hf) _ _ hf, .inl h0.fg, fun a ha => ?_, fun k hk => up_lt h0.lt hsz hk⟩, (Ch.of_below bel).then_grown hs (fun r e => by injection e with e; exact .inl (.inl e.symm))⟩
  · have o2 := OwnC.grown o hs (fun a ha e => by have := (OwnC.lt o a ha).1; injection e with e; omega)
    exact own_lower o2 (Nat.zero_le _)
  · have h1 := OwnC.lt o a ha
    exact .inr ⟨by omega, Nat.lt_of_lt_of_le h1.2 hs.size⟩
/-- Files in rows of their own, while another row grows. -/
theorem FlsR.more {w w' : World} {F G : Nat → Prop} {base n cap : Nat} {A : Option Addr} {cs0 : List Value} (o : OwnC 3 w base 73 A n cap cs0) (hg : w.grownBy w' (A.map (·.block))) (hs : ∀ k, F k → G k) (fs : List Fl) (cs : List Value) (h : FlsR w F fs cs) : FlsR w' G fs cs :=
  FlsR.map (fun B nb cb l r _ => own8_grown r hg (fun a ha e => by
    cases hA : A with
    | none => rw [hA] at e; cases e
    | some a2 =>
      rw [hA] at e
      simp only [Option.map_some, Option.some.injEq] at e
      obtain ⟨bk, off, sp⟩ := a2
      have h2 : sp = none := by
        rcases o.2 with ⟨hv, _⟩ | ⟨g', c, cur, hv, _⟩
        · rw [hA] at hv; cases hv
        · have e1 : A = some ⟨g', 0, none⟩ := by injection hv
          rw [hA] at e1
          injection e1 with e1
          injection e1
      subst h2
      obtain ⟨_, _, x, fr, hx⟩ := own_zero o hA
      exact own8_not r hx (by decide) a ha e)) hs fs cs h

set_option maxHeartbeats 4000000 in
set_option maxRecDepth 100000 in
theorem refCrash_any (g : Nat) (D : Dk) (F : Nat → Prop) (keep : Int) (w : World) (h : RefIs w g D F) (ok : DkOk D) (hk : -9223372036854775808 ≤ keep ∧ keep ≤ 9223372036854775807) :
    Calls Try.prog 41 #[.pointer (some ⟨g, 0, none⟩), .int .i64 keep] w fun e w' => e = .returned (.tuple #[]) ∧ RefIs w' g (crashD D keep) (up F w w') ∧ Ch F w w' := by
  obtain ⟨A, n, cap, cs, h⟩ := h
  have HLT := Go.Lib.hid h.lt
  have hgF := h.fg
  have h1 := h.setL (-1)
  have z1 := h.frozen 1
  have k1 := h.c1
  have hs := grownSet w g 1 (.int .i64 (-1))
  have c1 : Ch (fun k => k = g) w (w.setCell ⟨g, 1, none⟩ (.int .i64 (-1))) := Ch.of_grown hs (fun r e => by injection e with e; exact .inl e.symm)
  have hn : n ≤ 200 := by rw [← h.len]; exact ok.len
  have HOK := Go.Lib.hid ok.fls
  have HL := Go.Lib.hid h.len
  go_enter Try.func41, Try.ntmps41
  go_upto_region 1 with (fail)
  generalize w.setCell ⟨g, 1, none⟩ (.int .i64 (-1)) = w1 at *
  clear h z1 k1 hs ok
  have al : Below w1.heap.size w1 (w1.alloc (.cells #[] 73)) := (Below.refl _ _).alloc (Nat.le_refl _) _
  have o2 : OwnC 3 (w1.alloc (.cells #[] 73)) w1.heap.size 73 (some ⟨w1.heap.size, 0, none⟩) 0 0 [] := OwnC.empty w1 _ (Nat.le_refl _)
  have f2 : FlsR (w1.alloc (.cells #[] 73)) (up F w1 (w1.alloc (.cells #[] 73))) ((D.fs.take 0).map (crashL keep)) [] := rfl
  go_upto_region 2 with (fail)
  generalize w1.alloc (.cells #[] 73) = w2 at *
  go_wp2_with fail
  go_loopw [4, 5] (fun o i wr => ∃ (j : Nat) (A' : Option Addr) (c : Nat) (cs' : List Value), j ≤ n ∧ o = .slice A' j c ∧ i = .int .i64 j ∧ OwnC 3 wr w1.heap.size 73 A' j c cs' ∧ FlsR wr (up F w1 wr) ((D.fs.take j).map (crashL keep)) cs' ∧ Below w1.heap.size w1 wr) (fun _ i _ => n - (intOf i).toNat)
  case atStart => exact ⟨0, _, 0, [], Nat.zero_le _, rfl, rfl, o2, f2, al⟩
  case round =>
    obtain ⟨j, A', c, cs', hj, rfl, rfl, oq, fq, bq⟩ := hrel
    clear o2 f2 al
    have hr := h1.below bq
    have k2 := hr.c2
    by_cases hlt : j < n
    · obtain ⟨b, o, B, nb, cb, rfl, x0, x1, x2, rB, _⟩ := hr.files hlt
      have i1 : (j : Int) < n := by omega
      have hjl : j < D.fs.length := by rw [HL.out]; exact hlt
      have HT := Go.Lib.hid (fl_take D.fs j hjl)
      have hnb := rB.len
      have h65 := HOK.out _ (fl_get hjl)
      clear hjl
      simp only at x0 x1 x2 rB hnb
      generalize D.fs.getD j noFl = f at *
      have al3 : Below wr.heap.size wr (wr.alloc (.cells #[.string f.name, .slice B nb cb, .int .i64 f.safe] 73)) := (Below.refl _ _).alloc (Nat.le_refl _) _
      have q3 := FAt.new wr (.string f.name) (.slice B nb cb) (.int .i64 f.safe)
      have hmm : (f.safe : Int) + min (max keep 0) ((nb : Int) - f.safe) = ((crashN keep f : Nat) : Int) := by
        unfold crashN
        omega
      have hle : crashN keep f ≤ nb := by
        unfold crashN
        omega
      have HCL : Hid (crashL keep f = ⟨f.name, f.b.take (crashN keep f), crashN keep f⟩) := Go.Lib.hid rfl
      have o3 := OwnC.below oq al3
      have f3 := FlsR.map (fun _ _ _ _ r _ => r.below al3) (fun _ hk => up_mono (F := F) (w := w1) al3.size hk) _ _ fq
      have b3 := below_chain bq al3
      have rB3 := rB.below al3
      generalize crashN keep f = mm at *
      go_upto_region 6 with (fail)
      generalize wr.alloc (.cells #[.string f.name, .slice B nb cb, .int .i64 f.safe] 73) = w3 at *
      generalize hgx : wr.heap.size = gx at *
      clear x0 x1 x2 rB k2 hr
      have q0 := q3.c0
      have q1 := q3.c1
      have q2 := q3.c2
      go_upto_region 7 with (fail)
      have rfy := rB3.rd.first hle
      have qs := slice_upto B nb cb mm (Nat.le_trans hle rB3.rd.le_cap)
      have bd1 : Below w3.heap.size w3 (w3.alloc (.cells #[] 5)).drew := bel_drew ((Below.refl _ _).alloc (Nat.le_refl _) _)
      have ow1 : Own (w3.alloc (.cells #[] 5)).drew w3.heap.size 5 (some ⟨w3.heap.size, 0, none⟩) 0 0 [] := Own.empty w3 5 (Nat.le_refl _)
      have rd1 := rfy.below bd1
      have e1 := q3.below bd1
      have hmm65 : mm ≤ 65536 := by omega
      have h63 : j + 1 ≤ maxLen := by unfold maxLen; omega
      have hsz : (j + 1) * 48 ≤ 140737488355328 := by omega
      have wz1 : w1.heap.size ≤ gx := by rw [← hgx]; exact bq.size
      have hgl : gx < w3.heap.size := q3.lt
      have hrow : ∀ a, A' = some a → a.block ≠ gx := fun a ha => by
        have := (OwnC.lt oq a ha).2
        omega
      have HROW := Go.Lib.hid hrow
      clear hmm h65 hrow q0 q1 q2
      have q0 := q3.c0
      have q1 := q3.c1
      go_region_held_law (fun w' => w'.cell? ⟨gx, 0, none⟩ = some (.string f.name) ∧ w'.cell? ⟨gx, 1, none⟩ = some (.slice B nb cb))
        (first | exact ⟨q0, q1⟩ | exact ⟨e1.c0, e1.c1⟩ | exact ⟨x5.c0, x5.c1⟩ | exact ⟨x6.c0, x6.c1⟩ | exact ⟨x9.c0, x9.c1⟩)
        (first
          | (refine step_append_fresh (by rfl) (.tmp 43) (.tmp 47) 33 rfl 5 Try.underlying33 u8_info rfl rfl ow1 rd1 (by omega) bd1.size w3 bd1 ?_; intro A5 c5 w5 o5 b5; have x5 := q3.below b5; have al6 : Below w5.heap.size w5 (w5.alloc (.cells #[.string f.name, .slice A5 mm c5, .int .i64 mm] 73)) := (Below.refl _ _).alloc (Nat.le_refl _) _; have x6 := x5.below al6; have b6 := below_chain b5 al6; have oc6 := OwnC.below o3 b6; have b16 := below_chain b3 b6; have d6 : RdC 3 (w5.alloc (.cells #[.string f.name, .slice A5 mm c5, .int .i64 mm] 73)) (some ⟨w5.heap.size, 0, none⟩) 1 1 [.string f.name, .slice A5 mm c5, .int .i64 mm] := RdC.new w5 73 [.string f.name, .slice A5 mm c5, .int .i64 mm] rfl (by decide); (try go_simp))
          | (refine step_append_cells (by rfl) (.tmp 40) (.tmp 51) 59 rfl 73 (.agg #[.string ⟨#[]⟩, .slice none 0 0, .int .i64 0]) 48 Try.underlying59 file_info rfl (by decide) rfl rfl oc6 d6 (fl_one _ _ _ _ _) h63 hsz b16.size ?_; intro A9 c9 w9 o9 g9 e9; have x9 := x6.grown g9 (fun e => (by cases hA : A' with | none => (rw [hA] at e; cases e) | some a => (rw [hA] at e; simp only [Option.map_some, Option.some.injEq] at e; exact HROW.out a hA e.symm)))))
      all_goals
        have low := fun r e => row_low oc6 (r := r) e
        have b9 := b16.grown g9 b16.size (fun r e => low r e)
        have f6 := FlsR.map (G := up F w1 (w5.alloc (.cells #[.string f.name, .slice A5 mm c5, .int .i64 mm] 73))) (fun _ _ _ _ r _ => r.below b6) (fun _ hk => up_mono b6.size hk) _ _ f3
        have o56 := o5.below al6
        have hb5 : ∀ a, A5 = some a → up F w1 (w5.alloc (.cells #[.string f.name, .slice A5 mm c5, .int .i64 mm] 73)) a.block := fun a ha => by
          subst ha
          have := World.ownsRow.lt o56 a.block rfl
          exact .inr ⟨by omega, this.2⟩
        have f7 := FlsR.snoc (f := ⟨f.name, f.b.take mm, mm⟩) (own8_lower o56) hb5 _ _ f6
        have f9 := FlsR.more (G := up F w1 w9) oc6 g9 (fun _ hk => up_mono g9.size hk) _ _ f7
        have HF9 : Hid (FlsR w9 (up F w1 w9) ((D.fs.take (j + 1)).map (crashL keep)) (cs' ++ [.string f.name, .slice A5 mm c5, .int .i64 mm])) := Go.Lib.hid (by
          rw [HT.out, List.map_append, List.map_cons, List.map_nil, HCL.out]
          exact f9)
        clear f9 f7 f6 o56 hb5
        go_wp2_with fail
        go_roundw
        case rel => exact ⟨j + 1, A9, c9, _, by omega, rfl, by go_num, o9, HF9.out, b9⟩
        case measure => simp [intOf]; omega
    · obtain rfl : n = j := by omega
      have ht : D.fs.take n = D.fs := List.take_of_length_le (by rw [HL.out]; exact Nat.le_refl _)
      rw [ht] at fq
      obtain ⟨z1, z2, z3, z4⟩ := fin_new h1 bq oq (Nat.le_refl _) (by rw [List.length_map, HL.out]) fq
      have HZ := Go.Lib.hid z3
      have HC := Go.Lib.hid z4
      clear z3 z4 fq oq
      go_wp2_with fail
      go_end0
      have hC : Ch F w (wr.setCell ⟨g, 2, none⟩ (.slice A' n c)) := (c1.wide (fun _ hk => by rw [hk]; exact hgF)).trans (HC.out.wide (fun _ hk => .inl (by rw [hk]; exact hgF)))
      refine ⟨rfl, HZ.out.wide (fun k hk => ?_) (fun k hk => up_lt HLT.out hC.size hk), hC⟩
      rcases hk with hk | hk
      · exact .inl hk
      · exact .inr ⟨Nat.le_trans c1.size hk.1, hk.2⟩

end Go.Proofs.Ytfdhfjmmmjhgbaa.DkWalk

/-
  Mathematics of layer 8: what stands of a disk's numbers is kept by each call.
-/
namespace Go.Proofs.Ytfdhfjmmmjhgbaa.DkWalk
open Go.RowKit Go.Proofs.Ytfdhfjmmmjhgbaa.MemRow Go.Proofs.Ytfdhfjmmmjhgbaa.Ev Go.Proofs.Ytfdhfjmmmjhgbaa.NameMath Go.Proofs.Ytfdhfjmmmjhgbaa.NameWalk Go.Proofs.Ytfdhfjmmmjhgbaa.EvWalk Go.Proofs.Ytfdhfjmmmjhgbaa.NumMem

def rest (fs : List Fl) (s : ByteArray) : List Fl := fs.filter fun x => !eqN x.name s
theorem stp_len (f : Fl) (p : List Fl × Bool) (x : Fl) : (stp f p x).1.length + (if p.2 = true then 1 else 0) = p.1.length + (if eqN x.name f.name = true then 0 else 1) + (if (stp f p x).2 = true then 1 else 0) := by
  obtain ⟨l, d⟩ := p
  unfold stp
  cases d <;> cases leN f.name x.name <;> cases eqN x.name f.name <;> simp
theorem fold_len (f : Fl) : ∀ (fs : List Fl) (p : List Fl × Bool), (fs.foldl (stp f) p).1.length + (if p.2 = true then 1 else 0) = p.1.length + (rest fs f.name).length + (if (fs.foldl (stp f) p).2 = true then 1 else 0)
  | [], _ => rfl
  | x :: fs, p => by
    have h1 := fold_len f fs (stp f p x)
    have h2 := stp_len f p x
    have h3 : (rest (x :: fs) f.name).length = (if eqN x.name f.name = true then 0 else 1) + (rest fs f.name).length := by
      unfold rest
      rw [List.filter_cons]
      cases eqN x.name f.name <;> simp <;> omega
    rw [List.foldl_cons, h3]
    omega
theorem putF_len (fs : List Fl) (f : Fl) : (putF fs f).length = (rest fs f.name).length + 1 := by
  have h := fold_len f fs ([], false)
  unfold putF putS
  simp only [List.length_nil, Bool.false_eq_true, if_false] at h
  split
  · next h1 =>
    rw [if_pos h1] at h
    omega
  · next h1 =>
    rw [if_neg h1] at h
    rw [List.length_append]
    simp only [List.length_singleton]
    omega
theorem rest_le (fs : List Fl) (s : ByteArray) : (rest fs s).length ≤ fs.length := List.length_filter_le _ _
theorem rest_lt {fs : List Fl} {s : ByteArray} (h : idxF fs s < fs.length) : (rest fs s).length < fs.length := by
  have hn := idxF_name h
  have hm := fl_get h
  unfold rest
  rw [List.length_filter_lt_length_iff_exists]
  exact ⟨_, hm, by rw [hn, eqN_refl]; decide⟩
theorem stp_mem (f : Fl) (p : List Fl × Bool) (x y : Fl) (h : y ∈ (stp f p x).1) : y ∈ p.1 ∨ y = f ∨ y = x := by
  obtain ⟨l, d⟩ := p
  unfold stp at h
  cases d <;> cases leN f.name x.name <;> cases eqN x.name f.name <;> simp at h ⊢ <;> grind
theorem fold_mem (f : Fl) : ∀ (fs : List Fl) (p : List Fl × Bool) (y : Fl), y ∈ (fs.foldl (stp f) p).1 → y ∈ p.1 ∨ y = f ∨ y ∈ fs
  | [], p, y, h => .inl h
  | x :: fs, p, y, h => by
    rw [List.foldl_cons] at h
    rcases fold_mem f fs _ y h with h | h | h
    · rcases stp_mem f p x y h with h | h | h
      · exact .inl h
      · exact .inr (.inl h)
      · exact .inr (.inr (by rw [h]; simp))
    · exact .inr (.inl h)
    · exact .inr (.inr (List.mem_cons_of_mem _ h))
theorem putF_mem {fs : List Fl} {f y : Fl} (h : y ∈ putF fs f) : y = f ∨ y ∈ fs := by
  unfold putF putS at h
  split at h
  · rcases fold_mem f fs _ y h with h | h | h
    · simp at h
    · exact .inl h
    · exact .inr h
  · rcases List.mem_append.1 h with h | h
    · rcases fold_mem f fs _ y h with h | h | h
      · simp at h
      · exact .inl h
      · exact .inr h
    · exact .inl (List.mem_singleton.1 h)
theorem dropF_mem {fs : List Fl} {s : ByteArray} {y : Fl} (h : y ∈ dropF fs s) : y ∈ fs := by
  unfold dropF at h
  rcases List.mem_append.1 h with h | h
  · exact List.mem_of_mem_take h
  · exact List.mem_of_mem_drop h
theorem fileOf_ok {D : Dk} (h : DkOk D) (s : ByteArray) : (fileOf D.fs s).b.length ≤ 65536 ∧ (fileOf D.fs s).safe ≤ (fileOf D.fs s).b.length := by
  unfold fileOf
  split
  · next hk => exact h.fls _ (fl_get hk)
  · exact ⟨by simp, Nat.le_refl _⟩

theorem new_ok {q : Int} (h : q ≤ 9223372036854775807) : DkOk (newD q) := ⟨by simp [newD], by simp [newD], ⟨by simp [newD], by simp [newD]⟩, by unfold newD; simp only; omega⟩
theorem fuse_ok {D : Dk} (h : DkOk D) {k : Int} (hk : k ≤ 9223372036854775807) : DkOk (fuseD D k) := ⟨h.len, h.fls, by unfold fuseD; simp only; omega, h.quota⟩
/-- A file is put where there is one, or room for one. -/
theorem put_ok {D : Dk} (h : DkOk D) {f : Fl} (hl : idxF D.fs f.name < D.fs.length ∨ D.fs.length < 200) (hb : f.b.length ≤ 65536) (hs : f.safe ≤ f.b.length) : DkOk ⟨D.quota, D.left, putF D.fs f⟩ := by
  refine ⟨?_, fun y hy => ?_, h.left, h.quota⟩
  · have h1 := putF_len D.fs f
    have h2 := rest_le D.fs f.name
    have h3 := h.len
    simp only
    rcases hl with hl | hl
    · have := rest_lt hl
      omega
    · omega
  · rcases putF_mem hy with rfl | hy
    · exact ⟨hb, hs⟩
    · exact h.fls y hy
theorem append_ok {D : Dk} (h : DkOk D) (s : ByteArray) (b : List UInt8) : DkOk (appendD D s b).2 := by
  unfold appendD
  split
  · exact h
  · have h1 := burn_ok h
    generalize burnD D = D1 at *
    unfold appendC
    split
    · exact h1
    · split
      · exact h1
      · next hn =>
        split
        · exact h1
        · have hf := fileOf_ok h1 s
          refine put_ok h1 ?_ ?_ ?_
          · simp only
            by_cases hk : idxF D1.fs s < D1.fs.length
            · exact .inl hk
            · exact .inr (Nat.lt_of_not_le fun h2 => hn (.inr ⟨hk, h2⟩))
          · simp only [List.length_append]
            omega
          · simp only [List.length_append]
            omega
theorem sync_ok {D : Dk} (h : DkOk D) (s : ByteArray) : DkOk (syncD D s).2 := by
  unfold syncD
  split
  · exact h
  · have h1 := burn_ok h
    generalize burnD D = D1 at *
    unfold syncC
    split
    · exact h1
    · next hk =>
      refine ⟨by simp only [syncF, List.length_set]; exact h1.len, fun y hy => ?_, h1.left, h1.quota⟩
      simp only [syncF] at hy
      rcases List.mem_or_eq_of_mem_set hy with hy | rfl
      · exact h1.fls y hy
      · have := h1.fls _ (fl_get (Decidable.byContradiction hk))
        exact ⟨this.1, Nat.le_refl _⟩
theorem remove_ok {D : Dk} (h : DkOk D) (s : ByteArray) : DkOk (removeD D s).2 := by
  unfold removeD
  split
  · exact h
  · have h1 := burn_ok h
    generalize burnD D = D1 at *
    unfold removeC
    split
    · next hk =>
      have := dropF_len hk
      have := h1.len
      exact ⟨by simp only; omega, fun y hy => h1.fls y (dropF_mem hy), h1.left, h1.quota⟩
    · exact h1
theorem rename_ok {D : Dk} (h : DkOk D) (a b : ByteArray) : DkOk (renameD D a b).2 := by
  unfold renameD
  split
  · exact h
  · have h1 := burn_ok h
    generalize burnD D = D1 at *
    unfold renameC
    split
    · exact h1
    · next hk =>
      have hk := Decidable.byContradiction hk
      split
      · exact h1
      · split
        · exact h1
        · have h2 := dropF_len hk
          have h3 := h1.len
          have hd : DkOk ⟨D1.quota, D1.left, dropF D1.fs a⟩ := ⟨by simp only; omega, fun y hy => h1.fls y (dropF_mem hy), h1.left, h1.quota⟩
          have hf := h1.fls _ (fl_get hk)
          exact put_ok hd (f := ⟨b, (D1.fs.getD (idxF D1.fs a) noFl).b, (D1.fs.getD (idxF D1.fs a) noFl).safe⟩) (.inr (by simp only; omega)) hf.1 hf.2
theorem trunc_ok {D : Dk} (h : DkOk D) (s : ByteArray) (z : Int) : DkOk (truncD D s z).2 := by
  unfold truncD
  split
  · exact h
  · have h1 := burn_ok h
    generalize burnD D = D1 at *
    unfold truncC
    split
    · exact h1
    · next hk =>
      have hk := Decidable.byContradiction hk
      split
      · exact h1
      · next hz =>
        have hf := h1.fls _ (fl_get hk)
        refine put_ok h1 (.inl hk) ?_ ?_
        · simp only [List.length_take]
          omega
        · simp only [List.length_take]
          omega
theorem turn_ok {D : Dk} (h : DkOk D) (s : ByteArray) (z : Int) : DkOk (turnC D s z).2 := by
  unfold turnC
  split
  · exact h
  · next hk =>
    have hk := Decidable.byContradiction hk
    split
    · exact h
    · have hf := h.fls _ (fl_get hk)
      refine put_ok h (.inl hk) ?_ ?_
      · simp only [List.length_set]
        exact hf.1
      · simp only [List.length_set]
        exact hf.2
theorem crash_ok {D : Dk} (h : DkOk D) (keep : Int) : DkOk (crashD D keep) := by
  refine ⟨by simp only [crashD, List.length_map]; exact h.len, fun y hy => ?_, ⟨by simp [crashD], by simp [crashD]⟩, h.quota⟩
  obtain ⟨f, hf, rfl⟩ := List.mem_map.1 hy
  have := h.fls f hf
  unfold crashL crashN
  simp only [List.length_take]
  omega

end Go.Proofs.Ytfdhfjmmmjhgbaa.DkWalk

/-
  Mathematics of layer 8: names rise, and stay so.
-/
namespace Go.Proofs.Ytfdhfjmmmjhgbaa.DkWalk
open Go.RowKit Go.Proofs.Ytfdhfjmmmjhgbaa.MemRow Go.Proofs.Ytfdhfjmmmjhgbaa.Ev Go.Proofs.Ytfdhfjmmmjhgbaa.NameMath Go.Proofs.Ytfdhfjmmmjhgbaa.NameWalk Go.Proofs.Ytfdhfjmmmjhgbaa.EvWalk Go.Proofs.Ytfdhfjmmmjhgbaa.NumMem

/-- A file at its place among rising names. -/
def insF : List Fl → Fl → List Fl
  | [], f => [f]
  | x :: l, f => if less x.name f.name = true then x :: insF l f else if x.name = f.name then f :: l else f :: x :: l
def Rising (fs : List Fl) : Prop := Up (names fs)
theorem insF_names : ∀ (fs : List Fl) (f : Fl), names (insF fs f) = putL (names fs) f.name
  | [], _ => rfl
  | x :: l, f => by
    have ih := insF_names l f
    unfold names at ih ⊢
    simp only [insF, List.map_cons, putL]
    split
    · rw [List.map_cons, ih]
    · split
      · next h => rw [List.map_cons, h]
      · rw [List.map_cons, List.map_cons]
theorem rising_tail {x : Fl} {fs : List Fl} (h : Rising (x :: fs)) : Rising fs ∧ ∀ y ∈ fs, less x.name y.name = true := by
  unfold Rising Up names at h
  rw [List.map_cons, List.pairwise_cons] at h
  exact ⟨h.2, fun y hy => h.1 _ (List.mem_map_of_mem hy)⟩
theorem fold_done (f : Fl) : ∀ (fs l : List Fl), (∀ x ∈ fs, eqN x.name f.name = false) → fs.foldl (stp f) (l, true) = (l ++ fs, true)
  | [], l, _ => by simp
  | x :: fs, l, h => by
    have e : stp f (l, true) x = (l ++ [x], true) := by
      unfold stp
      rw [h x (by simp)]
      rfl
    rw [List.foldl_cons, e, fold_done f fs _ fun y hy => h y (by simp [hy])]
    simp
theorem fold_ins (f : Fl) : ∀ (fs l : List Fl), Rising fs → (if (fs.foldl (stp f) (l, false)).2 = true then (fs.foldl (stp f) (l, false)).1 else (fs.foldl (stp f) (l, false)).1 ++ [f]) = l ++ insF fs f
  | [], l, _ => by simp [insF]
  | x :: fs, l, h => by
    obtain ⟨h1, h2⟩ := rising_tail h
    rw [List.foldl_cons]
    cases hl : less x.name f.name with
    | true =>
      have hne := less_ne hl
      have hfx : less f.name x.name = false := by
        cases hf : less f.name x.name with
        | false => rfl
        | true =>
          have := less_trans hl hf
          rw [less_irrefl] at this
          cases this
      have e : stp f (l, false) x = (l ++ [x], false) := by
        unfold stp leN
        rw [hfx, eqN_ne hne, eqN_ne (fun h => hne h.symm)]
        rfl
      rw [e, fold_ins f fs _ h1]
      simp only [insF, hl, if_true, List.append_assoc, List.singleton_append]
    | false =>
      have hne : ∀ y ∈ fs, eqN y.name f.name = false := fun y hy => eqN_ne fun he => by
        have h3 := h2 y hy
        rw [he, hl] at h3
        cases h3
      by_cases he : x.name = f.name
      · have e : stp f (l, false) x = (l ++ [f], true) := by
          unfold stp leN
          rw [he, less_irrefl, eqN_refl]
          rfl
        rw [e, fold_done f fs _ hne]
        simp only [insF, if_true, he, List.append_assoc, List.singleton_append, Bool.false_eq_true, if_false, less_irrefl]
      · have hf := less_tri hl he
        have e : stp f (l, false) x = (l ++ [f] ++ [x], true) := by
          unfold stp leN
          rw [hf, eqN_ne he]
          rfl
        rw [e, fold_done f fs _ hne]
        simp only [insF, hl, if_true, if_neg he, List.append_assoc, Bool.false_eq_true, if_false, List.cons_append, List.nil_append]
theorem putF_ins {fs : List Fl} (h : Rising fs) (f : Fl) : putF fs f = insF fs f := by
  have := fold_ins f fs [] h
  unfold putF putS
  rw [this]
  rfl
theorem putF_rising {fs : List Fl} (h : Rising fs) (f : Fl) : Rising (putF fs f) := by
  unfold Rising
  rw [putF_ins h, insF_names]
  exact putL_up h f.name
theorem dropF_rising {fs : List Fl} (h : Rising fs) (s : ByteArray) : Rising (dropF fs s) := by
  unfold Rising at h ⊢
  refine up_sub h ?_
  unfold names dropF
  refine List.Sublist.map _ ?_
  have h1 : (fs.take (idxF fs s) ++ fs.drop (idxF fs s + 1)).Sublist (fs.take (idxF fs s) ++ fs.drop (idxF fs s)) := by
    refine List.Sublist.append_left ?_ _
    rw [← List.drop_drop]
    exact List.drop_sublist _ _
  rwa [List.take_append_drop] at h1
theorem syncF_rising {fs : List Fl} (h : Rising fs) {s : ByteArray} (hk : idxF fs s < fs.length) : Rising (syncF fs s) := by
  have e : names (syncF fs s) = names fs := by
    unfold names syncF
    rw [List.map_set]
    simp only
    have hl : idxF fs s < (fs.map (·.name)).length := by rw [List.length_map]; exact hk
    have h2 : (fs.getD (idxF fs s) noFl).name = (fs.map (·.name))[idxF fs s]'hl := by
      rw [List.getElem_map, List.getD_eq_getElem?_getD, List.getElem?_eq_getElem hk]
      rfl
    rw [h2, List.set_getElem_self]
  unfold Rising
  rw [e]
  exact h
theorem crashD_rising {D : Dk} (h : Rising D.fs) (keep : Int) : Rising (crashD D keep).fs := by
  have e : names (crashD D keep).fs = names D.fs := by
    unfold names crashD crashL
    rw [List.map_map]
    rfl
  unfold Rising
  rw [e]
  exact h

end Go.Proofs.Ytfdhfjmmmjhgbaa.DkWalk

/-
  Mathematics of layer 8: a disk's files as a set; the landed disk's map as data. No walk here.
-/
namespace Go.Proofs.Ytfdhfjmmmjhgbaa.DkWalk
open Go.RowKit Go.Maps Go.Proofs.Ytfdhfjmmmjhgbaa.MemRow Go.Proofs.Ytfdhfjmmmjhgbaa.Ev Go.Proofs.Ytfdhfjmmmjhgbaa.NameMath Go.Proofs.Ytfdhfjmmmjhgbaa.NameWalk Go.Proofs.Ytfdhfjmmmjhgbaa.EvWalk Go.Proofs.Ytfdhfjmmmjhgbaa.NumMem

/-! ### Files as a set -/
theorem rising_idx {fs : List Fl} (h : Rising fs) {i j : Nat} {x y : Fl} (hi : fs[i]? = some x) (hj : fs[j]? = some y) (e : x.name = y.name) : i = j := by
  unfold Rising Up names at h
  rw [List.pairwise_map, List.pairwise_iff_getElem] at h
  obtain ⟨hil, rfl⟩ := List.getElem?_eq_some_iff.1 hi
  obtain ⟨hjl, rfl⟩ := List.getElem?_eq_some_iff.1 hj
  rcases Nat.lt_trichotomy i j with h1 | h1 | h1
  · exact absurd e (less_ne (h i j hil hjl h1))
  · exact h1
  · exact absurd e.symm (less_ne (h j i hjl hil h1))
theorem rising_inj {fs : List Fl} (h : Rising fs) {x y : Fl} (hx : x ∈ fs) (hy : y ∈ fs) (e : x.name = y.name) : x = y := by
  obtain ⟨i, hi⟩ := List.getElem?_of_mem hx
  obtain ⟨j, hj⟩ := List.getElem?_of_mem hy
  obtain rfl := rising_idx h hi hj e
  rw [hi] at hj
  injection hj
theorem rising_nodup {fs : List Fl} (h : Rising fs) : (names fs).Nodup := by
  unfold Rising Up at h
  exact h.imp fun h1 => less_ne h1
theorem insF_iff : ∀ {fs : List Fl}, Rising fs → ∀ (f y : Fl), y ∈ insF fs f ↔ y = f ∨ (y ∈ fs ∧ y.name ≠ f.name)
  | [], _, f, y => by simp [insF]
  | x :: fs, h, f, y => by
    obtain ⟨h1, h2⟩ := rising_tail h
    have ih := insF_iff h1 f y
    simp only [insF]
    split
    · next hl =>
      have hne := less_ne hl
      rw [List.mem_cons, ih, List.mem_cons]
      constructor
      · rintro (rfl | rfl | ⟨h3, h4⟩)
        · exact .inr ⟨.inl rfl, hne⟩
        · exact .inl rfl
        · exact .inr ⟨.inr h3, h4⟩
      · rintro (rfl | ⟨rfl | h3, h4⟩)
        · exact .inr (.inl rfl)
        · exact .inl rfl
        · exact .inr (.inr ⟨h3, h4⟩)
    · next hl =>
      split
      · next he =>
        rw [List.mem_cons, List.mem_cons]
        constructor
        · rintro (rfl | h3)
          · exact .inl rfl
          · exact .inr ⟨.inr h3, fun e => (less_ne (h2 y h3)) (he.trans e.symm)⟩
        · rintro (rfl | ⟨rfl | h3, h4⟩)
          · exact .inl rfl
          · exact absurd he h4
          · exact .inr h3
      · next he =>
        rw [List.mem_cons]
        have hf := less_tri (by simpa using hl) he
        constructor
        · rintro (rfl | h3)
          · exact .inl rfl
          · refine .inr ⟨h3, fun e => ?_⟩
            rcases List.mem_cons.1 h3 with rfl | h3
            · exact he e
            · have h5 := less_trans hf (h2 y h3)
              rw [e, less_irrefl] at h5
              cases h5
        · rintro (rfl | ⟨h3, _⟩)
          · exact .inl rfl
          · exact .inr h3
/-- The files fs' are fs with f at its name's place. -/
def SetTo (fs' fs : List Fl) (f : Fl) : Prop := ∀ y, y ∈ fs' ↔ y = f ∨ (y ∈ fs ∧ y.name ≠ f.name)
theorem putF_set {fs : List Fl} (h : Rising fs) (f : Fl) : SetTo (putF fs f) fs f := fun y => by rw [putF_ins h, insF_iff h]
theorem idx_lt {fs : List Fl} {f : Fl} (hf : f ∈ fs) : idxF fs f.name < fs.length := by
  unfold idxF
  exact List.findIdx_lt_length.2 ⟨f, hf, eqN_refl _⟩
theorem idx_at {fs : List Fl} (hr : Rising fs) {f : Fl} (hf : f ∈ fs) : fs.getD (idxF fs f.name) noFl = f := rising_inj hr (fl_get (idx_lt hf)) hf (idxF_name (idx_lt hf))
theorem idx_not {fs : List Fl} {s : ByteArray} (h : ¬ idxF fs s < fs.length) : ∀ y ∈ fs, y.name ≠ s := fun y hy e => h (by rw [← e]; exact idx_lt hy)
theorem idx_some {fs : List Fl} {s : ByteArray} (h : idxF fs s < fs.length) : fs[idxF fs s]? = some (fs.getD (idxF fs s) noFl) := by
  rw [List.getD_eq_getElem?_getD, List.getElem?_eq_getElem h]
  rfl
theorem dropF_set {fs : List Fl} (h : Rising fs) {s : ByteArray} (hk : idxF fs s < fs.length) : ∀ y, y ∈ dropF fs s ↔ y ∈ fs ∧ y.name ≠ s := by
  intro y
  have e : dropF fs s = fs.eraseIdx (idxF fs s) := by
    unfold dropF
    rw [List.eraseIdx_eq_take_drop_succ]
  have hi := idx_some hk
  have hn := idxF_name hk
  rw [e, List.mem_eraseIdx_iff_getElem?]
  constructor
  · rintro ⟨j, hj, hy⟩
    exact ⟨List.mem_of_getElem? hy, fun he => hj (rising_idx h hy hi (he.trans hn.symm))⟩
  · rintro ⟨hy, hne⟩
    obtain ⟨j, hj⟩ := List.getElem?_of_mem hy
    refine ⟨j, fun he => hne ?_, hj⟩
    rw [he, hi] at hj
    injection hj with hj
    rw [← hj, hn]
theorem syncF_set {fs : List Fl} (h : Rising fs) {s : ByteArray} (hk : idxF fs s < fs.length) : SetTo (syncF fs s) fs ⟨s, (fs.getD (idxF fs s) noFl).b, (fs.getD (idxF fs s) noFl).b.length⟩ := by
  intro y
  have hi := idx_some hk
  have hn := idxF_name hk
  unfold syncF
  rw [hn]
  constructor
  · intro hy
    obtain ⟨j, hj⟩ := List.getElem?_of_mem hy
    rw [List.getElem?_set] at hj
    split at hj
    · injection hj with hj
      exact .inl hj.symm
    · next hne => exact .inr ⟨List.mem_of_getElem? hj, fun he => hne (rising_idx h hi hj (hn.trans he.symm))⟩
  · rintro (rfl | ⟨hy, hne⟩)
    · exact List.mem_of_getElem? (by rw [List.getElem?_set, if_pos rfl, if_pos hk])
    · obtain ⟨j, hj⟩ := List.getElem?_of_mem hy
      refine List.mem_of_getElem? (i := j) ?_
      rw [List.getElem?_set, if_neg, hj]
      intro he
      rw [← he, hi] at hj
      injection hj with hj
      exact hne (by rw [← hj, hn])

/-! ### Which files are still to come -/
def keyF (s : ByteArray) : Lit := .string s.data.toList
theorem keyF_inj {a b : ByteArray} (h : keyF a = keyF b) : a = b := by
  unfold keyF at h
  injection h with h
  exact ByteArray.ext (Array.ext' h)
theorem keyF_same (a b : ByteArray) : (keyF a).sameKey (keyF b) = decide (a = b) := by
  by_cases h : a = b
  · subst h
    simp [keyF, Lit.sameKey]
  · rw [decide_eq_false h]
    exact sameKey_ne fun e => h (keyF_inj e)
/-- What is still to come behind the file s. -/
def strike (left : Lit → Bool) (s : ByteArray) : Lit → Bool := fun z => left z && !z.sameKey (keyF s)
theorem strike_at (left : Lit → Bool) (s t : ByteArray) : strike left s (keyF t) = (left (keyF t) && !decide (t = s)) := by
  unfold strike
  rw [keyF_same]
def usedL (left : Lit → Bool) (fs : List Fl) : Nat := usedF (fs.filter fun f => !left (keyF f.name))
theorem usedL_start {left : Lit → Bool} {fs : List Fl} (h : ∀ f ∈ fs, left (keyF f.name) = true) : usedL left fs = 0 := by
  unfold usedL
  rw [List.filter_eq_nil_iff.2 fun f hf => by rw [h f hf]; decide]
  rfl
theorem usedL_end {left : Lit → Bool} {fs : List Fl} (h : ∀ kl, left kl = false) : usedL left fs = usedF fs := by
  unfold usedL
  rw [List.filter_eq_self.2 fun f hf => by rw [h]; rfl]
theorem usedL_le (left : Lit → Bool) (fs : List Fl) : usedL left fs ≤ usedF fs := by
  unfold usedL
  induction fs with
  | nil => exact Nat.le_refl _
  | cons f fs ih =>
    have e : usedF (f :: fs) = f.b.length + usedF fs := by simp [usedF]
    rw [List.filter_cons]
    split
    · have e2 : usedF (f :: fs.filter fun f => !left (keyF f.name)) = f.b.length + usedF (fs.filter fun f => !left (keyF f.name)) := by simp [usedF]
      omega
    · omega
theorem usedL_step {left : Lit → Bool} : ∀ {fs : List Fl}, Rising fs → ∀ {f : Fl}, f ∈ fs → left (keyF f.name) = true → usedL (strike left f.name) fs = usedL left fs + f.b.length
  | [], _, f, hf, _ => by simp at hf
  | x :: fs, h, f, hf, hl => by
    obtain ⟨h1, h2⟩ := rising_tail h
    unfold usedL
    rw [List.filter_cons, List.filter_cons, strike_at]
    rcases List.mem_cons.1 hf with rfl | hf
    · have e : (fs.filter fun y => !strike left f.name (keyF y.name)) = fs.filter fun y => !left (keyF y.name) := by
        refine List.filter_congr fun y hy => ?_
        rw [strike_at, decide_eq_false (fun e => less_ne (h2 y hy) e.symm)]
        simp
      rw [e, hl]
      simp [usedF]
      omega
    · have ih := usedL_step h1 hf hl
      unfold usedL at ih
      rw [decide_eq_false (less_ne (h2 f hf))]
      simp only [Bool.not_false, Bool.and_true]
      split
      · have e2 : ∀ l : List Fl, usedF (x :: l) = x.b.length + usedF l := fun l => by simp [usedF]
        rw [e2, e2, ih]
        omega
      · exact ih
def crashIf (left : Lit → Bool) (keep : Int) (f : Fl) : Fl := if left (keyF f.name) = true then f else crashL keep f
theorem crashL_name (keep : Int) (f : Fl) : (crashL keep f).name = f.name := rfl
theorem crashIf_name (left : Lit → Bool) (keep : Int) (f : Fl) : (crashIf left keep f).name = f.name := by
  unfold crashIf
  split <;> rfl
theorem crashIf_names (left : Lit → Bool) (keep : Int) (fs : List Fl) : names (fs.map (crashIf left keep)) = names fs := by
  unfold names
  rw [List.map_map]
  exact List.map_congr_left fun f _ => crashIf_name left keep f
theorem crashIf_start {left : Lit → Bool} {fs : List Fl} (keep : Int) (h : ∀ f ∈ fs, left (keyF f.name) = true) : fs.map (crashIf left keep) = fs := by
  have : fs.map (crashIf left keep) = fs.map id := List.map_congr_left fun f hf => by unfold crashIf; rw [if_pos (h f hf)]; rfl
  rw [this, List.map_id]
theorem crashIf_end {left : Lit → Bool} (fs : List Fl) (keep : Int) (h : ∀ kl, left kl = false) : fs.map (crashIf left keep) = fs.map (crashL keep) :=
  List.map_congr_left fun f _ => by unfold crashIf; rw [if_neg (by rw [h]; decide)]
theorem crashIf_step {left : Lit → Bool} {fs : List Fl} (h : Rising fs) {f : Fl} (hf : f ∈ fs) (keep : Int) (hl : left (keyF f.name) = true) :
    SetTo (fs.map (crashIf (strike left f.name) keep)) (fs.map (crashIf left keep)) (crashL keep f) := by
  have e : ∀ x, x.name ≠ f.name → crashIf (strike left f.name) keep x = crashIf left keep x := fun x hx => by
    unfold crashIf
    rw [strike_at, decide_eq_false hx]
    simp
  have e2 : crashIf (strike left f.name) keep f = crashL keep f := by
    unfold crashIf
    rw [strike_at, decide_eq_true rfl]
    simp
  intro y
  rw [List.mem_map, List.mem_map]
  constructor
  · rintro ⟨x, hx, rfl⟩
    by_cases hn : x.name = f.name
    · obtain rfl := rising_inj h hx hf hn
      exact .inl e2
    · exact .inr ⟨⟨x, hx, (e x hn).symm⟩, by rw [crashIf_name]; exact hn⟩
  · rintro (rfl | ⟨⟨x, hx, rfl⟩, hn⟩)
    · exact ⟨f, hf, e2⟩
    · rw [crashIf_name] at hn
      exact ⟨x, hx, e x hn⟩
/-- What has come already. -/
def came (left : Lit → Bool) (fs : List Fl) : List Fl := fs.filter fun f => !left (keyF f.name)
theorem came_start {left : Lit → Bool} {fs : List Fl} (h : ∀ f ∈ fs, left (keyF f.name) = true) : came left fs = [] :=
  List.filter_eq_nil_iff.2 fun f hf => by rw [h f hf]; decide
theorem came_end {left : Lit → Bool} (fs : List Fl) (h : ∀ kl, left kl = false) : came left fs = fs :=
  List.filter_eq_self.2 fun f _ => by rw [h]; rfl
theorem came_rising {left : Lit → Bool} {fs : List Fl} (h : Rising fs) : Rising (came left fs) := up_sub h (List.Sublist.map _ List.filter_sublist)
theorem came_step {left : Lit → Bool} {fs : List Fl} (h : Rising fs) {f : Fl} (hf : f ∈ fs) (hl : left (keyF f.name) = true) : SetTo (came (strike left f.name) fs) (came left fs) f := by
  intro y
  unfold came
  rw [List.mem_filter, List.mem_filter, strike_at]
  constructor
  · rintro ⟨hy, hs⟩
    by_cases hn : y.name = f.name
    · exact .inl (rising_inj h hy hf hn)
    · rw [decide_eq_false hn] at hs
      exact .inr ⟨⟨hy, by simpa using hs⟩, hn⟩
  · rintro (rfl | ⟨⟨hy, hs⟩, hn⟩)
    · exact ⟨hf, by simp⟩
    · exact ⟨hy, by rw [decide_eq_false hn]; simpa using hs⟩

/-! ### The map as data -/
/-- The map holds just the files' names, each with its file's block. -/
structure MapOf (M : DataW Nat) (fs : List Fl) (kk : ByteArray → Nat) : Prop where
  keys : ∀ kl, has M kl = true ↔ ∃ f ∈ fs, kl = keyF f.name
  at_ : ∀ f ∈ fs, ∀ z, M.atKey (keyF f.name) z = .held (kk f.name)
theorem MapOf.empty (kk : ByteArray → Nat) : MapOf (.map []) [] kk := ⟨fun kl => ⟨fun h => (by cases h), fun ⟨_, h, _⟩ => (by simp at h)⟩, fun _ h => (by simp at h)⟩
section
variable {M : DataW Nat} {fs fs' : List Fl} {kk kk' : ByteArray → Nat}
theorem MapOf.same (h : MapOf M fs kk) (hn : ∀ s, (∃ f ∈ fs', f.name = s) ↔ ∃ f ∈ fs, f.name = s) (hk : ∀ f ∈ fs, kk' f.name = kk f.name) : MapOf M fs' kk' := by
  refine ⟨fun kl => (h.keys kl).trans ⟨?_, ?_⟩, fun f hf z => ?_⟩
  · rintro ⟨f, hf, rfl⟩
    obtain ⟨y, hy, e⟩ := (hn f.name).2 ⟨f, hf, rfl⟩
    exact ⟨y, hy, by rw [e]⟩
  · rintro ⟨f, hf, rfl⟩
    obtain ⟨y, hy, e⟩ := (hn f.name).1 ⟨f, hf, rfl⟩
    exact ⟨y, hy, by rw [e]⟩
  · obtain ⟨y, hy, e⟩ := (hn f.name).1 ⟨f, hf, rfl⟩
    rw [← e, h.at_ y hy, hk y hy]
theorem MapOf.put (h : MapOf M fs kk) (hM : IsMap M) {f : Fl} (hs : SetTo fs' fs f) (k : Nat) (hk : kk' f.name = k) (ho : ∀ s, s ≠ f.name → kk' s = kk s) : MapOf (M.put (keyF f.name) (.held k)) fs' kk' := by
  refine ⟨fun kl => ?_, fun y hy z => ?_⟩
  · by_cases e : kl = keyF f.name
    · subst e
      rw [show has (M.put (keyF f.name) (.held k)) (keyF f.name) = true from has_put_same (k := .string _) hM trivial _]
      exact ⟨fun _ => ⟨f, (hs f).2 (.inl rfl), rfl⟩, fun _ => rfl⟩
    · rw [has_put_other e, h.keys]
      constructor
      · rintro ⟨y, hy, rfl⟩
        exact ⟨y, (hs y).2 (.inr ⟨hy, fun he => e (by rw [he])⟩), rfl⟩
      · rintro ⟨y, hy, rfl⟩
        rcases (hs y).1 hy with rfl | ⟨hy, _⟩
        · exact absurd rfl e
        · exact ⟨y, hy, rfl⟩
  · rcases (hs y).1 hy with rfl | ⟨hy, hn⟩
    · rw [hk]
      exact atKey_put_same (k := .string _) hM trivial _ _
    · rw [atKey_put_other (fun e => hn (keyF_inj e)), h.at_ y hy, ho _ hn]
theorem MapOf.del (h : MapOf M fs kk) {s : ByteArray} (hs : ∀ y, y ∈ fs' ↔ y ∈ fs ∧ y.name ≠ s) : MapOf (M.del (keyF s)) fs' kk := by
  refine ⟨fun kl => ?_, fun y hy z => ?_⟩
  · by_cases e : kl = keyF s
    · subst e
      rw [has_del_same]
      exact ⟨fun h => (by cases h), fun ⟨y, hy, e⟩ => absurd (keyF_inj e).symm ((hs y).1 hy).2⟩
    · rw [has_del_other e, h.keys]
      constructor
      · rintro ⟨y, hy, rfl⟩
        exact ⟨y, (hs y).2 ⟨hy, fun he => e (by rw [he])⟩, rfl⟩
      · rintro ⟨y, hy, rfl⟩
        exact ⟨y, ((hs y).1 hy).1, rfl⟩
  · obtain ⟨hy, hn⟩ := (hs y).1 hy
    rw [atKey_del_other (fun e => hn (keyF_inj e)), h.at_ y hy]
theorem MapOf.hasS (h : MapOf M fs kk) (s : ByteArray) : has M (keyF s) = decide (idxF fs s < fs.length) := by
  by_cases hk : idxF fs s < fs.length
  · rw [decide_eq_true hk, h.keys]
    exact ⟨_, fl_get hk, by rw [idxF_name hk]⟩
  · rw [decide_eq_false hk, ← Bool.not_eq_true, h.keys]
    rintro ⟨f, hf, e⟩
    exact idx_not hk f hf (keyF_inj e).symm
theorem nodup_keys (hr : Rising fs) : (fs.map fun f => keyF f.name).Nodup := by
  have h := rising_nodup hr
  unfold names List.Nodup at h
  rw [List.pairwise_map] at h
  unfold List.Nodup
  rw [List.pairwise_map]
  exact h.imp fun h1 e => h1 (keyF_inj e)
theorem MapOf.perm (h : MapOf M fs kk) (c : Canon M) (hr : Rising fs) : ∃ es, M = .map es ∧ (es.map (·.1)).Perm (fs.map fun f => keyF f.name) := by
  obtain ⟨es, rfl, hp, hk⟩ := c
  refine ⟨es, rfl, (List.perm_ext_iff_of_nodup ?_ (nodup_keys hr)).2 fun kl => ?_⟩
  · unfold List.Nodup
    rw [List.pairwise_map]
    exact apart_of_rising hp
  · have h1 := h.keys kl
    rw [has_eq, List.any_eq_true] at h1
    rw [List.mem_map, List.mem_map]
    constructor
    · rintro ⟨p, hp', rfl⟩
      obtain ⟨f, hf, e⟩ := h1.1 ⟨p, hp', WideAt.sameKey_self (hk p hp')⟩
      exact ⟨f, hf, e.symm⟩
    · rintro ⟨f, hf, rfl⟩
      obtain ⟨p, hp', e⟩ := h1.2 ⟨f, hf, rfl⟩
      exact ⟨p, hp', WideAt.sameKey_eq e⟩
theorem MapOf.size (h : MapOf M fs kk) (c : Canon M) (hr : Rising fs) : Maps.size M = fs.length := by
  obtain ⟨es, rfl, hp⟩ := h.perm c hr
  have := hp.length_eq
  rw [size_eq]
  simpa using this
theorem MapOf.strs (h : MapOf M fs kk) (c : Canon M) (hr : Rising fs) : (strKeys M).Perm (fs.map fun f => f.name.data.toList) := by
  obtain ⟨es, rfl, hp⟩ := h.perm c hr
  have := hp.map strOf
  rw [List.map_map, List.map_map] at this
  exact this
end
theorem sorted_names {fs : List Fl} (hr : Rising fs) {ss : List (List UInt8)} (hp : ss.Perm (fs.map fun f => f.name.data.toList)) : (ss.mergeSort leB).map Go.Proofs.encStr = MemRow.strs (names fs) := by
  have h : (fs.map fun f => f.name.data.toList).Pairwise fun a b => leB a b = true := by
    unfold Rising Up names at hr
    rw [List.pairwise_map] at hr ⊢
    refine hr.imp fun {a b} h1 => ?_
    rw [less_eq] at h1
    simp only [leB, decide_eq_true_eq] at h1 ⊢
    exact List.le_of_lt h1
  rw [mergeSort_of_perm hp, List.mergeSort_of_pairwise h]
  unfold names MemRow.strs
  rw [List.map_map, List.map_map]
  refine List.map_congr_left fun f _ => ?_
  simp [Go.Proofs.encStr]

/-! ### What stands of a landed disk, always -/
structure DkGo (D : Dk) : Prop where
  ok : DkOk D
  up : Rising D.fs
  may : ∀ f ∈ D.fs, mayN f.name = true
theorem mayN_size {s : ByteArray} (h : mayN s = true) : s.size ≤ 20 := by
  unfold mayN at h
  rw [Bool.and_eq_true, decide_eq_true_eq] at h
  exact h.2.2
theorem burn_go {D : Dk} (h : DkGo D) : DkGo (burnD D) := ⟨burn_ok h.ok, h.up, h.may⟩
theorem new_go {q : Int} (h : q ≤ 9223372036854775807) : DkGo (newD q) := ⟨new_ok h, by simp [newD, Rising, names, Up], by simp [newD]⟩
theorem fuse_go {D : Dk} (h : DkGo D) {k : Int} (hk : k ≤ 9223372036854775807) : DkGo (fuseD D k) := ⟨fuse_ok h.ok hk, h.up, h.may⟩
theorem append_go {D : Dk} (h : DkGo D) (s : ByteArray) (b : List UInt8) : DkGo (appendD D s b).2 := by
  refine ⟨append_ok h.ok s b, ?_, ?_⟩
  · unfold appendD appendC
    repeat' split
    all_goals first | exact h.up | exact putF_rising h.up _
  · unfold appendD appendC
    split
    · exact h.may
    · split
      · exact h.may
      · next hm =>
        split
        · exact h.may
        · split
          · exact h.may
          · intro f hf
            rcases putF_mem hf with rfl | hf
            · simpa using hm
            · exact h.may f hf
theorem sync_go {D : Dk} (h : DkGo D) (s : ByteArray) : DkGo (syncD D s).2 := by
  refine ⟨sync_ok h.ok s, ?_, ?_⟩
  · unfold syncD syncC
    split
    · exact h.up
    · split
      · exact h.up
      · next hk => exact syncF_rising h.up (Decidable.byContradiction hk)
  · unfold syncD syncC
    split
    · exact h.may
    · split
      · exact h.may
      · next hk =>
        have hk : idxF D.fs s < D.fs.length := Decidable.byContradiction hk
        intro f hf
        rcases (syncF_set h.up hk f).1 hf with rfl | ⟨hf, _⟩
        · have := h.may _ (fl_get hk)
          rwa [idxF_name hk] at this
        · exact h.may f hf
theorem remove_go {D : Dk} (h : DkGo D) (s : ByteArray) : DkGo (removeD D s).2 := by
  refine ⟨remove_ok h.ok s, ?_, ?_⟩
  · unfold removeD removeC
    repeat' split
    all_goals first | exact h.up | exact dropF_rising h.up _
  · unfold removeD removeC
    repeat' split
    all_goals first | exact h.may | exact fun f hf => h.may f (dropF_mem hf)
theorem rename_go {D : Dk} (h : DkGo D) (a b : ByteArray) : DkGo (renameD D a b).2 := by
  refine ⟨rename_ok h.ok a b, ?_, ?_⟩
  · unfold renameD renameC
    repeat' split
    all_goals first | exact h.up | exact putF_rising (dropF_rising h.up _) _
  · unfold renameD renameC
    split
    · exact h.may
    · split
      · exact h.may
      · split
        · exact h.may
        · next hm =>
          split
          · exact h.may
          · intro f hf
            rcases putF_mem hf with rfl | hf
            · simpa using hm
            · exact h.may f (dropF_mem hf)
theorem trunc_go {D : Dk} (h : DkGo D) (s : ByteArray) (z : Int) : DkGo (truncD D s z).2 := by
  refine ⟨trunc_ok h.ok s z, ?_, ?_⟩
  · unfold truncD truncC
    repeat' split
    all_goals first | exact h.up | exact putF_rising h.up _
  · unfold truncD truncC
    split
    · exact h.may
    · split
      · exact h.may
      · next hk =>
        have hk : idxF D.fs s < D.fs.length := Decidable.byContradiction hk
        split
        · exact h.may
        · intro f hf
          rcases putF_mem hf with rfl | hf
          · have := h.may _ (fl_get hk)
            rwa [idxF_name hk] at this
          · exact h.may f hf
theorem turn_go {D : Dk} (h : DkGo D) (s : ByteArray) (z : Int) : DkGo (turnC D s z).2 := by
  refine ⟨turn_ok h.ok s z, ?_, ?_⟩
  · unfold turnC
    repeat' split
    all_goals first | exact h.up | exact putF_rising h.up _
  · unfold turnC
    split
    · exact h.may
    · next hk =>
      have hk := Decidable.byContradiction hk
      split
      · exact h.may
      · intro f hf
        rcases putF_mem hf with rfl | hf
        · have := h.may _ (fl_get hk)
          rwa [idxF_name hk] at this
        · exact h.may f hf
theorem crash_go {D : Dk} (h : DkGo D) (keep : Int) : DkGo (crashD D keep) := by
  refine ⟨crash_ok h.ok keep, crashD_rising h.up keep, fun f hf => ?_⟩
  obtain ⟨x, hx, rfl⟩ := List.mem_map.1 hf
  exact h.may x hx

end Go.Proofs.Ytfdhfjmmmjhgbaa.DkWalk

/-
  Mathematics of layer 8: disks of one and two files, as the statements make them.
-/
namespace Go.Proofs.Ytfdhfjmmmjhgbaa.DkWalk
open Go.RowKit Go.Maps Go.Proofs.Ytfdhfjmmmjhgbaa.MemRow Go.Proofs.Ytfdhfjmmmjhgbaa.Ev Go.Proofs.Ytfdhfjmmmjhgbaa.NameMath Go.Proofs.Ytfdhfjmmmjhgbaa.NameWalk Go.Proofs.Ytfdhfjmmmjhgbaa.EvWalk Go.Proofs.Ytfdhfjmmmjhgbaa.NumMem

def nA : ByteArray := ⟨#[97]⟩
def nB : ByteArray := ⟨#[98]⟩
def nC : ByteArray := ⟨#[99]⟩
def nD : ByteArray := ⟨#[100]⟩
theorem mayA : mayN nA = true := by decide
theorem mayB : mayN nB = true := by decide
theorem mayC : mayN nC = true := by decide
theorem mayDD : mayN nD = true := by decide
theorem lessAB : less nA nB = true := by rw [less_eq]; decide
theorem lessBC : less nB nC = true := by rw [less_eq]; decide
theorem neAB : nA ≠ nB := less_ne lessAB
theorem neBC : nB ≠ nC := less_ne lessBC
theorem neAC : nA ≠ nC := less_ne (less_trans lessAB lessBC)

theorem idx_nil (s : ByteArray) : idxF [] s = 0 := rfl
theorem idx_hd (s : ByteArray) (b : List UInt8) (k : Nat) (fs : List Fl) : idxF (⟨s, b, k⟩ :: fs) s = 0 := by
  unfold idxF
  rw [List.findIdx_cons]
  simp only [eqN_refl]
  rfl
theorem idx_tl {s t : ByteArray} (h : s ≠ t) (b : List UInt8) (k : Nat) (fs : List Fl) : idxF (⟨s, b, k⟩ :: fs) t = idxF fs t + 1 := by
  unfold idxF
  rw [List.findIdx_cons]
  simp only [eqN_ne h]
  rfl
theorem rise_one (x : Fl) : Rising [x] := by simp [Rising, names, Up]
theorem rise_two {x y : Fl} (h : less x.name y.name = true) : Rising [x, y] := by simp [Rising, names, Up, h]
theorem put_nil (f : Fl) : putF [] f = [f] := rfl
theorem put_same (s : ByteArray) (b c : List UInt8) (j k : Nat) : putF [⟨s, b, j⟩] ⟨s, c, k⟩ = [⟨s, c, k⟩] := by
  rw [putF_ins (rise_one _)]
  simp only [insF, less_irrefl]
  rfl
theorem put_behind {s t : ByteArray} (h : less s t = true) (b c : List UInt8) (j k : Nat) : putF [⟨s, b, j⟩] ⟨t, c, k⟩ = [⟨s, b, j⟩, ⟨t, c, k⟩] := by
  rw [putF_ins (rise_one _)]
  simp only [insF, h, if_true]
theorem put_second {s t : ByteArray} (h : less s t = true) (b c e : List UInt8) (j k i : Nat) : putF [⟨s, b, j⟩, ⟨t, c, k⟩] ⟨t, e, i⟩ = [⟨s, b, j⟩, ⟨t, e, i⟩] := by
  rw [putF_ins (rise_two h)]
  simp only [insF, h, if_true, less_irrefl]
  rfl
theorem file_nil (s : ByteArray) : fileOf [] s = ⟨s, [], 0⟩ := rfl
theorem file_hd (s : ByteArray) (b : List UInt8) (k : Nat) (fs : List Fl) : fileOf (⟨s, b, k⟩ :: fs) s = ⟨s, b, k⟩ := by
  unfold fileOf
  rw [idx_hd, if_pos (by simp)]
  rfl
theorem used_one (s : ByteArray) (b : List UInt8) (k : Nat) : usedF [⟨s, b, k⟩] = b.length := by simp [usedF]
theorem used_two (s t : ByteArray) (b c : List UInt8) (j k : Nat) : usedF [⟨s, b, j⟩, ⟨t, c, k⟩] = b.length + c.length := by simp [usedF]
theorem burn_off {D : Dk} (h : D.left = -1) : burnD D = D := by
  unfold burnD
  rw [h, if_neg (by decide), ← h]
theorem appendD_ok {D : Dk} {s : ByteArray} {b : List UInt8} (h0 : D.left = -1) (hm : mayN s = true) (h1 : (fileOf D.fs s).b.length + b.length ≤ 65536) (h2 : idxF D.fs s < D.fs.length ∨ D.fs.length < 200) (h3 : ((usedF D.fs + b.length : Nat) : Int) ≤ D.quota) :
    appendD D s b = (0, ⟨D.quota, D.left, putF D.fs ⟨s, (fileOf D.fs s).b ++ b, (fileOf D.fs s).safe⟩⟩) := by
  unfold appendD
  rw [if_neg (by rw [h0]; decide), burn_off h0]
  unfold appendC
  rw [if_neg (by rw [hm]; decide), if_neg (by omega), if_neg (by omega)]
theorem appendD_space {D : Dk} {s : ByteArray} {b : List UInt8} (h0 : D.left = -1) (hm : mayN s = true) (h1 : (fileOf D.fs s).b.length + b.length ≤ 65536) (h2 : idxF D.fs s < D.fs.length ∨ D.fs.length < 200) (h3 : D.quota < ((usedF D.fs + b.length : Nat) : Int)) :
    appendD D s b = (10, D) := by
  unfold appendD
  rw [if_neg (by rw [h0]; decide), burn_off h0]
  unfold appendC
  rw [if_neg (by rw [hm]; decide), if_neg (by omega), if_pos h3]
/-- A disk of no file, of one. -/
theorem app_new {q : Int} {b : List UInt8} (s : ByteArray) (hm : mayN s = true) (hb : b.length ≤ 65536) (hq : (b.length : Int) ≤ q) : appendD ⟨q, -1, []⟩ s b = (0, ⟨q, -1, [⟨s, b, 0⟩]⟩) := by
  rw [appendD_ok rfl hm (by rw [file_nil]; simpa using hb) (.inr (by simp)) (by simpa [usedF] using hq)]
  rfl
theorem app_new_space {q : Int} {b : List UInt8} (s : ByteArray) (hm : mayN s = true) (hb : b.length ≤ 65536) (hq : q < (b.length : Int)) : appendD ⟨q, -1, []⟩ s b = (10, ⟨q, -1, []⟩) :=
  appendD_space rfl hm (by rw [file_nil]; simpa using hb) (.inr (by simp)) (by simpa [usedF] using hq)
theorem app_more {q : Int} {b c : List UInt8} {k : Nat} (s : ByteArray) (hm : mayN s = true) (hb : b.length + c.length ≤ 65536) (hq : ((b.length + c.length : Nat) : Int) ≤ q) : appendD ⟨q, -1, [⟨s, b, k⟩]⟩ s c = (0, ⟨q, -1, [⟨s, b ++ c, k⟩]⟩) := by
  rw [appendD_ok rfl hm (by rw [file_hd]; exact hb) (.inr (by simp)) (by rw [used_one]; exact hq)]
  rw [file_hd, put_same]
theorem app_space {q : Int} {b c : List UInt8} {k : Nat} (s : ByteArray) (hm : mayN s = true) (hb : b.length + c.length ≤ 65536) (hq : q < ((b.length + c.length : Nat) : Int)) : appendD ⟨q, -1, [⟨s, b, k⟩]⟩ s c = (10, ⟨q, -1, [⟨s, b, k⟩]⟩) :=
  appendD_space rfl hm (by rw [file_hd]; exact hb) (.inr (by simp)) (by rw [used_one]; exact hq)
theorem file_other {s t : ByteArray} (h : s ≠ t) (b : List UInt8) (k : Nat) : fileOf [⟨s, b, k⟩] t = ⟨t, [], 0⟩ := by
  unfold fileOf
  rw [idx_tl h, idx_nil, if_neg (by simp)]
theorem app_second {q : Int} {b c : List UInt8} {k : Nat} {s t : ByteArray} (h : less s t = true) (hm : mayN t = true) (hb : c.length ≤ 65536) (hq : ((b.length + c.length : Nat) : Int) ≤ q) : appendD ⟨q, -1, [⟨s, b, k⟩]⟩ t c = (0, ⟨q, -1, [⟨s, b, k⟩, ⟨t, c, 0⟩]⟩) := by
  rw [appendD_ok rfl hm (by rw [file_other (less_ne h)]; simpa using hb) (.inr (by simp)) (by rw [used_one]; exact hq)]
  rw [file_other (less_ne h), put_behind h, List.nil_append]
theorem sync_one {q : Int} {b : List UInt8} {k : Nat} (s : ByteArray) : syncD ⟨q, -1, [⟨s, b, k⟩]⟩ s = (0, ⟨q, -1, [⟨s, b, b.length⟩]⟩) := by
  unfold syncD
  rw [if_neg (by simp), burn_off rfl]
  unfold syncC syncF
  rw [idx_hd, if_neg (by simp)]
  rfl
theorem read_hd (q l : Int) (s : ByteArray) (b : List UInt8) (k : Nat) (fs : List Fl) : readC ⟨q, l, ⟨s, b, k⟩ :: fs⟩ s = 0 ∧ readB ⟨q, l, ⟨s, b, k⟩ :: fs⟩ s = b := by
  unfold readC readB
  rw [idx_hd, if_pos (by simp), if_pos (by simp)]
  exact ⟨rfl, rfl⟩
theorem read_tl {s t : ByteArray} (h : s ≠ t) (q l : Int) (b : List UInt8) (k : Nat) (fs : List Fl) : readC ⟨q, l, ⟨s, b, k⟩ :: fs⟩ t = readC ⟨q, l, fs⟩ t ∧ readB ⟨q, l, ⟨s, b, k⟩ :: fs⟩ t = readB ⟨q, l, fs⟩ t := by
  unfold readC readB
  simp only [idx_tl h, List.length_cons, Nat.add_lt_add_iff_right]
  constructor
  · trivial
  · rfl
theorem read_nil (q l : Int) (s : ByteArray) : readC ⟨q, l, []⟩ s = 11 ∧ readB ⟨q, l, []⟩ s = [] := ⟨rfl, rfl⟩
theorem crash_one (q l : Int) (s : ByteArray) (b : List UInt8) (k : Nat) (keep : Int) : crashD ⟨q, l, [⟨s, b, k⟩]⟩ keep = ⟨q, -1, [crashL keep ⟨s, b, k⟩]⟩ := rfl
theorem trunc_bad {q : Int} {b : List UInt8} {k : Nat} (s : ByteArray) {z : Int} (h : z < 0 ∨ (b.length : Int) < z) : truncD ⟨q, -1, [⟨s, b, k⟩]⟩ s z = (1, ⟨q, -1, [⟨s, b, k⟩]⟩) := by
  unfold truncD
  rw [if_neg (by simp), burn_off rfl]
  unfold truncC
  simp only [idx_hd]
  rw [if_neg (by simp)]
  exact if_pos h
theorem trunc_one {q : Int} {b : List UInt8} {k : Nat} (s : ByteArray) {y : Nat} (h : y ≤ b.length) : truncD ⟨q, -1, [⟨s, b, k⟩]⟩ s y = (0, ⟨q, -1, [⟨s, b.take y, min k y⟩]⟩) := by
  unfold truncD
  rw [if_neg (by simp), burn_off rfl]
  unfold truncC
  simp only [idx_hd]
  rw [if_neg (by simp)]
  rw [show ([(⟨s, b, k⟩ : Fl)].getD 0 noFl) = ⟨s, b, k⟩ from rfl, if_neg (by simp only; omega), Int.toNat_natCast, put_same]
theorem turn_bad {q l : Int} {b : List UInt8} {k : Nat} (s : ByteArray) {z : Int} (h : z < 0 ∨ (b.length : Int) ≤ z) : turnC ⟨q, l, [⟨s, b, k⟩]⟩ s z = (1, ⟨q, l, [⟨s, b, k⟩]⟩) := by
  unfold turnC
  simp only [idx_hd]
  rw [if_neg (by simp)]
  exact if_pos h
theorem turn_one {q l : Int} {b : List UInt8} {k : Nat} (s : ByteArray) {y : Nat} (h : y < b.length) : turnC ⟨q, l, [⟨s, b, k⟩]⟩ s y = (0, ⟨q, l, [⟨s, b.set y (b.getD y 0 ^^^ 1), k⟩]⟩) := by
  unfold turnC
  simp only [idx_hd]
  rw [if_neg (by simp)]
  rw [show ([(⟨s, b, k⟩ : Fl)].getD 0 noFl) = ⟨s, b, k⟩ from rfl, if_neg (by simp only; omega), Int.toNat_natCast, put_same]
theorem rename_exists {q : Int} {b c : List UInt8} {j k : Nat} {s t : ByteArray} (h : s ≠ t) (hm : mayN t = true) : renameD ⟨q, -1, [⟨s, b, j⟩, ⟨t, c, k⟩]⟩ s t = (12, ⟨q, -1, [⟨s, b, j⟩, ⟨t, c, k⟩]⟩) := by
  unfold renameD
  rw [if_neg (by simp), burn_off rfl]
  unfold renameC
  simp only [idx_hd, idx_tl h]
  rw [if_neg (by simp), if_neg (by rw [hm]; decide), if_pos (by simp)]
theorem rename_ok2 {q : Int} {b c : List UInt8} {j k : Nat} {s t u : ByteArray} (h2 : t ≠ u) (h3 : s ≠ u) (h : less t u = true) (hm : mayN u = true) : renameD ⟨q, -1, [⟨s, b, j⟩, ⟨t, c, k⟩]⟩ s u = (0, ⟨q, -1, [⟨t, c, k⟩, ⟨u, b, j⟩]⟩) := by
  unfold renameD
  rw [if_neg (by simp), burn_off rfl]
  unfold renameC
  simp only [idx_hd, idx_tl h3, idx_tl h2, idx_nil]
  rw [if_neg (by simp), if_neg (by rw [hm]; decide), if_neg (by simp)]
  have e : dropF [(⟨s, b, j⟩ : Fl), ⟨t, c, k⟩] s = [⟨t, c, k⟩] := by
    unfold dropF
    rw [idx_hd]
    rfl
  rw [e, show ([(⟨s, b, j⟩ : Fl), ⟨t, c, k⟩].getD 0 noFl) = ⟨s, b, j⟩ from rfl, put_behind h]
theorem rename_none {q : Int} {b c : List UInt8} {j k : Nat} {s t u v : ByteArray} (h1 : s ≠ u) (h2 : t ≠ u) : renameD ⟨q, -1, [⟨s, b, j⟩, ⟨t, c, k⟩]⟩ u v = (11, ⟨q, -1, [⟨s, b, j⟩, ⟨t, c, k⟩]⟩) := by
  unfold renameD
  rw [if_neg (by simp), burn_off rfl]
  unfold renameC
  simp only [idx_tl h1, idx_tl h2, idx_nil]
  rw [if_pos (by simp)]
theorem remove_hd {q : Int} {b : List UInt8} {k : Nat} (s : ByteArray) (fs : List Fl) : removeD ⟨q, -1, ⟨s, b, k⟩ :: fs⟩ s = (0, ⟨q, -1, fs⟩) := by
  unfold removeD
  rw [if_neg (by simp), burn_off rfl]
  unfold removeC
  simp only [idx_hd]
  rw [if_pos (by simp)]
  unfold dropF
  rw [idx_hd]
  simp

end Go.Proofs.Ytfdhfjmmmjhgbaa.DkWalk

/-
  The laws' words of layer 8: kind, short.
-/
namespace Go.Proofs.Ytfdhfjmmmjhgbaa.DkWalk
open Go.RowKit Go.Proofs.Ytfdhfjmmmjhgbaa.MemRow Go.Proofs.Ytfdhfjmmmjhgbaa.Ev Go.Proofs.Ytfdhfjmmmjhgbaa.NameMath Go.Proofs.Ytfdhfjmmmjhgbaa.NameWalk Go.Proofs.Ytfdhfjmmmjhgbaa.EvWalk Go.Proofs.Ytfdhfjmmmjhgbaa.NumMem

/-- Which of n kinds. -/
def kindN (c : Int) (n : Nat) : Nat := ((if c < 0 then -(c + 1) else c) % n).toNat
theorem kindN_lt (c : Int) {n : Nat} (h : 0 < n) : kindN c n < n := by
  unfold kindN
  have h1 := Int.emod_nonneg (if c < 0 then -(c + 1) else c) (b := (n : Int)) (by omega)
  have h2 := Int.emod_lt_of_pos (if c < 0 then -(c + 1) else c) (b := (n : Int)) (by omega)
  omega
theorem kindN_eq (c : Int) {n : Nat} (h : 0 < n) : ((kindN c n : Nat) : Int) = (if c < 0 then -(c + 1) else c) % n := by
  unfold kindN
  exact Int.toNat_of_nonneg (Int.emod_nonneg _ (by omega))
set_option maxRecDepth 100000 in
theorem kind_any (c : Int) (n : Nat) (w : World) (hc : -9223372036854775808 ≤ c ∧ c ≤ 9223372036854775807) (h0 : 0 < n) (h1 : n ≤ 1000000) :
    Calls Try.prog 11 #[.int .i64 c, .int .i64 n] w fun e w' => e = .returned (.int .i64 (kindN c n)) ∧ w = w' := by
  have hk := kindN_eq c h0
  have hn0 : (n : Int) ≠ 0 := by omega
  have hn1 : (n : Int) ≠ -1 := by omega
  by_cases hneg : c < 0
  · rw [if_pos hneg] at hk
    have ht : Int.tmod (-(c + 1)) n = ((kindN c n : Nat) : Int) := by rw [hk]; exact Int.tmod_eq_emod_of_nonneg (by omega)
    have hl := kindN_lt c h0
    generalize kindN c n = k at *
    clear hk
    go_enter Try.func11, Try.ntmps11
    go_wp2_with fail
    go_ret
    exact ⟨by simp, rfl⟩
  · rw [if_neg hneg] at hk
    have ht : Int.tmod c n = ((kindN c n : Nat) : Int) := by rw [hk]; exact Int.tmod_eq_emod_of_nonneg (by omega)
    have hl := kindN_lt c h0
    generalize kindN c n = k at *
    clear hk
    go_enter Try.func11, Try.ntmps11
    go_wp2_with fail
    go_ret
    exact ⟨by simp, rfl⟩
set_option maxRecDepth 100000 in
theorem short_any (A : Option Addr) (n cap : Nat) (l : List UInt8) (w : World) (h : Rd w A n cap l) :
    Calls Try.prog 28 #[.slice A n cap] w fun e w' => e = .returned (.slice A (min n 200) cap) ∧ Rd w A (min n 200) cap (l.take 200) ∧ w = w' := by
  have hl := h.len
  have hcap := h.le_cap
  by_cases h2 : 200 < n
  · have hr := h.first (k := 200) (by omega)
    have hm : min n 200 = 200 := by omega
    have qs := slice_upto A n cap 200 (by omega)
    have i1 : (200 : Int) < n := by omega
    have i2 : (200 : Int) ≤ cap := by omega
    rw [hm]
    go_enter Try.func28, Try.ntmps28
    go_wp2_with fail
    go_ret
    exact ⟨rfl, hr, rfl⟩
  · have hm : min n 200 = n := by omega
    have ht : l.take 200 = l := List.take_of_length_le (by omega)
    have i1 : ¬ (200 : Int) < n := by omega
    rw [hm, ht]
    have H := Go.Lib.hid h
    clear h
    go_enter Try.func28, Try.ntmps28
    go_wp2_with fail
    go_ret
    exact ⟨rfl, H.out, rfl⟩

end Go.Proofs.Ytfdhfjmmmjhgbaa.DkWalk

/-
  The landed disk in memory: its box, its map of names to files, each file's box and row of bytes.
-/
namespace Go.Proofs.Ytfdhfjmmmjhgbaa.DkWalk
open Go.RowKit Go.Maps Go.Proofs.Ytfdhfjmmmjhgbaa.MemRow Go.Proofs.Ytfdhfjmmmjhgbaa.Ev Go.Proofs.Ytfdhfjmmmjhgbaa.NameMath Go.Proofs.Ytfdhfjmmmjhgbaa.NameWalk Go.Proofs.Ytfdhfjmmmjhgbaa.EvWalk Go.Proofs.Ytfdhfjmmmjhgbaa.NumMem

/-! ### The map's elements: pointers to files -/
def ptrR (v : Value) : Option (DataW Nat × List MemPlace) :=
  match v with
  | .pointer (some ⟨g, 0, none⟩) => some (.held g, [])
  | .pointer none => some (.nil, [])
  | _ => none
theorem ptrR_some (g : Nat) : ptrR (.pointer (some ⟨g, 0, none⟩)) = some (.held g, []) := rfl
theorem ptrR_none : ptrR (.pointer none) = some (.nil, []) := rfl
theorem ptrR_held {v : Value} {g : Nat} {ps : List MemPlace} (h : ptrR v = some (.held g, ps)) : v = .pointer (some ⟨g, 0, none⟩) := by
  unfold ptrR at h
  split at h
  · simp only [Option.some.injEq, Prod.mk.injEq, DataW.held.injEq] at h
    rw [h.1]
  · simp at h
  · cases h
theorem ptrR_nil {v : Value} {ps : List MemPlace} (h : ptrR v = some (.nil, ps)) : v = .pointer none := by
  unfold ptrR at h
  split at h
  · simp at h
  · rfl
  · cases h
theorem lawK : Keyed Try.prog 9 := string_keyed Try.underlying9
theorem keyS {s : ByteArray} (h : s.size ≤ maxLen) : keyOf Try.prog 9 (.string s) = some (keyF s) := Go.WideMaps.keyOf_string_mk Try.underlying9 h

/-! ### A file in memory -/
structure Hd where
  k : Nat
  B : Option Addr
  nb : Nat
  cb : Nat
structure FileR (w : World) (F : Nat → Prop) (f : Fl) (h : Hd) : Prop where
  box : w.heap[h.k]? = some (.cells #[.slice h.B h.nb h.cb, .int .i64 f.safe] 64 (0, 0))
  own : Own w 0 5 h.B h.nb h.cb f.b
  fk : F h.k
  fb : ∀ a, h.B = some a → F a.block
def Apart (x y : Hd) : Prop := x.k ≠ y.k ∧ ∀ a b, x.B = some a → y.B = some b → a.block ≠ b.block
theorem Apart.symm {x y : Hd} (h : Apart x y) : Apart y x := ⟨fun e => h.1 e.symm, fun a b ha hb e => h.2 b a hb ha e.symm⟩
section
variable {w w' : World} {F G : Nat → Prop} {f : Fl} {h : Hd}
theorem FileR.lt (r : FileR w F f h) : h.k < w.heap.size := (Array.getElem?_eq_some_iff.1 r.box).1
theorem FileR.blt (r : FileR w F f h) : ∀ a, h.B = some a → a.block < w.heap.size := fun a ha => (World.ownsRow.lt r.own a.block (by simp [Value.ownBlock, ha])).2
theorem FileR.kept (r : FileR w F f h) (h1 : w'.heap[h.k]? = w.heap[h.k]?) (h2 : ∀ a, h.B = some a → w'.heap[a.block]? = w.heap[a.block]?) (hs : ∀ k, F k → G k) : FileR w' G f h :=
  ⟨h1.trans r.box, own8_keep r.own h2, hs _ r.fk, fun a ha => hs _ (r.fb a ha)⟩
theorem FileR.wide (r : FileR w F f h) (hs : ∀ k, F k → G k) : FileR w G f h := ⟨r.box, r.own, hs _ r.fk, fun a ha => hs _ (r.fb a ha)⟩
theorem FileR.grown {row : Option Nat} (r : FileR w F f h) (hg : w.grownBy w' row) (hk : some h.k ≠ row) (hb : ∀ a, h.B = some a → some a.block ≠ row) : FileR w' F f h :=
  r.kept (hg.block _ r.lt hk) (fun a ha => hg.block _ (r.blt a ha) (hb a ha)) fun _ hf => hf
theorem FileR.c0 (r : FileR w F f h) : w.cell? ⟨h.k, 0, none⟩ = some (.slice h.B h.nb h.cb) := by rw [cell_of_row w h.k 0 _ _ _ r.box]; rfl
theorem FileR.c1 (r : FileR w F f h) : w.cell? ⟨h.k, 1, none⟩ = some (.int .i64 f.safe) := by rw [cell_of_row w h.k 1 _ _ _ r.box]; rfl
theorem FileR.frozen (r : FileR w F f h) (i : Nat) : w.frozen? ⟨h.k, i, none⟩ = false := by simp [World.frozen?, r.box]
theorem FileR.not {g : Nat} {o : Obj} (r : FileR w F f h) (hg : w.heap[g]? = some o) (ho : ∀ cs T fr, o = .cells cs T fr → T ≠ 64 ∧ T ≠ 5) : h.k ≠ g ∧ ∀ a, h.B = some a → a.block ≠ g := by
  refine ⟨fun e => ?_, fun a ha e => ?_⟩
  · have h1 := r.box
    rw [e, hg] at h1
    injection h1 with h1
    exact (ho _ _ _ h1).1 rfl
  · rcases r.own.2 with ⟨hv, _⟩ | ⟨g', c, cur, hv, _, hg', _⟩
    · rw [ha] at hv
      cases hv
    · have e1 : h.B = some ⟨g', 0, none⟩ := by injection hv
      rw [ha] at e1
      injection e1 with e1
      rw [e1] at e
      simp only at e
      rw [e, hg] at hg'
      injection hg' with hg'
      exact (ho _ _ _ hg').2 rfl
end
theorem pairSet0 {w : World} {g : Nat} {c0 c1 x : Value} {T : TypeId} (h : w.heap[g]? = some (.cells #[c0, c1] T (0, 0))) : (w.setCell ⟨g, 0, none⟩ x).heap[g]? = some (.cells #[x, c1] T (0, 0)) := two_set0 h
theorem pairSet1 {w : World} {g : Nat} {c0 c1 x : Value} {T : TypeId} (h : w.heap[g]? = some (.cells #[c0, c1] T (0, 0))) : (w.setCell ⟨g, 1, none⟩ x).heap[g]? = some (.cells #[c0, x] T (0, 0)) := two_set1 h
/-- v[:m] of a row of one's own. -/
theorem own8_first {w : World} {base : Nat} {t : TypeId} {A : Option Addr} {n cap : Nat} {l : List UInt8} (h : Own w base t A n cap l) {m : Nat} (hm : m ≤ n) : Own w base t A m cap (l.take m) := by
  have hl := h.len
  have h1 := h.1
  refine ⟨by rw [cellsOf_length, List.length_take]; omega, ?_⟩
  rcases h.2 with ⟨hv, hn⟩ | ⟨g, c, cur, hv, hb, hg, hnc, hcm, hcs, ht⟩
  · refine .inl ⟨?_, by omega⟩
    injection hv with e1 e2 e3
    rw [e1, e3]
    congr
    omega
  · injection hv with e1 e2 e3
    subst e1 e3
    refine .inr ⟨g, cap, cur, rfl, hb, hg, by omega, hcm, hcs, ?_⟩
    have e : cellsOf (l.take m) = (cellsOf l).take m := by simp [cellsOf, List.map_take]
    rw [e, ← ht, List.take_take]
    congr 1
    omega

/-! ### The disk -/
structure LdAt (w : World) (g : Nat) (D : Dk) (F : Nat → Prop) (qv : Int) (mb : Nat) (fu : Bool) (lv : Int) (M : DataW Nat) (hd : ByteArray → Hd) : Prop where
  box : w.heap[g]? = some (.cells #[.int .i64 qv, .map (some mb), .bool fu, .int .i64 lv] 58 (0, 0))
  qz : max qv 0 = D.quota
  lz : D.left = if fu = true then lv else -1
  l0 : fu = true → 0 ≤ lv
  own : w.ownsMap Try.prog 9 ptrR mb D.fs.length M
  mp : MapOf M D.fs fun s => (hd s).k
  files : ∀ f ∈ D.fs, FileR w F f (hd f.name)
  apart : ∀ f ∈ D.fs, ∀ f' ∈ D.fs, f.name ≠ f'.name → Apart (hd f.name) (hd f'.name)
  fg : F g
  fm : F mb
  lt : ∀ k, F k → k < w.heap.size
theorem tight {H : Type} {w : World} {P : Program} {k : TypeId} {R : Value → Option (DataW H × List MemPlace)} {b n : Nat} {M : DataW H} (h : w.ownsMap P k R b n M) : w.ownsMap P k R b (Maps.size M) M := by
  obtain ⟨es, clock, hb, F, hs, hD⟩ := h
  refine ⟨es, clock, hb, F, ?_, hD⟩
  rw [hD, size_eq, length_sorted]
  simp
section
variable {w w' : World} {g : Nat} {D : Dk} {F G : Nat → Prop} {qv lv : Int} {mb : Nat} {fu : Bool} {M : DataW Nat} {hd : ByteArray → Hd}
theorem LdAt.c0 (h : LdAt w g D F qv mb fu lv M hd) : w.cell? ⟨g, 0, none⟩ = some (.int .i64 qv) := by rw [cell_of_row w g 0 _ _ _ h.box]; rfl
theorem LdAt.c1 (h : LdAt w g D F qv mb fu lv M hd) : w.cell? ⟨g, 1, none⟩ = some (.map (some mb)) := by rw [cell_of_row w g 1 _ _ _ h.box]; rfl
theorem LdAt.c2 (h : LdAt w g D F qv mb fu lv M hd) : w.cell? ⟨g, 2, none⟩ = some (.bool fu) := by rw [cell_of_row w g 2 _ _ _ h.box]; rfl
theorem LdAt.c3 (h : LdAt w g D F qv mb fu lv M hd) : w.cell? ⟨g, 3, none⟩ = some (.int .i64 lv) := by rw [cell_of_row w g 3 _ _ _ h.box]; rfl
theorem LdAt.frozen (h : LdAt w g D F qv mb fu lv M hd) (i : Nat) : w.frozen? ⟨g, i, none⟩ = false := by simp [World.frozen?, h.box]
theorem LdAt.block (h : LdAt w g D F qv mb fu lv M hd) : ∃ es clock, w.heap[mb]? = some (.map es clock) := by
  obtain ⟨es, clock, hb, _⟩ := h.own
  exact ⟨es, clock, hb⟩
theorem LdAt.ne (h : LdAt w g D F qv mb fu lv M hd) : mb ≠ g := by
  obtain ⟨es, clock, hb⟩ := h.block
  intro e
  rw [e, h.box] at hb
  injection hb with hb
  cases hb
/-- No file lies in the disk's box, nor in its map. -/
theorem LdAt.far (h : LdAt w g D F qv mb fu lv M hd) {f : Fl} (hf : f ∈ D.fs) : (hd f.name).k ≠ g ∧ (hd f.name).k ≠ mb ∧ ∀ a, (hd f.name).B = some a → a.block ≠ g ∧ a.block ≠ mb := by
  obtain ⟨es, clock, hb⟩ := h.block
  have h1 := (h.files f hf).not h.box fun cs T fr e => by injection e with _ e _; subst e; decide
  have h2 := (h.files f hf).not hb fun cs T fr e => by cases e
  exact ⟨h1.1, h2.1, fun a ha => ⟨h1.2 a ha, h2.2 a ha⟩⟩
theorem LdAt.keep (h : LdAt w g D F qv mb fu lv M hd) (hs : w.heap.size ≤ w'.heap.size) (hk : ∀ k, F k → w'.heap[k]? = w.heap[k]?) : LdAt w' g D F qv mb fu lv M hd := by
  obtain ⟨es, clock, hb, ft, hn, hD⟩ := h.own
  exact ⟨(hk g h.fg).trans h.box, h.qz, h.lz, h.l0, ⟨es, clock, (hk mb h.fm).trans hb, ft, hn, hD⟩, h.mp, fun f hf => (h.files f hf).kept (hk _ (h.files f hf).fk) (fun a ha => hk _ ((h.files f hf).fb a ha)) (fun _ h => h), h.apart, h.fg, h.fm, fun k hf => Nat.lt_of_lt_of_le (h.lt k hf) hs⟩
theorem LdAt.below (h : LdAt w g D F qv mb fu lv M hd) (hb : Below w.heap.size w w') : LdAt w' g D F qv mb fu lv M hd := h.keep hb.size fun k hf => hb.block k (h.lt k hf)
theorem LdAt.wide (h : LdAt w g D F qv mb fu lv M hd) (hs : ∀ k, F k → G k) (hl : ∀ k, G k → k < w.heap.size) : LdAt w g D G qv mb fu lv M hd :=
  ⟨h.box, h.qz, h.lz, h.l0, h.own, h.mp, fun f hf => (h.files f hf).wide hs, h.apart, hs _ h.fg, hs _ h.fm, hl⟩
theorem four_set {w : World} {g i : Nat} {c0 c1 c2 c3 x : Value} {T : TypeId} (h : w.heap[g]? = some (.cells #[c0, c1, c2, c3] T (0, 0))) (hi : i < 4) : (w.setCell ⟨g, i, none⟩ x).heap[g]? = some (.cells (#[c0, c1, c2, c3].set i x (by simpa using hi)) T (0, 0)) := by
  simp only [World.setCell, Array.getElem?_modify, h]
  match i, hi with
  | 0, _ => rfl
  | 1, _ => rfl
  | 2, _ => rfl
  | 3, _ => rfl
/-- All but the disk's box is kept. -/
theorem LdAt.boxed (h : LdAt w g D F qv mb fu lv M hd) (hg : w.grownBy w' (some g)) {q' l' L' : Int} {fu' : Bool} {Q' : Int} (hb : w'.heap[g]? = some (.cells #[.int .i64 q', .map (some mb), .bool fu', .int .i64 l'] 58 (0, 0))) (hq : max q' 0 = Q') (hl : L' = if fu' = true then l' else -1) (h0 : fu' = true → 0 ≤ l') :
    LdAt w' g ⟨Q', L', D.fs⟩ F q' mb fu' l' M hd :=
  ⟨hb, hq, hl, h0, h.own.kept hg (fun e => h.ne (by injection e)), h.mp, fun f hf => (h.files f hf).grown hg (fun e => (h.far hf).1 (by injection e)) (fun a ha e => ((h.far hf).2.2 a ha).1 (by injection e)), h.apart, h.fg, h.fm, fun k hf => Nat.lt_of_lt_of_le (h.lt k hf) hg.size⟩
theorem LdAt.setL (h : LdAt w g D F qv mb fu lv M hd) (x : Int) (hf : fu = true) (h0 : 0 ≤ x) : LdAt (w.setCell ⟨g, 3, none⟩ (.int .i64 x)) g ⟨D.quota, x, D.fs⟩ F qv mb fu x M hd := by
  have hs := grownSet w g 3 (.int .i64 x)
  exact h.boxed hs (four_set h.box (by omega)) h.qz (by rw [if_pos hf]) (fun _ => h0)
theorem LdAt.size (h : LdAt w g D F qv mb fu lv M hd) (hr : Rising D.fs) : Maps.size M = D.fs.length := h.mp.size (h.own.canon lawK) hr
theorem LdAt.isMap (h : LdAt w g D F qv mb fu lv M hd) : IsMap M := by
  obtain ⟨es, e, _⟩ := h.own.canon lawK
  exact ⟨es, e⟩
/-- What a name is given by the map. -/
def ptrOf (fs : List Fl) (hd : ByteArray → Hd) (s : ByteArray) : Value := if idxF fs s < fs.length then .pointer (some ⟨(hd s).k, 0, none⟩) else .pointer none
theorem zeroPtr (W : World) : (zeroValue 62).run Try.prog W = .ok (.pointer none) W := Try.zeroValue62 W
theorem LdAt.value (h : LdAt w g D F qv mb fu lv M hd) (s : ByteArray) {v : Value} {ps : List MemPlace} (hv : ptrR v = some (M.atKey (keyF s) .nil, ps)) : v = ptrOf D.fs hd s := by
  unfold ptrOf
  by_cases hk : idxF D.fs s < D.fs.length
  · rw [if_pos hk]
    have h1 := h.mp.at_ _ (fl_get hk) .nil
    rw [idxF_name hk] at h1
    rw [h1] at hv
    exact ptrR_held hv
  · rw [if_neg hk]
    have h1 := h.mp.hasS s
    rw [decide_eq_false hk] at h1
    rw [atKey_of_not_has h1] at hv
    exact ptrR_nil hv
theorem LdAt.look (h : LdAt w g D F qv mb fu lv M hd) {s : ByteArray} (hs : s.size ≤ maxLen) : (Instr.lookup 56 (.map (some mb)) (.string s) false).run Try.prog w = .ok (ptrOf D.fs hd s) w := by
  obtain ⟨v, ps, hrun, hv⟩ := h.own.lookup lawK Try.underlying56 (zeroPtr w) ptrR_none (keyS hs)
  rw [hrun, h.value s hv]
theorem LdAt.look_ok (h : LdAt w g D F qv mb fu lv M hd) {s : ByteArray} (hs : s.size ≤ maxLen) : (Instr.lookup 56 (.map (some mb)) (.string s) true).run Try.prog w = .ok (.tuple #[ptrOf D.fs hd s, .bool (decide (idxF D.fs s < D.fs.length))]) w := by
  obtain ⟨v, ps, hrun, hv⟩ := h.own.look_ok lawK Try.underlying56 (zeroPtr w) ptrR_none (keyS hs)
  rw [hrun, h.value s hv, h.mp.hasS s]
/-- The file of a name that is there. -/
theorem LdAt.file (h : LdAt w g D F qv mb fu lv M hd) {s : ByteArray} (hk : idxF D.fs s < D.fs.length) : FileR w F (D.fs.getD (idxF D.fs s) noFl) (hd s) ∧ (hd s).k ≠ g ∧ (hd s).k ≠ mb := by
  have h1 := h.files _ (fl_get hk)
  have h2 := h.far (fl_get hk)
  rw [idxF_name hk] at h1 h2
  exact ⟨h1, h2.1, h2.2.1⟩
def setH (hd : ByteArray → Hd) (s : ByteArray) (x : Hd) : ByteArray → Hd := fun t => if t = s then x else hd t
theorem setH_at (hd : ByteArray → Hd) (s : ByteArray) (x : Hd) : setH hd s x s = x := if_pos rfl
theorem setH_ne (hd : ByteArray → Hd) {s t : ByteArray} (x : Hd) (h : t ≠ s) : setH hd s x t = hd t := if_neg h
/-- One file is written: its box, its row (the old one, or a new one), in whatever blocks. -/
theorem LdAt.wroteG (h : LdAt w g D F qv mb fu lv M hd) {s : ByteArray} (hk : idxF D.fs s < D.fs.length) {fs' : List Fl} {f : Fl} {x : Hd} (hn : f.name = s) (hset : SetTo fs' D.fs f) (hlen : fs'.length = D.fs.length) (hxk : x.k = (hd s).k)
    (hc : Ch (fun k => k = (hd s).k ∨ ∃ a, (hd s).B = some a ∧ k = a.block) w w') (hB : ∀ a, x.B = some a → (∃ b, (hd s).B = some b ∧ a.block = b.block) ∨ (w.heap.size ≤ a.block ∧ a.block < w'.heap.size))
    (hFG : ∀ k, F k → G k) (hGl : ∀ k, G k → k < w'.heap.size) (hBG : ∀ a, x.B = some a → G a.block)
    (hb : w'.heap[x.k]? = some (.cells #[.slice x.B x.nb x.cb, .int .i64 f.safe] 64 (0, 0))) (ho : Own w' 0 5 x.B x.nb x.cb f.b) :
    LdAt w' g ⟨D.quota, D.left, fs'⟩ G qv mb fu lv M (setH hd s x) := by
  obtain ⟨fr, fk1, fk2⟩ := h.file hk
  have hfar := h.far (fl_get hk)
  rw [idxF_name hk] at hfar
  have glt := h.lt g h.fg
  have mlt := h.lt mb h.fm
  have kg : w'.heap[g]? = w.heap[g]? := hc.block g glt fun e => by
    rcases e with e | ⟨a, ha, e⟩
    · exact fk1 e.symm
    · exact (hfar.2.2 a ha).1 e.symm
  have km : w'.heap[mb]? = w.heap[mb]? := hc.block mb mlt fun e => by
    rcases e with e | ⟨a, ha, e⟩
    · exact fk2 e.symm
    · exact (hfar.2.2 a ha).2 e.symm
  have hfs : ∀ y ∈ D.fs, y.name ≠ s → Apart (hd y.name) (hd s) := fun y hy hne => by
    have h1 := h.apart y hy _ (fl_get hk) (by rw [idxF_name hk]; exact hne)
    rwa [idxF_name hk] at h1
  have hyk : ∀ y ∈ D.fs, y.name ≠ s → FileR w' F y (hd y.name) := fun y hy hne => by
    have hr := h.files y hy
    have ha := hfs y hy hne
    have e : ∀ b : Nat, b ≠ (hd s).k → (∀ a, (hd s).B = some a → b ≠ a.block) → b < w.heap.size → w'.heap[b]? = w.heap[b]? := fun b h1 h2 h3 => hc.block b h3 fun e => by
      rcases e with e | ⟨a, ha, e⟩
      · exact h1 e
      · exact h2 a ha e
    have tk := hr.not fr.box
    refine hr.kept (e _ ha.1 (fun a hb2 he => ?_) hr.lt) (fun a hb2 => e _ (fun he => ?_) (fun b hb3 => ha.2 a b hb2 hb3) (hr.blt a hb2)) fun _ h => h
    · exact own8_not fr.own hr.box (by decide) a hb2 he.symm
    · exact own8_not hr.own fr.box (by decide) a hb2 he
  obtain ⟨es, clock, hbm, ft, hsz, hD⟩ := h.own
  refine ⟨kg.trans h.box, h.qz, h.lz, h.l0, ⟨es, clock, km.trans hbm, ft, by rw [hlen]; exact hsz, hD⟩, ?_, fun y hy => ?_, fun y hy z hz hne => ?_, hFG _ h.fg, hFG _ h.fm, hGl⟩
  · refine h.mp.same (fun t => ⟨?_, ?_⟩) fun y hy => ?_
    · rintro ⟨y, hy, rfl⟩
      rcases (hset y).1 hy with rfl | ⟨hy, _⟩
      · exact ⟨_, fl_get hk, by rw [idxF_name hk, hn]⟩
      · exact ⟨y, hy, rfl⟩
    · rintro ⟨y, hy, rfl⟩
      by_cases e : y.name = f.name
      · exact ⟨f, (hset f).2 (.inl rfl), e.symm⟩
      · exact ⟨y, (hset y).2 (.inr ⟨hy, e⟩), rfl⟩
    · unfold setH
      split
      · next e => rw [hxk, e]
      · rfl
  · rcases (hset y).1 hy with rfl | ⟨hy, hne⟩
    · rw [hn, setH_at]
      exact ⟨hb, ho, by rw [hxk]; exact hFG _ fr.fk, hBG⟩
    · rw [hn] at hne
      rw [setH_ne _ _ hne]
      exact (hyk y hy hne).wide hFG
  · have new : ∀ y ∈ D.fs, y.name ≠ s → Apart (hd y.name) x := fun y hy hne2 => by
      have ha := hfs y hy hne2
      refine ⟨by rw [hxk]; exact ha.1, fun a b h1 h2 e => ?_⟩
      rcases hB b h2 with ⟨c, hc2, e2⟩ | h3
      · exact ha.2 a c h1 hc2 (by rw [e, e2])
      · have := (h.files y hy).blt a h1
        omega
    rcases (hset y).1 hy with rfl | ⟨hy, hny⟩
    · rcases (hset z).1 hz with rfl | ⟨hz, hnz⟩
      · exact absurd rfl hne
      · rw [hn] at hnz
        rw [hn, setH_at, setH_ne _ _ hnz]
        exact (new z hz hnz).symm
    · rcases (hset z).1 hz with rfl | ⟨hz, hnz⟩
      · rw [hn] at hny
        rw [hn, setH_at, setH_ne _ _ hny]
        exact new y hy hny
      · rw [hn] at hny hnz
        rw [setH_ne _ _ hny, setH_ne _ _ hnz]
        exact h.apart y hy z hz hne
theorem LdAt.wrote (h : LdAt w g D F qv mb fu lv M hd) {s : ByteArray} (hk : idxF D.fs s < D.fs.length) {fs' : List Fl} {f : Fl} {x : Hd} (hn : f.name = s) (hset : SetTo fs' D.fs f) (hlen : fs'.length = D.fs.length) (hxk : x.k = (hd s).k)
    (hc : Ch (fun k => k = (hd s).k ∨ ∃ a, (hd s).B = some a ∧ k = a.block) w w') (hB : ∀ a, x.B = some a → (∃ b, (hd s).B = some b ∧ a.block = b.block) ∨ (w.heap.size ≤ a.block ∧ a.block < w'.heap.size))
    (hb : w'.heap[x.k]? = some (.cells #[.slice x.B x.nb x.cb, .int .i64 f.safe] 64 (0, 0))) (ho : Own w' 0 5 x.B x.nb x.cb f.b) :
    LdAt w' g ⟨D.quota, D.left, fs'⟩ (up F w w') qv mb fu lv M (setH hd s x) :=
  h.wroteG hk hn hset hlen hxk hc hB (fun _ hk => .inl hk) (fun _ hk => up_lt h.lt hc.size hk) (fun a ha => by
    rcases hB a ha with ⟨b, hb2, e⟩ | h2
    · rw [e]
      exact .inl ((h.file hk).1.fb b hb2)
    · exact .inr h2) hb ho
/-- The map is written: a file under its name, that was there, or is new. -/
theorem LdAt.named (h : LdAt w g D F qv mb fu lv M hd) {fs' : List Fl} (hr' : Rising fs') {f : Fl} {x : Hd} (hset : SetTo fs' D.fs f) {n' : Nat} (ho : w'.ownsMap Try.prog 9 ptrR mb n' (M.put (keyF f.name) (.held x.k))) (hg : w.grownBy w' (some mb)) (hx : FileR w F f x)
    (ha : ∀ y ∈ D.fs, y.name ≠ f.name → Apart (hd y.name) x) : LdAt w' g ⟨D.quota, D.left, fs'⟩ F qv mb fu lv (M.put (keyF f.name) (.held x.k)) (setH hd f.name x) := by
  have hmp : MapOf (M.put (keyF f.name) (.held x.k)) fs' fun s => (setH hd f.name x s).k := h.mp.put h.isMap hset x.k (by rw [setH_at]) fun s hs => by rw [setH_ne _ _ hs]
  have hsz := hmp.size (ho.canon lawK) hr'
  obtain ⟨es, clock, hb⟩ := h.block
  have hxm := hx.not hb fun cs T fr e => by cases e
  refine ⟨(hg.block g (h.lt g h.fg) (fun e => h.ne (by injection e with e; exact e.symm))).trans h.box, h.qz, h.lz, h.l0, by rw [← hsz]; exact tight ho, hmp, fun y hy => ?_, fun y hy z hz hne => ?_, h.fg, h.fm, fun k hf => Nat.lt_of_lt_of_le (h.lt k hf) hg.size⟩
  · rcases (hset y).1 hy with rfl | ⟨hy, hne⟩
    · rw [setH_at]
      exact hx.grown hg (fun e => hxm.1 (by injection e)) fun a ha e => hxm.2 a ha (by injection e)
    · rw [setH_ne _ _ hne]
      exact (h.files y hy).grown hg (fun e => (h.far hy).2.1 (by injection e)) fun a ha e => ((h.far hy).2.2 a ha).2 (by injection e)
  · rcases (hset y).1 hy with rfl | ⟨hy, hny⟩
    · rcases (hset z).1 hz with rfl | ⟨hz, hnz⟩
      · exact absurd rfl hne
      · rw [setH_at, setH_ne _ _ hnz]
        exact (ha z hz hnz).symm
    · rcases (hset z).1 hz with rfl | ⟨hz, hnz⟩
      · rw [setH_at, setH_ne _ _ hny]
        exact ha y hy hny
      · rw [setH_ne _ _ hny, setH_ne _ _ hnz]
        exact h.apart y hy z hz hne
/-- The map is written: a name taken out. -/
theorem LdAt.dropped (h : LdAt w g D F qv mb fu lv M hd) {s : ByteArray} {fs' : List Fl} (hr' : Rising fs') (hset : ∀ y, y ∈ fs' ↔ y ∈ D.fs ∧ y.name ≠ s) {n' : Nat} (ho : w'.ownsMap Try.prog 9 ptrR mb n' (M.del (keyF s))) (hg : w.grownBy w' (some mb)) :
    LdAt w' g ⟨D.quota, D.left, fs'⟩ F qv mb fu lv (M.del (keyF s)) hd := by
  have hmp : MapOf (M.del (keyF s)) fs' fun s => (hd s).k := h.mp.del hset
  have hsz := hmp.size (ho.canon lawK) hr'
  refine ⟨(hg.block g (h.lt g h.fg) (fun e => h.ne (by injection e with e; exact e.symm))).trans h.box, h.qz, h.lz, h.l0, by rw [← hsz]; exact tight ho, hmp, fun y hy => ?_, fun y hy z hz hne => h.apart y ((hset y).1 hy).1 z ((hset z).1 hz).1 hne, h.fg, h.fm, fun k hf => Nat.lt_of_lt_of_le (h.lt k hf) hg.size⟩
  have hy := ((hset y).1 hy).1
  exact (h.files y hy).grown hg (fun e => (h.far hy).2.1 (by injection e)) fun a ha e => ((h.far hy).2.2 a ha).2 (by injection e)
end
def LdIs (w : World) (g : Nat) (D : Dk) (F : Nat → Prop) : Prop := ∃ qv mb fu lv M hd, LdAt w g D F qv mb fu lv M hd
/-- What a call that answers with a number comes to. -/
def DidL (c : Int) (D' : Dk) (g : Nat) (F : Nat → Prop) (w : World) (e : Ending) (w' : World) : Prop := e = .returned (.int .i64 c) ∧ LdIs w' g D' (up F w w') ∧ Ch F w w'
theorem DidL.of {c : Int} {D' : Dk} {g : Nat} {F : Nat → Prop} {w w' : World} {qv lv : Int} {mb : Nat} {fu : Bool} {M : DataW Nat} {hd : ByteArray → Hd} (h : LdAt w' g D' F qv mb fu lv M hd) (hl : ∀ k, F k → k < w.heap.size) (hc : Ch F w w') : DidL c D' g F w (.returned (.int .i64 c)) w' :=
  ⟨rfl, ⟨_, _, _, _, _, _, h.wide (fun _ hf => .inl hf) (fun _ hk => up_lt hl hc.size hk)⟩, hc⟩
theorem LdIs.keep {w w' : World} {g : Nat} {D : Dk} {F : Nat → Prop} (h : LdIs w g D F) (hs : w.heap.size ≤ w'.heap.size) (hk : ∀ k, F k → w'.heap[k]? = w.heap[k]?) : LdIs w' g D F := by
  obtain ⟨qv, mb, fu, lv, M, hd, h⟩ := h
  exact ⟨qv, mb, fu, lv, M, hd, h.keep hs hk⟩
theorem LdIs.wide {w : World} {g : Nat} {D : Dk} {F G : Nat → Prop} (h : LdIs w g D F) (hs : ∀ k, F k → G k) (hl : ∀ k, G k → k < w.heap.size) : LdIs w g D G := by
  obtain ⟨qv, mb, fu, lv, M, hd, h⟩ := h
  exact ⟨qv, mb, fu, lv, M, hd, h.wide hs hl⟩
theorem LdIs.lt {w : World} {g : Nat} {D : Dk} {F : Nat → Prop} (h : LdIs w g D F) : ∀ k, F k → k < w.heap.size := by
  obtain ⟨qv, mb, fu, lv, M, hd, h⟩ := h
  exact h.lt

end Go.Proofs.Ytfdhfjmmmjhgbaa.DkWalk

