/-
  Joined texts: DlE, DlF, DlG, DkShelf, DlH, DmCom, WlMany, EdShown, EeCom, BtOpen, BtRef, BtRefT, FrOpen, CrcEntry, CrcNew, CrcSum, CrcPut, CrcSeal, CrcRef, FrRef, WlRefA, FrRefB, FrRefC, FrRefD, FtWord.
-/
import Derived.Shelf.Sort.Plain
import Derived.Shelf.Slices.In.SortNone
import Derived.Shelf.SlIter.Nil
import Derived.Test.YtppidbdkejkopaaGreatDoorProg
import Derived.Lib.SmallJoins
import Derived.Deep.QuietTactic
import Derived.BigQuiet
import Derived.Deep.RegionHeld
import Derived.Deep.DeepCutAuto
import Derived.Deep.CutBlock
import Derived.Deep.Slices
import Derived.WalkKit
import Derived.KernelRfl
import Derived.Laws.BitsAllLaws
import Derived.Lib.Hide
import Derived.Laws.Rows
import Derived.Deep.WholeRow
import Derived.WalkSpells
import Derived.Lib.LazyBuf
import Derived.Laws.Slices
import Derived.Laws.CopyOwn
import Derived.Deep.RegionWith
import Derived.Deep.RegionLaw
import Derived.IntWalk
import Derived.ArgAppend
import Derived.Test.YtppidbdkejkopaaGreatDoorMh4
namespace Go.Proofs.YtppidbdkejkopaaGreatDoor.DkWalk
open Go.RowKit Go.Maps MemRow Ev NameMath NameWalk EvWalk NumMem
theorem rdc_of {w : World} {A : Option Addr} {n cap : Nat} {l : List UInt8} (h : Rd w A n cap l) : RdC 1 w A n cap (cellsOf l) := by
  refine ⟨by rw [cellsOf_length, h.len, Nat.mul_one], h.2.1, h.2.2.1, fun hn => ?_⟩
  obtain ⟨b, o, hA, hc⟩ := h.2.2.2 hn
  refine ⟨b, o, hA, fun i v hi => ?_⟩
  have hl := h.len
  have hil : i < l.length := by
    have := (List.getElem?_eq_some_iff.1 hi).1
    rwa [cellsOf_length] at this
  rw [hc i (by omega)]
  unfold cellsOf at hi
  rw [List.getElem?_map, List.getElem?_eq_getElem hil] at hi
  rw [← hi, List.getD_eq_getElem?_getD, List.getElem?_eq_getElem hil]
  rfl
theorem LdAt.noByte {w : World} {g : Nat} {D : Dk} {F : Nat → Prop} {qv lv : Int} {mb : Nat} {fu : Bool} {M : DataW Nat} {hd : ByteArray → Hd} (h : LdAt w g D F qv mb fu lv M hd) : ∀ o k, w.cell? ⟨g, o, none⟩ ≠ some (.int .u8 k) := by
  intro o k
  rw [cell_of_row w g o _ _ _ h.box]
  match o with
  | 0 => simp
  | 1 => simp
  | 2 => simp
  | 3 => simp
  | n + 4 => simp
structure AppRel (w : World) (F G : Nat → Prop) (D : Dk) (hd : ByteArray → Hd) (s : ByteArray) (x : Hd) : Prop where
  fr : FileR w G (fileOf D.fs s) x
  ap : ∀ y ∈ D.fs, y.name ≠ s → Apart (hd y.name) x
  old : idxF D.fs s < D.fs.length → x = hd s
  new : ¬ idxF D.fs s < D.fs.length → ∀ k, F k → k ≠ x.k ∧ ∀ a, x.B = some a → k ≠ a.block
section
variable {w w' : World} {F G : Nat → Prop} {D : Dk} {hd : ByteArray → Hd} {s : ByteArray} {x : Hd}
theorem AppRel.below (h : AppRel w F G D hd s x) (hb : Below w.heap.size w w') : AppRel w' F G D hd s x :=
  ⟨h.fr.kept (hb.block _ h.fr.lt) (fun a ha => hb.block _ (h.fr.blt a ha)) (fun _ h => h), h.ap, h.old, h.new⟩
theorem AppRel.wide {G' : Nat → Prop} (h : AppRel w F G D hd s x) (hs : ∀ k, G k → G' k) : AppRel w F G' D hd s x := ⟨h.fr.wide hs, h.ap, h.old, h.new⟩
end
theorem app_ready {w w' : World} {g : Nat} {D : Dk} {F G : Nat → Prop} {qv lv : Int} {mb : Nat} {fu : Bool} {M : DataW Nat} {hd : ByteArray → Hd} {s : ByteArray} {x x' : Hd} {f' : Fl} (h : LdAt w g D F qv mb fu lv M hd) (go : DkGo D) (r : AppRel w F G D hd s x) (hFG : ∀ k, F k → G k) (hG : ∀ k, G k → k < w.heap.size)
    (hn : f'.name = s) (hk : x'.k = x.k) (hc : Ch (fun k => k = x.k ∨ ∃ a, x.B = some a ∧ k = a.block) w w') (hB : ∀ a, x'.B = some a → (∃ b, x.B = some b ∧ a.block = b.block) ∨ (w.heap.size ≤ a.block ∧ a.block < w'.heap.size))
    (hb : w'.heap[x'.k]? = some (.cells #[.slice x'.B x'.nb x'.cb, .int .i64 f'.safe] 97 (0, 0))) (ho : Own w' 0 5 x'.B x'.nb x'.cb f'.b) :
    ∃ fq hq, LdAt w' g ⟨D.quota, D.left, fq⟩ (up G w w') qv mb fu lv M hq ∧ fq.length ≤ 1000 ∧ SetTo (putF D.fs f') fq f' ∧ FileR w' (up G w w') f' x' ∧ ∀ y ∈ fq, y.name ≠ f'.name → Apart (hq y.name) x' := by
  subst hn
  have fr' : FileR w' (up G w w') f' x' := ⟨hb, ho, by rw [hk]; exact .inl r.fr.fk, fun a ha => by
    rcases hB a ha with ⟨b, hb2, e⟩ | h2
    · rw [e]
      exact .inl (r.fr.fb b hb2)
    · exact .inr h2⟩
  have hset := putF_set go.up f'
  have hl200 := go.ok.len
  have hup : ∀ k, up G w w' k → k < w'.heap.size := fun k hk => up_lt hG hc.size hk
  have new : ∀ y ∈ D.fs, y.name ≠ f'.name → Apart (hd y.name) x' := fun y hy hne2 => by
    have ha := r.ap y hy hne2
    refine ⟨by rw [hk]; exact ha.1, fun a b h1 h2 e => ?_⟩
    rcases hB b h2 with ⟨c, hc2, e2⟩ | h3
    · exact ha.2 a c h1 hc2 (by rw [e, e2])
    · have := (h.files y hy).blt a h1
      omega
  by_cases hkx : idxF D.fs f'.name < D.fs.length
  · obtain rfl := r.old hkx
    have hlen := setTo_len go.up (putF_rising go.up f') hset hkx
    have h2 := h.wrote hkx rfl hset hlen hk hc hB hb ho
    refine ⟨_, _, h2.wide (fun k hk => ?_) hup, by omega, fun y => ?_, fr', fun y hy hne => ?_⟩
    · rcases hk with hk | hk
      · exact .inl (hFG k hk)
      · exact .inr hk
    · constructor
      · intro hy
        rcases (hset y).1 hy with rfl | ⟨_, h4⟩
        · exact .inl rfl
        · exact .inr ⟨hy, h4⟩
      · rintro (rfl | ⟨hy, _⟩)
        · exact (hset y).2 (.inl rfl)
        · exact hy
    · rcases (hset y).1 hy with rfl | ⟨hy, _⟩
      · exact absurd rfl hne
      · rw [setH_ne _ _ hne]
        exact new y hy hne
  · have hkeep := r.new hkx
    have h2 := h.keep hc.size fun k hk => hc.block k (h.lt k hk) fun e => by
      rcases e with e | ⟨a, ha, e⟩
      · exact (hkeep k hk).1 e
      · exact (hkeep k hk).2 a ha e
    exact ⟨D.fs, hd, h2.wide (fun k hk => .inl (hFG k hk)) hup, by omega, hset, fr', new⟩
set_option maxHeartbeats 8000000 in
set_option maxRecDepth 100000 in
theorem appendL_any (g : Nat) (D : Dk) (F : Nat → Prop) (s : ByteArray) (Bb : Option Addr) (m cb : Nat) (b : List UInt8) (w : World) (h : LdIs w g D F) (go : DkGo D) (hs : s.size ≤ maxLen) (rb : Rd w Bb m cb b) (hm : m ≤ 1000000) :
    Calls Tryz.prog 30 #[.pointer (some ⟨g, 0, none⟩), .string s, .slice Bb m cb] w (fun e w' => DidL (appendD D s b).1 (appendD D s b).2 g F w e w') := by
  obtain ⟨qv, mb, fu, lv, M, hd, h⟩ := h
  have HLT := Go.Lib.hid h.lt
  have hbl := rb.len
  generalize hR : appendD D s b = R
  have HR := Go.Lib.hid hR
  clear hR
  go_enter Tryz.func30, Tryz.ntmps30
  go_wp2_with fail
  refine (stands_any g D F qv mb fu lv M hd w h go.ok.left.2).mono ?_
  rintro e w1 ⟨rfl, ⟨lv', h1⟩, g1⟩
  have rb1 := Rd.grown rb g1 h.noByte
  have c1 : Ch F w w1 := Ch.of_grown g1 (fun r e => by injection e with e; subst e; exact .inl h.fg)
  have C1 := Go.Lib.hid c1
  by_cases h0 : D.left = 0
  · have hb0 : burnD D = D := by
      unfold burnD
      rw [if_neg (by omega)]
    rw [hb0] at h1
    obtain rfl : R = (14, D) := by rw [← HR.out]; unfold appendD; rw [if_pos h0]
    rw [decide_eq_true h0]
    have HD := Go.Lib.hid (DidL.of (c := 14) h1 HLT.out c1)
    clear HR h1 c1 g1 h0 hb0 h rb rb1
    go_wp2_with fail
    go_ret
    exact HD.out
  rw [decide_eq_false h0]
  have HR1 : Hid (appendC (burnD D) s b = R) := Go.Lib.hid (by rw [← HR.out]; unfold appendD; rw [if_neg h0])
  have go1 := burn_go go
  clear HR h0 h go rb g1
  generalize burnD D = D1 at *
  have k1 := h1.c1
  have q1 := h1.look_ok hs
  go_upto_region 4 with (fail)
  go_upto_if 21 with (fail)
  go_cut [7, 8] (fun v v8 wx => ∃ x, v = .pointer (some ⟨x.k, 0, none⟩) ∧ v8 = .bool (decide (idxF D1.fs s < D1.fs.length)) ∧ Below w1.heap.size w1 wx ∧ AppRel wx F (up F w1 wx) D1 hd s x)
  case first =>
    by_cases hk : idxF D1.fs s < D1.fs.length
    · rw [decide_eq_true hk, show ptrOf D1.fs hd s = .pointer (some ⟨(hd s).k, 0, none⟩) from if_pos hk]
      have HA : Hid (AppRel w1 F (up F w1 w1) D1 hd s (hd s)) := Go.Lib.hid (by
        refine ⟨?_, fun y hy hne => ?_, fun _ => rfl, fun h => absurd hk h⟩
        · have fr := (h1.file hk).1
          rw [show fileOf D1.fs s = D1.fs.getD (idxF D1.fs s) noFl from if_pos hk]
          exact fr.wide fun _ hf => .inl hf
        · have ha := h1.apart y hy _ (fl_get hk) (by rw [idxF_name hk]; exact hne)
          rwa [idxF_name hk] at ha)
      clear h1 c1 q1
      go_wp2_with fail
      go_meet
      exact ⟨_, rfl, by simp [hk], Below.refl _ _, HA.out⟩
    · rw [decide_eq_false hk, show ptrOf D1.fs hd s = .pointer none from if_neg hk]
      have al : Below w1.heap.size w1 (w1.alloc (.cells #[.slice none 0 0, .int .i64 0] 97)) := (Below.refl _ _).alloc (Nat.le_refl _) _
      have hx := heap_alloc_new w1 (.cells #[.slice none 0 0, .int .i64 0] 97)
      have HA : Hid (AppRel (w1.alloc (.cells #[.slice none 0 0, .int .i64 0] 97)) F (up F w1 (w1.alloc (.cells #[.slice none 0 0, .int .i64 0] 97))) D1 hd s ⟨w1.heap.size, none, 0, 0⟩) := Go.Lib.hid (by
        have e : fileOf D1.fs s = ⟨s, [], 0⟩ := if_neg hk
        refine ⟨?_, fun y hy hne => ?_, fun h => absurd h hk, fun _ k hf => ⟨?_, fun a ha => (by cases ha)⟩⟩
        · rw [e]
          exact ⟨hx, ⟨rfl, .inl ⟨rfl, rfl⟩⟩, .inr ⟨Nat.le_refl _, by simp⟩, fun a ha => (by cases ha)⟩
        · have := (h1.files y hy).lt
          exact ⟨by simp only; omega, fun a b _ hb => (by cases hb)⟩
        · have := h1.lt k hf
          simp only
          omega)
      have AL := Go.Lib.hid al
      clear h1 c1 q1 hx al
      go_wp2_with fail
      go_meet
      exact ⟨_, rfl, by simp [hk], AL.out, HA.out⟩
  case rest =>
    obtain ⟨x, rfl, rfl, bc, ar⟩ := hcut
    have hc := h1.below bc
    have hup : ∀ k, up F w1 wc k → k < wc.heap.size := fun k hk => up_lt h1.lt bc.size hk
    have cc := c1.then_below bc
    have rbc := rb1.below bc
    clear q1 k1
    go_wp2_with fail
    refine (mayL_any s wc hs).mono ?_
    rintro e w2 ⟨rfl, b2⟩
    have h2 := hc.below b2
    have c2 := cc.then_below b2
    have r2 := rbc.below b2
    have a2 := ar.below b2
    cases hmay : mayN s with
    | false =>
      obtain rfl : R = (5, D1) := by rw [← HR1.out]; unfold appendC; rw [if_pos hmay]
      have HD := Go.Lib.hid (DidL.of (c := 5) h2 HLT.out c2)
      clear HR1 h1 c1 hc cc h2 c2 hmay
      go_wp2_with fail
      go_ret
      exact HD.out
    | true =>
      have hR2 : (if 65536 < (fileOf D1.fs s).b.length + b.length ∨ (¬ idxF D1.fs s < D1.fs.length ∧ 200 ≤ D1.fs.length) then (3, D1) else if D1.quota < (usedF D1.fs + b.length : Nat) then (10, D1) else (0, ⟨D1.quota, D1.left, putF D1.fs ⟨s, (fileOf D1.fs s).b ++ b, (fileOf D1.fs s).safe⟩⟩)) = R := by
        rw [← HR1.out]
        unfold appendC
        rw [if_neg (show ¬ mayN s = false by rw [hmay]; decide)]
      have HR2 := Go.Lib.hid hR2
      have x0 := a2.fr.c0
      have hxl := a2.fr.own.len
      have k2 := h2.c1
      have hsz := h2.size go1.up
      have ql : ∀ ty, (Builtin.len_ #[70] ty #[.map (some mb)]).run Tryz.prog w2 = .ok (.int .i64 (D1.fs.length : Nat)) w2 := fun ty => by rw [← hsz]; exact h2.own.len Tryz.underlying70 ty
      have h65 : (fileOf D1.fs s).b.length ≤ 65536 := (fileOf_ok go1.ok s).1
      have h200 := go1.ok.len
      have H1 := Go.Lib.hid h1
      have C2 := Go.Lib.hid c2
      have A2 := Go.Lib.hid a2
      have H2 := Go.Lib.hid h2
      have R2 := Go.Lib.hid r2
      clear HR1 h1 c1 hc cc hmay hR2 h2 c2 a2 ar rb1 rbc r2
      go_upto_region 8 with (fail)
      go_cut [8, 28] (fun v8 v wx => v8 = .bool (decide (idxF D1.fs s < D1.fs.length)) ∧ v = .bool (decide (65536 < (fileOf D1.fs s).b.length + b.length ∨ (¬ idxF D1.fs s < D1.fs.length ∧ 200 ≤ D1.fs.length))) ∧ w2 = wx)
      case first =>
        generalize hL : (fileOf D1.fs s).b.length = L at *
        generalize hI : idxF D1.fs s = ix at *
        generalize hN : D1.fs.length = N at *
        clear hL hI hN HR2 H1 C2 A2 H2 R2
        by_cases hbig : 65536 < L + b.length
        · have hd : decide (65536 < L + b.length ∨ (¬ ix < N ∧ 200 ≤ N)) = true := decide_eq_true (.inl hbig)
          have HD := Go.Lib.hid hd
          have i0 : (65536 : Int) < (x.nb : Int) + m := by omega
          clear hd hbig
          go_wp2_with fail
          go_meet
          exact ⟨rfl, by rw [HD.out], rfl⟩
        · have i0 : ¬ (65536 : Int) < (x.nb : Int) + m := by omega
          by_cases hk : ix < N
          · have hd : decide (65536 < L + b.length ∨ (¬ ix < N ∧ 200 ≤ N)) = false := decide_eq_false (fun h => by rcases h with h | h; exact hbig h; exact h.1 hk)
            have HD := Go.Lib.hid hd
            have HK := Go.Lib.hid (decide_eq_true hk)
            rw [decide_eq_true hk]
            clear hd hbig hk
            go_wp2_with fail
            go_meet
            exact ⟨by rw [HK.out], by rw [HD.out], rfl⟩
          · have HK := Go.Lib.hid (decide_eq_false hk)
            by_cases h2 : 200 ≤ N
            · have hd : decide (65536 < L + b.length ∨ (¬ ix < N ∧ 200 ≤ N)) = true := decide_eq_true (.inr ⟨hk, h2⟩)
              have HD := Go.Lib.hid hd
              have i2 : (200 : Int) ≤ N := by omega
              rw [decide_eq_false hk]
              clear hd hbig hk
              go_wp2_with fail
              go_meet
              exact ⟨by rw [HK.out], by rw [HD.out], rfl⟩
            · have hd : decide (65536 < L + b.length ∨ (¬ ix < N ∧ 200 ≤ N)) = false := decide_eq_false (fun h => by rcases h with h | h; exact hbig h; exact h2 h.2)
              have HD := Go.Lib.hid hd
              have i2 : ¬ (200 : Int) ≤ N := by omega
              rw [decide_eq_false hk]
              clear hd hbig hk
              go_wp2_with fail
              go_meet
              exact ⟨by rw [HK.out], by rw [HD.out], rfl⟩
      case rest =>
        obtain ⟨rfl, rfl, rfl⟩ := hcut
        clear ql k2 x0
        by_cases hbig : 65536 < (fileOf D1.fs s).b.length + b.length ∨ (¬ idxF D1.fs s < D1.fs.length ∧ 200 ≤ D1.fs.length)
        · obtain rfl : R = (3, D1) := by rw [← HR2.out, if_pos hbig]
          rw [decide_eq_true hbig]
          have HD := Go.Lib.hid (DidL.of (c := 3) H2.out HLT.out C2.out)
          clear HR2 hbig
          go_wp2_with fail
          go_ret
          exact HD.out
        · rw [decide_eq_false hbig]
          have HR3 : Hid ((if D1.quota < (usedF D1.fs + b.length : Nat) then (10, D1) else (0, ⟨D1.quota, D1.left, putF D1.fs ⟨s, (fileOf D1.fs s).b ++ b, (fileOf D1.fs s).safe⟩⟩)) = R) := Go.Lib.hid (by rw [← HR2.out, if_neg hbig])
          have hsum : (fileOf D1.fs s).b.length + b.length ≤ 65536 := by omega
          have hu := usedF_le (fs := D1.fs) fun f hf => (go1.ok.fls f hf).1
          clear HR2 hbig
          have h2 := H2.out
          have k0 := h2.c0
          have b0 : Below w2.heap.size w2 w2.drew := bel_drew (Below.refl _ _)
          have hcd := h2.below b0
          have hqz := h2.qz
          generalize hU : usedF D1.fs = U at *
          have HU := Go.Lib.hid hU
          clear hU
          have hw : IntKind.i64.wrap ((U : Int) + m) = (U : Int) + m := IntWalk.i64_in _ (by omega)
          go_wp2_with fail
          go_region_held (fun w' => w'.cell? ⟨g, 0, none⟩ = some (.int .i64 qv))
            (first | exact k0 | exact bcell b8 k0)
            (first | (go_at_call 32; refine (usedD_any g D1 F qv mb fu lv' M hd w2.drew hcd go1).mono ?_; rintro e w8 ⟨rfl, bb⟩; rw [HU.out]; have b8 := below_chain b0 bb; clear bb))
          all_goals
            have h8 := h2.below b8
            have c8 := C2.out.then_below b8
            have a8 := A2.out.below b8
            have p8 := R2.out.below b8
            have HUP := Go.Lib.hid hup
            clear k0 b0 hcd h2
            by_cases hov : D1.quota < (U + b.length : Nat)
            · obtain rfl : R = (10, D1) := by rw [← HR3.out, if_pos hov]
              have HD := Go.Lib.hid (DidL.of (c := 10) h8 HLT.out c8)
              have i3 : D1.quota < (U : Int) + m := by omega
              clear HR3 hov h8 c8 a8 p8 hqz hup
              go_wp2_with fail
              go_ret
              exact HD.out
            · have hR4 : (0, ⟨D1.quota, D1.left, putF D1.fs ⟨s, (fileOf D1.fs s).b ++ b, (fileOf D1.fs s).safe⟩⟩) = R := by rw [← HR3.out, if_neg hov]
              have i3 : ¬ D1.quota < (U : Int) + m := by omega
              clear HR3 hov hqz hup
              generalize hf0 : fileOf D1.fs s = f0 at *
              subst hR4
              have fr8 := a8.fr
              rw [hf0] at fr8
              have x0 := fr8.c0
              have hxlt := fr8.lt
              have h63 : x.nb + m ≤ maxLen := by unfold maxLen; omega
              have hsz8 : (x.nb + m) * 1 ≤ 140737488355328 := by omega
              have d8 := rdc_of p8
              have HF0 := Go.Lib.hid hf0
              have FR8 := Go.Lib.hid fr8
              have H8 := Go.Lib.hid h8
              have C8 := Go.Lib.hid c8
              have A8 := Go.Lib.hid a8
              have own8 : OwnC 1 w8 0 5 x.B x.nb x.cb (cellsOf f0.b) := fr8.own
              have lt8 : ∀ k, up F w1 wc k → k < w8.heap.size := fun k hk => Nat.lt_of_lt_of_le (HUP.out k hk) (Nat.le_trans b2.size b8.size)
              have LT8 := Go.Lib.hid lt8
              clear fr8 h8 c8 a8 p8 hf0 hu hw lt8
              go_upto_region 12 with (fail)
              go_wp2_with (at_builtin; refine wpList_append_cells rfl (.tmp 66) (.tmp 67) 58 rfl 5 (.int .u8 0) 1 Tryz.underlying58 u8_info rfl (by decide) rfl rfl own8 d8 (cellsOf_one b) h63 hsz8 (Nat.zero_le _) ?_; intro A9 c9 w9 o9 g9 loc; have bx9 := (g9.block _ hxlt (fun e => (by cases hB : x.B with
                  | none => rw [hB] at e; cases e
                  | some a => rw [hB] at e; injection e with e; exact own8_not FR8.out.own FR8.out.box (by decide) a hB e.symm))).trans FR8.out.box; obtain ⟨y0, y1, yz⟩ := two_cell bx9; have yz0 := yz 0)
              have hs10 := grownSet w9 x.k 0 (.slice A9 (x.nb + m) c9)
              have c89 : Ch (fun k => k = x.k ∨ ∃ a, x.B = some a ∧ k = a.block) w8 w9 := Ch.of_grown g9 (fun r e => by
                cases hB : x.B with
                | none => rw [hB] at e; cases e
                | some a => rw [hB] at e; injection e with e; exact .inl (.inr ⟨a, rfl, e.symm⟩))
              have c10 : Ch (fun k => k = x.k ∨ ∃ a, x.B = some a ∧ k = a.block) w8 (w9.setCell ⟨x.k, 0, none⟩ (.slice A9 (x.nb + m) c9)) := c89.then_grown hs10 (fun r e => by injection e with e; exact .inl (.inl (.inl e.symm)))
              have hb10 := pairSet0 (x := .slice A9 (x.nb + m) c9) bx9
              have o9' : Own w9 0 5 A9 (x.nb + m) c9 (f0.b ++ b) := by
                unfold Own
                rw [cellsOf_append]
                exact o9
              have ho10 := own8_grown o9' hs10 (fun a ha e => own8_not o9' bx9 (by decide) a ha (by injection e))
              have hB10 : ∀ a, A9 = some a → (∃ b, x.B = some b ∧ a.block = b.block) ∨ (w8.heap.size ≤ a.block ∧ a.block < (w9.setCell ⟨x.k, 0, none⟩ (.slice A9 (x.nb + m) c9)).heap.size) := fun a ha => by
                rcases loc with h | h
                · cases hB : x.B with
                  | none => rw [ha, hB] at h; cases h
                  | some b => rw [ha, hB] at h; injection h with h; exact .inl ⟨b, rfl, h⟩
                · rw [ha] at h
                  injection h with h
                  have h : a.block = w8.heap.size := h
                  have := (World.ownsRow.lt o9' a.block (by simp [Value.ownBlock, ha])).2
                  have := hs10.size
                  exact .inr ⟨by omega, by omega⟩
              obtain ⟨fq, hq, l10, q1, q2, q3, q4⟩ := app_ready (x' := ⟨x.k, A9, x.nb + m, c9⟩) (f' := ⟨s, f0.b ++ b, f0.safe⟩) H8.out go1 A8.out (fun _ hf => .inl hf) LT8.out rfl rfl c10 hB10 hb10 ho10
              have PU := putL_any g ⟨D1.quota, D1.left, fq⟩ _ qv mb fu lv' M hq ⟨s, f0.b ++ b, f0.safe⟩ ⟨x.k, A9, x.nb + m, c9⟩ _ _ l10 q1 (putF_rising go1.up _) q2 hs q3 q4
              have P := Go.Lib.hid PU
              have C10 := Go.Lib.hid c10
              have L10 := Go.Lib.hid l10
              clear PU l10 q2 q3 q4 hB10 ho10 o9' hb10 c10 c89 hs10 loc o9 g9 bx9 y0 y1 yz yz0 own8 d8
              refine (P.out).mono ?_
              rintro e w11 ⟨rfl, l11, g11⟩
              have glt8 := H8.out.lt
              have c811 : Ch (up F w1 wc) w8 w11 := (C10.out.wide fun k hk => (by
                rcases hk with rfl | ⟨a, ha, rfl⟩
                · exact FR8.out.fk
                · exact FR8.out.fb a ha)).trans (Ch.of_grown g11 (fun r e => by injection e with e; subst e; exact .inl (.inl (.inl H8.out.fm))))
              have c111 : Ch F w1 w11 := (Ch.of_below bc).trans (((Ch.of_below b2).trans ((Ch.of_below b8).trans (c811.wide fun k hk => .inl (.inl hk)))).wide fun k hk => hk)
              have HD := Go.Lib.hid (DidL.join (c := 0) C1.out HLT.out c111 (l11.is.wide (fun k hk => by
                have z1 := bc.size
                have z2 := b2.size
                have z3 := b8.size
                have z4 := g11.size
                have z5 := c811.size
                rcases hk with (hk | hk) | hk
                · exact .inl hk
                · exact .inr ⟨by omega, by omega⟩
                · exact .inr ⟨by omega, by omega⟩) (fun k hk => up_lt H1.out.lt c111.size hk)))
              clear l11 g11 c811 c111 glt8 P C10 L10 FR8 H8 A8 LT8 C8
              go_wp2_with fail
              go_ret
              exact HD.out
end Go.Proofs.YtppidbdkejkopaaGreatDoor.DkWalk
namespace Go.Proofs.YtppidbdkejkopaaGreatDoor.DkWalk
open Go.RowKit Go.Maps MemRow Ev NameMath NameWalk EvWalk NumMem
theorem crashIf_rising {left : Lit → Bool} {keep : Int} {fs : List Fl} (h : Rising fs) : Rising (fs.map (crashIf left keep)) := by
  unfold Rising
  rw [crashIf_names]
  exact h
set_option maxHeartbeats 8000000 in
set_option maxRecDepth 100000 in
theorem crashLd_any (g : Nat) (D : Dk) (F : Nat → Prop) (keep : Int) (w : World) (h : LdIs w g D F) (go : DkGo D) (hkp : -9223372036854775808 ≤ keep ∧ keep ≤ 9223372036854775807) :
    Calls Tryz.prog 20 #[.pointer (some ⟨g, 0, none⟩), .int .i64 keep] w fun e w' => e = .returned (.tuple #[]) ∧ LdIs w' g (crashD D keep) (up F w w') ∧ Ch F w w' := by
  obtain ⟨qv, mb, fu, lv, M, hd, h⟩ := h
  have k1 := h.c1
  have hown := h.own
  have MP := h.mp
  have hsz := h.lt mb h.fm
  have HLT := Go.Lib.hid h.lt
  have H := Go.Lib.hid h
  have GO := Go.Lib.hid go
  obtain ⟨K, hK⟩ : ∃ K : Nat, max keep 0 = K := ⟨(max keep 0).toNat, by omega⟩
  have HK := Go.Lib.hid hK
  clear h go hK
  go_enter Tryz.func20, Tryz.ntmps20
  go_wp2_with (at_range; refine wpList_range_own _ rfl _ 70 rfl 9 95 lawK Tryz.underlying70 ptrR mb D.fs.length M rfl hown ?_; intro w0 hrg0 hg0 hs0)
  go_frame
  go_loopw [5, 6] (fun _ _ wr => ∃ (left : Lit → Bool) (cnt : Nat) (hd' : ByteArray → Hd), wr.ranges Tryz.prog 9 ptrR mb w.heap.size D.fs.length M left cnt ∧ Hid (LdAt wr g ⟨D.quota, D.left, D.fs.map (crashIf left keep)⟩ F qv mb fu lv M hd') ∧ Hid (∀ y ∈ D.fs, (hd' y.name).k = (hd y.name).k) ∧ Hid (Ch F w wr)) (fun _ _ wr => wr.rangeLeft mb w.heap.size)
  case atStart =>
    have hl : ∀ f ∈ D.fs, has M (keyF f.name) = true := fun f hf => (MP.keys _).2 ⟨f, hf, rfl⟩
    refine ⟨_, _, hd, hrg0, Go.Lib.hid ?_, Go.Lib.hid fun _ _ => rfl, Go.Lib.hid (Ch.of_below (grown_below hg0))⟩
    rw [crashIf_start keep hl]
    exact H.out.below (grown_below hg0)
  case round =>
    obtain ⟨left, cnt, hd', hrg, HA, HE, HC⟩ := hrel
    clear hrg0 hg0 hs0
    go_wp2_with (at_next; refine wpList_next_fs _ rfl _ rfl MP mb w.heap.size D.fs.length _ _ rfl hrg ?_ ?_)
    · intro hc0 hl0
      have ha := HA.out
      rw [crashIf_end _ _ hl0] at ha
      have k2 := ha.c2
      have k3 := ha.c3
      have z2 := ha.frozen 2
      have hb1 := four_set (x := .bool false) (i := 2) ha.box (by omega)
      have z3 : (wr.setCell ⟨g, 2, none⟩ (.bool false)).frozen? ⟨g, 3, none⟩ = false := by simp [World.frozen?, hb1]
      have hb2 := four_set (x := .int .i64 0) (i := 3) hb1 (by omega)
      have hs1 := grownSet wr g 2 (.bool false)
      have hs2 := grown_setCell hs1 3 (.int .i64 0)
      have h2 : LdAt ((wr.setCell ⟨g, 2, none⟩ (.bool false)).setCell ⟨g, 3, none⟩ (.int .i64 0)) g (crashD D keep) F qv mb false 0 M hd' := ha.boxed hs2 hb2 ha.qz rfl (fun h => by cases h)
      have c2 : Ch F w ((wr.setCell ⟨g, 2, none⟩ (.bool false)).setCell ⟨g, 3, none⟩ (.int .i64 0)) := HC.out.then_grown hs2 (fun r e => by injection e with e; subst e; exact .inl (.inl ha.fg))
      have HR := Go.Lib.hid (h2.is.wide (G := up F w _) (fun _ hf => .inl hf) (fun _ hk => up_lt HLT.out c2.size hk))
      have HC2 := Go.Lib.hid c2
      clear h2 c2 hs1 hs2 hb1 hb2 ha hrg HA HC HE
      go_wp2_with fail
      go_end0
      exact ⟨rfl, HR.out, HC2.out⟩
    · intro f hf w2 cnt2 hlk hfs hrg2 hlt hg2 hs2 hen
      have hne : ∀ k, F k → k ≠ w.heap.size := fun k hk e => by have := HLT.out k hk; omega
      have hF2 : ∀ k, F k → w2.heap[k]? = wr.heap[k]? := fun k hk => hg2.block k (HA.out.lt k hk) (fun e => hne k hk (by injection e))
      have h2 := HA.out.keep hg2.size hF2
      have c2 : Ch F w w2 := HC.out.then_grown hg2 (fun r e => by injection e with e; subst e; exact .inl (.inr ⟨Nat.le_refl _, hrg.lt⟩))
      have hr' : Rising (D.fs.map (crashIf left keep)) := crashIf_rising GO.out.up
      have efc : crashIf left keep f = f := if_pos hlk
      have hf' : f ∈ D.fs.map (crashIf left keep) := List.mem_map.2 ⟨f, hf, efc⟩
      have hidx := idx_lt hf'
      have hat := idx_at hr' hf'
      have fr := (h2.file hidx).1
      rw [hat] at fr
      have hkk := HE.out f hf
      have x0 := fr.c0
      have x1 := fr.c1
      have z0 := fr.frozen 0
      rw [hkk] at x0 x1 z0
      have hl := fr.own.len
      have hcap := fr.own.rd.le_cap
      have hok := GO.out.ok.fls f hf
      have hset := crashIf_step GO.out.up hf keep hlk
      have hN : crashN keep f = f.safe + min K (f.b.length - f.safe) := by
        unfold crashN
        have := HK.out
        congr 2
        omega
      have hmn : min (max keep 0) (((hd' f.name).nb : Int) - (f.safe : Int)) = ((min K (f.b.length - f.safe) : Nat) : Int) := by
        rw [HK.out]
        omega
      have hmle : f.safe + min K (f.b.length - f.safe) ≤ (hd' f.name).nb := by omega
      generalize min K (f.b.length - f.safe) = mn at *
      obtain ⟨N, hNN⟩ : ∃ N, N = f.safe + mn := ⟨_, rfl⟩
      rw [← hNN] at hN hmle
      have w1' : IntKind.i64.wrap (((hd' f.name).nb : Int) - (f.safe : Int)) = ((hd' f.name).nb : Int) - (f.safe : Int) := IntWalk.i64_in _ (by omega)
      have w2' : IntKind.i64.wrap ((f.safe : Int) + (mn : Int)) = (f.safe : Int) + (mn : Int) := IntWalk.i64_in _ (by omega)
      have qs := slice_upto (hd' f.name).B (hd' f.name).nb (hd' f.name).cb N (Nat.le_trans hmle hcap)
      rw [show ((N : Nat) : Int) = (f.safe : Int) + (mn : Int) by omega] at qs
      have hs3 := grownSet w2 (hd' f.name).k 0 (.slice (hd' f.name).B N (hd' f.name).cb)
      have hs4 := grown_setCell hs3 1 (.int .i64 (N : Int))
      have hb3 := pairSet0 (x := .slice (hd' f.name).B N (hd' f.name).cb) fr.box
      have hb4 := pairSet1 (x := .int .i64 (N : Int)) hb3
      obtain ⟨y0, y1, yz⟩ := two_cell hb3
      have yz1 := yz 1
      have cc : Ch (fun k => k = (hd' f.name).k ∨ ∃ a, (hd' f.name).B = some a ∧ k = a.block) w2 ((w2.setCell ⟨(hd' f.name).k, 0, none⟩ (.slice (hd' f.name).B N (hd' f.name).cb)).setCell ⟨(hd' f.name).k, 1, none⟩ (.int .i64 (N : Int))) := Ch.of_grown hs4 (fun r e => by injection e with e; exact .inl (.inl e.symm))
      have efl : crashL keep f = ⟨f.name, f.b.take N, N⟩ := by unfold crashL; rw [hN]
      rw [efl] at hset
      have h4 := h2.wroteG (G := F) hidx (fs' := D.fs.map (crashIf (strike left f.name) keep)) (f := ⟨f.name, f.b.take N, N⟩) (x := ⟨(hd' f.name).k, (hd' f.name).B, N, (hd' f.name).cb⟩) rfl hset (by simp) rfl cc (fun a ha => .inl ⟨a, ha, rfl⟩) (fun _ h => h) (fun k hk => Nat.lt_of_lt_of_le (h2.lt k hk) hs4.size) fr.fb hb4 (own8_grown (own8_first fr.own hmle) hs4 (fun a ha e => own8_not fr.own fr.box (by decide) a ha (by injection e)))
      have c4 : Ch F w ((w2.setCell ⟨(hd' f.name).k, 0, none⟩ (.slice (hd' f.name).B N (hd' f.name).cb)).setCell ⟨(hd' f.name).k, 1, none⟩ (.int .i64 (N : Int))) := c2.trans ((fr.ch cc).wide fun _ hk => .inl hk)
      have e4 : ∀ y ∈ D.fs, (setH hd' f.name ⟨(hd' f.name).k, (hd' f.name).B, N, (hd' f.name).cb⟩ y.name).k = (hd y.name).k := fun y hy => by
        unfold setH
        split
        · next e => rw [e]; exact hkk
        · exact HE.out y hy
      have hrg4 := hrg2.kept hs4 (fun e => (h2.file hidx).2.2 (by injection e with e; exact e.symm)) (fun e => hne _ fr.fk (by injection e with e; exact e.symm))
      have HLEFT := hrg.left_eq
      have HMN := Go.Lib.hid hmn
      have H4 := Go.Lib.hid h4
      have C4 := Go.Lib.hid c4
      have E4 := Go.Lib.hid e4
      rw [hkk] at H4 C4 E4 hrg4 y0 y1 yz1
      clear hmn h4 c4 e4 cc efl hset hb3 hb4 hs3 hs4 fr hat hidx hf' efc hr' c2 h2 hF2 hne yz hrg2 hkk hN hl hcap hok HE HC HA hrg hmle hNN hg2 hs2
      generalize (hd f.name).k = kf at *
      generalize (hd' f.name).B = B at *
      generalize (hd' f.name).nb = nb at *
      generalize (hd' f.name).cb = cb at *
      generalize f.safe = sf at *
      go_upto_region 3 with (fail)
      go_region
      rw [HMN.out]
      go_upto_region 4 with (fail)
      go_region
      go_wp2_with fail
      go_roundw
      case rel =>
        have bdd := fun W : World => (bel_drew (bel_drew (Below.refl W.heap.size W)))
        exact ⟨_, cnt2, _, hrg4, Go.Lib.hid (H4.out.below (bdd _)), Go.Lib.hid E4.out, Go.Lib.hid (C4.out.then_below (bdd _))⟩
      case measure =>
        have e := hrg4.left_eq
        rw [HLEFT]
        exact Nat.lt_of_le_of_lt (Nat.le_of_eq e) hlt
end Go.Proofs.YtppidbdkejkopaaGreatDoor.DkWalk
namespace Go.Proofs
open Go.Shelf
def Tryz.lays190_ren : Go.Shelf.Ren := ⟨fun | 190 => 96 | 125 => 127 | 258 => 126 | 128 => 166 | 129 => 146 | 302 => 157 | 303 => 158 | 304 => 159 | 305 => 160 | 306 => 161 | 307 => 162 | 308 => 163 | 309 => 164 | 310 => 165 | 333 => 178 | 329 => 179 | 330 => 180 | 334 => 181 | 335 => 182 | 336 => 183 | 344 => 191 | n => n, fun | 31 => 61 | 9 => 9 | 3 => 3 | 46 => 135 | 0 => 0 | 51 => 76 | 53 => 145 | 4 => 4 | 183 => 178 | 182 => 177 | 131 => 183 | 5 => 5 | 218 => 196 | 222 => 200 | 228 => 208 | 229 => 209 | n => n, fun | n => n⟩
theorem Tryz.lays190 : Go.Proofs.Lays.n190 Tryz.prog Tryz.lays190_ren := {
  mixed := by kernel_rfl
  f125 := Tryz.func127.trans (congrArg some (by kernel_rfl))
  f128 := Tryz.func166.trans (congrArg some (by kernel_rfl))
  f129 := Tryz.func146.trans (congrArg some (by kernel_rfl))
  f190 := Tryz.func96.trans (congrArg some (by kernel_rfl))
  f258 := Tryz.func126.trans (congrArg some (by kernel_rfl))
  f302 := Tryz.func157.trans (congrArg some (by kernel_rfl))
  f303 := Tryz.func158.trans (congrArg some (by kernel_rfl))
  f304 := Tryz.func159.trans (congrArg some (by kernel_rfl))
  f305 := Tryz.func160.trans (congrArg some (by kernel_rfl))
  f306 := Tryz.func161.trans (congrArg some (by kernel_rfl))
  f307 := Tryz.func162.trans (congrArg some (by kernel_rfl))
  f308 := Tryz.func163.trans (congrArg some (by kernel_rfl))
  f309 := Tryz.func164.trans (congrArg some (by kernel_rfl))
  f310 := Tryz.func165.trans (congrArg some (by kernel_rfl))
  f329 := Tryz.func179.trans (congrArg some (by kernel_rfl))
  f330 := Tryz.func180.trans (congrArg some (by kernel_rfl))
  f333 := Tryz.func178.trans (congrArg some (by kernel_rfl))
  f334 := Tryz.func181.trans (congrArg some (by kernel_rfl))
  f335 := Tryz.func182.trans (congrArg some (by kernel_rfl))
  f336 := Tryz.func183.trans (congrArg some (by kernel_rfl))
  f344 := Tryz.func191.trans (congrArg some (by kernel_rfl))
  t0 := Tryz.underlying0
  a0 := Tryz.isAgg0
  z0 := Tryz.sizeOf0
  v0 := Tryz.zeroValue0
  t3 := Tryz.underlying3
  a3 := Tryz.isAgg3
  z3 := Tryz.sizeOf3
  v3 := Tryz.zeroValue3
  t4 := Tryz.underlying4
  a4 := Tryz.isAgg4
  z4 := Tryz.sizeOf4
  v4 := Tryz.zeroValue4
  t5 := Tryz.underlying5
  a5 := Tryz.isAgg5
  z5 := Tryz.sizeOf5
  v5 := Tryz.zeroValue5
  t9 := Tryz.underlying9
  a9 := Tryz.isAgg9
  z9 := Tryz.sizeOf9
  v9 := Tryz.zeroValue9
  t31 := Tryz.underlying61
  a31 := Tryz.isAgg61
  z31 := Tryz.sizeOf61
  v31 := Tryz.zeroValue61
  t46 := Tryz.underlying135
  a46 := Tryz.isAgg135
  z46 := Tryz.sizeOf135
  v46 := Tryz.zeroValue135
  t51 := Tryz.underlying76
  a51 := Tryz.isAgg76
  z51 := Tryz.sizeOf76
  v51 := Tryz.zeroValue76
  t53 := Tryz.underlying145
  a53 := Tryz.isAgg145
  z53 := Tryz.sizeOf145
  v53 := Tryz.zeroValue145
  t131 := Tryz.underlying183
  a131 := Tryz.isAgg183
  z131 := Tryz.sizeOf183
  v131 := Tryz.zeroValue183
  t182 := Tryz.underlying177
  a182 := Tryz.isAgg177
  z182 := Tryz.sizeOf177
  v182 := Tryz.zeroValue177
  t183 := Tryz.underlying178
  a183 := Tryz.isAgg178
  z183 := Tryz.sizeOf178
  v183 := Tryz.zeroValue178
  t218 := Tryz.underlying196
  a218 := Tryz.isAgg196
  z218 := Tryz.sizeOf196
  v218 := Tryz.zeroValue196
  t222 := Tryz.underlying200
  a222 := Tryz.isAgg200
  z222 := Tryz.sizeOf200
  v222 := Tryz.zeroValue200
  t228 := Tryz.underlying208
  a228 := Tryz.isAgg208
  z228 := Tryz.sizeOf208
  v228 := Tryz.zeroValue208
  t229 := Tryz.underlying209
  a229 := Tryz.isAgg209
  z229 := Tryz.sizeOf209
  v229 := Tryz.zeroValue209 }
open Go.Sort Go.RowKit in
theorem Tryz.slices_Sort_string (blk off cap : Nat) (ss : List (List UInt8)) (w : World) (hH : Holds encStr w blk off ss.toArray) (hblk : blk < w.heap.size) (hsz : ss.length < 4611686018427387904) :
    Calls Tryz.prog 96 #[.slice (some ⟨blk, off, none⟩) ss.length cap] w fun e w' =>
      e = .returned (.tuple #[]) ∧ ∃ n os, w' = grow (putRow encStr (Sort.ahead w n) blk off (ss.mergeSort fun x y => decide (x ≤ y)).toArray) os := Any.slices_Sort_string Tryz.lays190 blk off cap ss w hH hblk hsz
open Go.RowKit Go.Sort in
theorem Tryz.slices_Sort_string_none (p : Option Addr) (cap : Nat) (w : World) :
    Calls Tryz.prog 96 #[.slice p 0 cap] w fun e w' => e = .returned (.tuple #[]) ∧ w' = w := Any.slices_Sort_string_none Tryz.lays190 p cap w
def Tryz.keysA_ren : Go.Shelf.Ren := ⟨fun | 7 => 64 | 10 => 97 | n => n, fun | 23 => 70 | 26 => 9 | 3 => 95 | 28 => 110 | 0 => 0 | 27 => 109 | 33 => 105 | 4 => 4 | n => n, fun | n => n⟩
theorem Tryz.keysA : Go.Proofs.SlLaysZ.n7 Tryz.prog Tryz.keysA_ren := {
  mixed := by kernel_rfl
  f7 := ⟨Tryz.f64.name, by decide, Tryz.func64.trans (congrArg some (by kernel_rfl))⟩
  f10 := ⟨Tryz.f97.name, by decide, Tryz.func97.trans (congrArg some (by kernel_rfl))⟩
  t0 := Tryz.underlying0
  a0 := Tryz.isAgg0
  z0 := Tryz.sizeOf0
  v0 := Tryz.zeroValue0
  t4 := Tryz.underlying4
  a4 := Tryz.isAgg4
  z4 := Tryz.sizeOf4
  v4 := Tryz.zeroValue4
  t23 := Tryz.underlying70
  a23 := Tryz.isAgg70
  z23 := Tryz.sizeOf70
  v23 := Tryz.zeroValue70
  t26 := Tryz.underlying9
  a26 := Tryz.isAgg9
  z26 := Tryz.sizeOf9
  v26 := Tryz.zeroValue9
  t27 := Tryz.underlying109
  a27 := Tryz.isAgg109
  z27 := Tryz.sizeOf109
  v27 := Tryz.zeroValue109
  t28 := Tryz.underlying110
  a28 := Tryz.isAgg110
  z28 := Tryz.sizeOf110
  v28 := Tryz.zeroValue110
  t33 := Tryz.underlying105
  a33 := Tryz.isAgg105
  z33 := Tryz.sizeOf105
  v33 := Tryz.zeroValue105 }
def Tryz.sortedA_ren : Go.Shelf.Ren := ⟨fun | 6 => 63 | 8 => 95 | 9 => 96 | 11 => 125 | 13 => 127 | 12 => 126 | 23 => 166 | 24 => 146 | 14 => 157 | 15 => 158 | 16 => 159 | 17 => 160 | 18 => 161 | 19 => 162 | 20 => 163 | 21 => 164 | 22 => 165 | 25 => 178 | 26 => 179 | 27 => 180 | 28 => 181 | 29 => 182 | 30 => 183 | 31 => 191 | n => n, fun | 26 => 9 | 28 => 110 | 24 => 61 | 0 => 0 | 3 => 3 | 37 => 135 | 48 => 76 | 50 => 145 | 4 => 4 | 40 => 178 | 39 => 177 | 45 => 183 | 5 => 5 | 9 => 9 | 51 => 196 | 55 => 200 | 57 => 208 | 58 => 209 | 33 => 105 | n => n, fun | n => n⟩
theorem Tryz.sortedA : Go.Proofs.SlLaysZ.n6 Tryz.prog Tryz.sortedA_ren := {
  mixed := by kernel_rfl
  f6 := ⟨Tryz.f63.name, by decide, Tryz.func63.trans (congrArg some (by kernel_rfl))⟩
  f8 := ⟨Tryz.f95.name, by decide, Tryz.func95.trans (congrArg some (by kernel_rfl))⟩
  f11 := ⟨Tryz.f125.name, by decide, Tryz.func125.trans (congrArg some (by kernel_rfl))⟩
  t0 := Tryz.underlying0
  a0 := Tryz.isAgg0
  z0 := Tryz.sizeOf0
  v0 := Tryz.zeroValue0
  t24 := Tryz.underlying61
  a24 := Tryz.isAgg61
  z24 := Tryz.sizeOf61
  v24 := Tryz.zeroValue61
  t26 := Tryz.underlying9
  a26 := Tryz.isAgg9
  z26 := Tryz.sizeOf9
  v26 := Tryz.zeroValue9
  t28 := Tryz.underlying110
  a28 := Tryz.isAgg110
  z28 := Tryz.sizeOf110
  v28 := Tryz.zeroValue110
  i26 := by kernel_rfl }
end Go.Proofs
namespace Go.Proofs.YtppidbdkejkopaaGreatDoor.DkWalk
open Go.RowKit Go.Maps Go.Sort Go.Shelf Go.Proofs MemRow Ev NameMath NameWalk EvWalk NumMem
theorem sortsA (m : Nat) : AnyZ.SortsIn Tryz.prog Tryz.sortedA_ren Fence.wide m :=
  ⟨fun blk off cap ss W hH hblk hsz => callsIn_wide.2 (Tryz.slices_Sort_string blk off cap ss W hH hblk hsz),
   fun p cap W => callsIn_wide.2 (Tryz.slices_Sort_string_none p cap W)⟩
set_option maxHeartbeats 4000000 in
set_option maxRecDepth 100000 in
theorem listL_any (g : Nat) (D : Dk) (F : Nat → Prop) (w : World) (h : LdIs w g D F) (go : DkGo D) :
    Calls Tryz.prog 33 #[.pointer (some ⟨g, 0, none⟩)] w fun e w' => ∃ B m c, e = .returned (.slice B m c) ∧ RdS w' B m c (names D.fs) ∧ Below w.heap.size w w' := by
  obtain ⟨qv, mb, fu, lv, M, hd, h⟩ := h
  have k1 := h.c1
  have hsz := h.size go.up
  have h200 := go.ok.len
  have hmax : Maps.size M ≤ maxLen := by unfold maxLen; omega
  have hbytes : Maps.size M * 16 ≤ 140737488355328 := by omega
  have hown := h.own
  have hbl := hown.lt
  have hseq : SeqGives Fence.wide 2 Tryz.prog 97 #[.pointer (some ⟨w.heap.size, 0, none⟩)] encStr (fun ss => ss.Perm (strKeys M)) (Maps.size M) (w.alloc (.cells #[.map (some mb)] 70)) :=
    AnyZ.keys_gives (ρ := Tryz.keysA_ren) { Tryz.keysA with } Fence.wide _ trivial rfl (by omega) w.heap.size mb D.fs.length M _ (by simp) (by simp) (by
      obtain ⟨es, clock, hb, Ft, hs, hD⟩ := hown
      exact ⟨es, clock, (Below.heap_alloc _ _ mb hbl).trans hb, Ft, hs, hD⟩)
  have cK : Calls Tryz.prog 64 #[.map (some mb)] w fun e w' => e = .returned (.func (.func 97) #[] #[.pointer (some ⟨w.heap.size, 0, none⟩)]) ∧ w' = w.alloc (.cells #[.map (some mb)] 70) := (callsIn_wide (n := 5)).1 (AnyZ.keys_in Tryz.keysA Fence.wide 5 trivial rfl (some mb) w)
  have cS := AnyZ.sorted_in Tryz.sortedA Fence.wide 5 trivial trivial trivial trivial rfl (by omega) (sortsA _) (enters_of Tryz.func96 (by kernel_rfl) rfl) 97 #[.pointer (some ⟨w.heap.size, 0, none⟩)] trivial (enters_of Tryz.func97 (by kernel_rfl) rfl) _ _ hmax hbytes _ hseq
  have cS' := (callsIn_wide (n := 5)).1 cS
  change Calls Tryz.prog 63 _ _ _ at cS'
  have al : Below w.heap.size w (w.alloc (.cells #[.map (some mb)] 70)) := (Below.refl _ _).alloc (Nat.le_refl _) _
  have CS := Go.Lib.hid cS'
  have CK := Go.Lib.hid cK
  have HP := Go.Lib.hid (h.mp.strs (hown.canon lawK) go.up)
  have HG := Go.Lib.hid go.up
  clear cS cS' cK hseq hown h go hbl hbytes hmax hsz
  go_enter Tryz.func33, Tryz.ntmps33
  go_wp2_with fail
  refine (CK.out).mono ?_
  rintro e w1 ⟨rfl, rfl⟩
  go_wp2_with fail
  refine (CS.out).mono ?_
  rintro e w2 ⟨v, ss, rfl, hS, hrow, hnil, hb⟩
  have hss := sorted_names HG.out (hS.trans HP.out)
  have hss' : (ss.mergeSort fun x y => decide (x ≤ y)).map encStr = MemRow.strs (names D.fs) := hss
  have hln : ss.length = D.fs.length := by
    have := (hS.trans HP.out).length_eq
    simpa using this
  rw [hss', hln] at hrow
  have bw := below_chain al hb
  obtain ⟨B, c, hv⟩ : ∃ B c, v = .slice B D.fs.length c := by
    rcases hrow.2 with ⟨e, h0⟩ | ⟨g', cap, cur, e, _⟩
    · exact ⟨none, 0, by rw [e, h0]⟩
    · exact ⟨_, _, e⟩
  subst hv
  have hr : RdS w2 B D.fs.length c (names D.fs) := OwnC.rd (k := 1) hrow
  clear hss hss' hS hnil
  go_wp2_with fail
  go_ret
  exact ⟨_, _, _, rfl, hr, bw⟩
end Go.Proofs.YtppidbdkejkopaaGreatDoor.DkWalk
namespace Go.Proofs.YtppidbdkejkopaaGreatDoor.DkWalk
open Go.RowKit Go.Maps MemRow Ev NameMath NameWalk EvWalk NumMem
abbrev Thing := World → (Nat → Prop) → Prop
structure Keeps (P : Thing) : Prop where
  keep : ∀ {w w' : World} {F : Nat → Prop}, P w F → w.heap.size ≤ w'.heap.size → (∀ k, F k → w'.heap[k]? = w.heap[k]?) → P w' F
  lt : ∀ {w : World} {F : Nat → Prop}, P w F → ∀ k, F k → k < w.heap.size
def NoT : Thing := fun _ F => ∀ k, ¬ F k
theorem noT_keeps : Keeps NoT := ⟨fun h _ _ => h, fun h k hk => absurd hk (h k)⟩
def LdT (g : Nat) (D : Dk) : Thing := fun w F => LdIs w g D F
theorem ldT_keeps (g : Nat) (D : Dk) : Keeps (LdT g D) := ⟨fun h hs hk => LdIs.keep h hs hk, fun h => LdIs.lt h⟩
def RfT (g : Nat) (D : Dk) : Thing := fun w F => RefIs w g D F
theorem rfT_keeps (g : Nat) (D : Dk) : Keeps (RfT g D) := ⟨fun ⟨A, n, cap, cs, h⟩ hs hk => ⟨A, n, cap, cs, h.keep hs hk⟩, fun ⟨_, _, _, _, h⟩ => h.lt⟩
def Pair (base : Nat) (w : World) (P Q : Thing) : Prop := ∃ F G, P w F ∧ Q w G ∧ (∀ k, F k → base ≤ k) ∧ (∀ k, G k → base ≤ k) ∧ ∀ k, F k → ¬ G k
theorem ch_below {base : Nat} {F : Nat → Prop} {a w w' : World} (hb : Below base a w) (hc : Ch F w w') (hF : ∀ k, F k → base ≤ k) (ha : base ≤ a.heap.size) : Below base a w' :=
  ⟨hc.os.trans hb.os, hc.tape.trans hb.tape, hc.output.trans hb.output, Nat.le_trans hb.size hc.size, fun k hk => (hc.block k (Nat.lt_of_lt_of_le hk (Nat.le_trans ha hb.size)) (fun hf => by have := hF k hf; omega)).trans (hb.block k hk)⟩
section
variable {base : Nat} {w w' : World} {P P' Q Q' : Thing}
theorem Pair.swap (h : Pair base w P Q) : Pair base w Q P := by
  obtain ⟨F, G, hp, hq, h1, h2, h3⟩ := h
  exact ⟨G, F, hq, hp, h2, h1, fun k hg hf => h3 k hf hg⟩
theorem Pair.below (h : Pair base w P Q) (kp : Keeps P) (kq : Keeps Q) (hb : Below w.heap.size w w') : Pair base w' P Q := by
  obtain ⟨F, G, hp, hq, h1, h2, h3⟩ := h
  exact ⟨F, G, kp.keep hp hb.size fun k hk => hb.block k (kp.lt hp k hk), kq.keep hq hb.size fun k hk => hb.block k (kq.lt hq k hk), h1, h2, h3⟩
theorem Pair.left {F G : Nat → Prop} (hq : Q w G) (kq : Keeps Q) (h1 : ∀ k, F k → base ≤ k) (h2 : ∀ k, G k → base ≤ k) (h3 : ∀ k, F k → ¬ G k) (hb : base ≤ w.heap.size) (hp' : P' w' (up F w w')) (hc : Ch F w w') : Pair base w' P' Q := by
  refine ⟨_, G, hp', kq.keep hq hc.size fun k hk => hc.block k (kq.lt hq k hk) fun hf => h3 k hf hk, fun k hk => ?_, h2, fun k hk hg => ?_⟩
  · rcases hk with hk | hk
    · exact h1 k hk
    · omega
  · rcases hk with hk | hk
    · exact h3 k hk hg
    · have := kq.lt hq k hg
      omega
theorem Pair.fresh {G : Nat → Prop} (hq : Q w G) (kq : Keeps Q) (h2 : ∀ k, G k → base ≤ k) (hb : base ≤ w.heap.size) (hp' : P' w' (fun k => w.heap.size ≤ k ∧ k < w'.heap.size)) (hc : Below w.heap.size w w') : Pair base w' P' Q :=
  ⟨_, G, hp', kq.keep hq hc.size fun k hk => hc.block k (kq.lt hq k hk), fun k hk => by have := hk.1; omega, h2, fun k hk hg => by
    have := kq.lt hq k hg
    have := hk.1
    omega⟩
end
section
variable {base : Nat} {w : World} {g : Nat} {D : Dk} {Q : Thing}
theorem pr_did {c : Int} {D' : Dk} {F G : Nat → Prop} {e : Ending} {w' : World} (hq : Q w G) (kq : Keeps Q) (h1 : ∀ k, F k → base ≤ k) (h2 : ∀ k, G k → base ≤ k) (h3 : ∀ k, F k → ¬ G k) (hb : base ≤ w.heap.size) (h : DidL c D' g F w e w') :
    e = .returned (.int .i64 c) ∧ Pair base w' (LdT g D') Q ∧ Below base w w' :=
  ⟨h.1, Pair.left hq kq h1 h2 h3 hb h.2.1 h.2.2, ch_below (Below.refl _ _) h.2.2 h1 hb⟩
theorem pr_append (h : Pair base w (LdT g D) Q) (kq : Keeps Q) (hb : base ≤ w.heap.size) (go : DkGo D) {s : ByteArray} (hs : s.size ≤ maxLen) {A : Option Addr} {m c : Nat} {b : List UInt8} (rb : Rd w A m c b) (hm : m ≤ 1000000) :
    Calls Tryz.prog 30 #[.pointer (some ⟨g, 0, none⟩), .string s, .slice A m c] w fun e w' => e = .returned (.int .i64 (appendD D s b).1) ∧ Pair base w' (LdT g (appendD D s b).2) Q ∧ Below base w w' := by
  obtain ⟨F, G, hp, hq, h1, h2, h3⟩ := h
  exact (appendL_any g D F s A m c b w hp go hs rb hm).mono fun e w' h => pr_did hq kq h1 h2 h3 hb h
theorem pr_sync (h : Pair base w (LdT g D) Q) (kq : Keeps Q) (hb : base ≤ w.heap.size) (go : DkGo D) {s : ByteArray} (hs : s.size ≤ maxLen) :
    Calls Tryz.prog 39 #[.pointer (some ⟨g, 0, none⟩), .string s] w fun e w' => e = .returned (.int .i64 (syncD D s).1) ∧ Pair base w' (LdT g (syncD D s).2) Q ∧ Below base w w' := by
  obtain ⟨F, G, hp, hq, h1, h2, h3⟩ := h
  exact (syncL_any g D F s w hp go hs).mono fun e w' h => pr_did hq kq h1 h2 h3 hb h
theorem pr_remove (h : Pair base w (LdT g D) Q) (kq : Keeps Q) (hb : base ≤ w.heap.size) (go : DkGo D) {s : ByteArray} (hs : s.size ≤ maxLen) :
    Calls Tryz.prog 70 #[.pointer (some ⟨g, 0, none⟩), .string s] w fun e w' => e = .returned (.int .i64 (removeD D s).1) ∧ Pair base w' (LdT g (removeD D s).2) Q ∧ Below base w w' := by
  obtain ⟨F, G, hp, hq, h1, h2, h3⟩ := h
  exact (removeL_any g D F s w hp go hs).mono fun e w' h => pr_did hq kq h1 h2 h3 hb h
theorem pr_trunc (h : Pair base w (LdT g D) Q) (kq : Keeps Q) (hb : base ≤ w.heap.size) (go : DkGo D) {s : ByteArray} (hs : s.size ≤ maxLen) (z : Int) :
    Calls Tryz.prog 71 #[.pointer (some ⟨g, 0, none⟩), .string s, .int .i64 z] w fun e w' => e = .returned (.int .i64 (truncD D s z).1) ∧ Pair base w' (LdT g (truncD D s z).2) Q ∧ Below base w w' := by
  obtain ⟨F, G, hp, hq, h1, h2, h3⟩ := h
  exact (truncL_any g D F s z w hp go hs).mono fun e w' h => pr_did hq kq h1 h2 h3 hb h
theorem pr_turn (h : Pair base w (LdT g D) Q) (kq : Keeps Q) (hb : base ≤ w.heap.size) (go : DkGo D) {s : ByteArray} (hs : s.size ≤ maxLen) (z : Int) :
    Calls Tryz.prog 22 #[.pointer (some ⟨g, 0, none⟩), .string s, .int .i64 z] w fun e w' => e = .returned (.int .i64 (turnC D s z).1) ∧ Pair base w' (LdT g (turnC D s z).2) Q ∧ Below base w w' := by
  obtain ⟨F, G, hp, hq, h1, h2, h3⟩ := h
  exact (turnL_any g D F s z w hp go hs).mono fun e w' h => pr_did hq kq h1 h2 h3 hb h
theorem pr_crash (h : Pair base w (LdT g D) Q) (kq : Keeps Q) (hb : base ≤ w.heap.size) (go : DkGo D) {keep : Int} (hk : -9223372036854775808 ≤ keep ∧ keep ≤ 9223372036854775807) :
    Calls Tryz.prog 20 #[.pointer (some ⟨g, 0, none⟩), .int .i64 keep] w fun e w' => e = .returned (.tuple #[]) ∧ Pair base w' (LdT g (crashD D keep)) Q ∧ Below base w w' := by
  obtain ⟨F, G, hp, hq, h1, h2, h3⟩ := h
  exact (crashLd_any g D F keep w hp go hk).mono fun e w' h => ⟨h.1, Pair.left hq kq h1 h2 h3 hb h.2.1 h.2.2, ch_below (Below.refl _ _) h.2.2 h1 hb⟩
theorem pr_read (h : Pair base w (LdT g D) Q) (kq : Keeps Q) (go : DkGo D) {s : ByteArray} (hs : s.size ≤ maxLen) :
    Calls Tryz.prog 34 #[.pointer (some ⟨g, 0, none⟩), .string s] w fun e w' => ∃ B m c, e = .returned (.tuple #[.slice B m c, .int .i64 (readC D s)]) ∧ Rd w' B m c (readB D s) ∧ Pair base w' (LdT g D) Q ∧ Below w.heap.size w w' := by
  have h' := h
  obtain ⟨F, G, hp, hq, h1, h2, h3⟩ := h
  exact (readL_any g D F s w hp go hs).mono fun e w' ⟨B, m, c, he, hr, hb⟩ => ⟨B, m, c, he, hr, h'.below (ldT_keeps g D) kq hb, hb⟩
theorem pr_list (h : Pair base w (LdT g D) Q) (kq : Keeps Q) (go : DkGo D) :
    Calls Tryz.prog 33 #[.pointer (some ⟨g, 0, none⟩)] w fun e w' => ∃ B m c, e = .returned (.slice B m c) ∧ RdS w' B m c (names D.fs) ∧ Pair base w' (LdT g D) Q ∧ Below w.heap.size w w' := by
  have h' := h
  obtain ⟨F, G, hp, hq, h1, h2, h3⟩ := h
  exact (listL_any g D F w hp go).mono fun e w' ⟨B, m, c, he, hr, hb⟩ => ⟨B, m, c, he, hr, h'.below (ldT_keeps g D) kq hb, hb⟩
theorem pr_new {G : Nat → Prop} (hq : Q w G) (kq : Keeps Q) (h2 : ∀ k, G k → base ≤ k) (hb : base ≤ w.heap.size) (q : Int) :
    Calls Tryz.prog 10 #[.int .i64 q] w fun e w' => ∃ g, e = .returned (.pointer (some ⟨g, 0, none⟩)) ∧ Pair base w' (LdT g (newD q)) Q ∧ Below w.heap.size w w' :=
  (newL_any q w).mono fun _ _ ⟨g, he, hn, hbl⟩ => ⟨g, he, Pair.fresh hq kq h2 hb hn hbl, hbl⟩
theorem pr_alone (w : World) (q : Int) :
    Calls Tryz.prog 10 #[.int .i64 q] w fun e w' => ∃ g, e = .returned (.pointer (some ⟨g, 0, none⟩)) ∧ Pair w.heap.size w' (LdT g (newD q)) NoT ∧ Below w.heap.size w w' :=
  pr_new (Q := NoT) (G := fun _ => False) (fun _ h => h) noT_keeps (fun _ h => h.elim) (Nat.le_refl _) q
end
theorem pr_first {base : Nat} {w : World} (hb : base ≤ w.heap.size) (q : Int) :
    Calls Tryz.prog 10 #[.int .i64 q] w fun e w' => ∃ g, e = .returned (.pointer (some ⟨g, 0, none⟩)) ∧ Pair base w' (LdT g (newD q)) NoT ∧ Below w.heap.size w w' :=
  pr_new (Q := NoT) (G := fun _ => False) (fun _ h => h) noT_keeps (fun _ h => h.elim) hb q
theorem rd_str {w : World} {A : Option Addr} {n cap : Nat} {l : List UInt8} (h : Rd w A n cap l) : (convert 58 9 (.slice A n cap)).run Tryz.prog w = .ok (.string ⟨l.toArray⟩) w :=
  h.string 58 9 5 Tryz.underlying58 Tryz.underlying5 Tryz.underlying9
set_option maxHeartbeats 4000000 in
set_option maxRecDepth 100000 in
theorem readN_any (g : Nat) (D : Dk) (F : Nat → Prop) (s : ByteArray) (w : World) (h : LdIs w g D F) (go : DkGo D) (hs : s.size ≤ maxLen) :
    Calls Tryz.prog 34 #[.pointer (some ⟨g, 0, none⟩), .string s] w fun e w' => ∃ B m c, e = .returned (.tuple #[.slice B m c, .int .i64 (readC D s)]) ∧ Rd w' B m c (readB D s) ∧ (∀ a, B = some a → w.heap.size ≤ a.block ∧ a.block < w'.heap.size) ∧ Below w.heap.size w w' := by
  obtain ⟨qv, mb, fu, lv, M, hd, h⟩ := h
  have k1 := h.c1
  have q1 := h.look hs
  generalize hC : readC D s = cc
  generalize hB : readB D s = bb
  have HC := Go.Lib.hid hC
  have HB := Go.Lib.hid hB
  clear hC hB
  by_cases hk : idxF D.fs s < D.fs.length
  · obtain rfl : cc = 0 := by rw [← HC.out]; unfold readC; rw [if_pos hk]
    obtain rfl : bb = (D.fs.getD (idxF D.fs s) noFl).b := by rw [← HB.out]; unfold readB; rw [if_pos hk]
    have e3 : ptrOf D.fs hd s = .pointer (some ⟨(hd s).k, 0, none⟩) := if_pos hk
    rw [e3] at q1
    have hr := (h.file hk).1
    have hle : (hd s).nb ≤ 1000000 := by
      have := (go.ok.fls _ (fl_get hk)).1
      have := hr.own.len
      omega
    have x0 := hr.c0
    have ho := hr.own
    clear HC HB hr h e3 hk go
    generalize (D.fs.getD (idxF D.fs s) noFl).b = bb at *
    generalize (hd s).k = k at *
    generalize (hd s).B = B at *
    generalize (hd s).nb = nb at *
    generalize (hd s).cb = cb at *
    go_enter Tryz.func34, Tryz.ntmps34
    go_wp2_with fail
    refine (cloneB_any B nb cb bb w ho hle).mono ?_
    rintro e w2 ⟨B2, c2, rfl, o2, b2⟩
    go_wp2_with fail
    go_ret2
    exact ⟨_, _, _, rfl, o2.rd, fun a ha => World.ownsRow.lt o2 a.block (by simp [Value.ownBlock, ha]), b2⟩
  · obtain rfl : cc = 11 := by rw [← HC.out]; unfold readC; rw [if_neg hk]
    obtain rfl : bb = [] := by rw [← HB.out]; unfold readB; rw [if_neg hk]
    have e3 : ptrOf D.fs hd s = .pointer none := if_neg hk
    rw [e3] at q1
    clear HC HB h e3 hk
    go_enter Tryz.func34, Tryz.ntmps34
    go_wp2_with fail
    go_ret2
    exact ⟨none, 0, 0, rfl, Rd.nil _, fun a ha => (by cases ha), Below.refl _ _⟩
def With (Q R : Thing) : Thing := fun w G => ∃ G1 G2, Q w G1 ∧ R w G2 ∧ (∀ k, G1 k → G k) ∧ (∀ k, G2 k → G k) ∧ (∀ k, G k → k < w.heap.size) ∧ ∀ k, G1 k → ¬ G2 k
theorem with_keeps {Q R : Thing} (kq : Keeps Q) (kr : Keeps R) : Keeps (With Q R) :=
  ⟨fun ⟨G1, G2, h1, h2, i1, i2, hl, hx⟩ hs hk => ⟨G1, G2, kq.keep h1 hs fun k h => hk k (i1 k h), kr.keep h2 hs fun k h => hk k (i2 k h), i1, i2, fun k h => Nat.lt_of_lt_of_le (hl k h) hs, hx⟩, fun ⟨_, _, _, _, _, _, hl, _⟩ => hl⟩
def SlT (A : Option Addr) (n c : Nat) (l : List UInt8) : Thing := fun w G => Rd w A n c l ∧ (∀ a, A = some a → G a.block) ∧ ∀ k, G k → k < w.heap.size
theorem slT_keeps (A : Option Addr) (n c : Nat) (l : List UInt8) : Keeps (SlT A n c l) :=
  ⟨fun ⟨h, i, hl⟩ hs hk => ⟨rd_keep h fun a ha => hk _ (i a ha), i, fun k h => Nat.lt_of_lt_of_le (hl k h) hs⟩, fun h => h.2.2⟩
def BxT (g : Nat) (cs : Array Value) (t : TypeId) : Thing := fun w G => w.heap[g]? = some (.cells cs t (0, 0)) ∧ G g ∧ ∀ k, G k → k < w.heap.size
theorem bxT_keeps (g : Nat) (cs : Array Value) (t : TypeId) : Keeps (BxT g cs t) :=
  ⟨fun ⟨h, i, hl⟩ hs hk => ⟨(hk _ i).trans h, i, fun k h => Nat.lt_of_lt_of_le (hl k h) hs⟩, fun h => h.2.2⟩
theorem pair_rd {base : Nat} {w : World} {P Q : Thing} {A : Option Addr} {n c : Nat} {l : List UInt8} (h : Pair base w P (With Q (SlT A n c l))) : Rd w A n c l := by
  obtain ⟨_, _, _, ⟨_, _, _, hr, _⟩, _⟩ := h
  exact hr.1
theorem pair_bx {base : Nat} {w : World} {P Q : Thing} {g : Nat} {cs : Array Value} {t : TypeId} (h : Pair base w P (With Q (BxT g cs t))) : w.heap[g]? = some (.cells cs t (0, 0)) := by
  obtain ⟨_, _, _, ⟨_, _, _, hr, _⟩, _⟩ := h
  exact hr.1
theorem pair_first {base : Nat} {w : World} {P Q R : Thing} (h : Pair base w P (With Q R)) : Pair base w P Q := by
  obtain ⟨F, G, hp, ⟨G1, _, h1, _, i1, _, _⟩, hF, hG, hd⟩ := h
  exact ⟨F, G1, hp, h1, hF, fun k hk => hG k (i1 k hk), fun k hf hg => hd k hf (i1 k hg)⟩
theorem pair_rot {base : Nat} {w : World} {P Q R : Thing} (kp : Keeps P) (h : Pair base w P (With Q R)) : Pair base w Q (With P R) := by
  obtain ⟨F, G, hp, ⟨G1, G2, h1, h2, i1, i2, hl, hx⟩, hF, hG, hd⟩ := h
  refine ⟨G1, fun k => F k ∨ G2 k, h1, ⟨F, G2, hp, h2, fun k hk => .inl hk, fun k hk => .inr hk, fun k hk => ?_, fun k hf hg => hd k hf (i2 k hg)⟩, fun k hk => hG k (i1 k hk), fun k hk => ?_, fun k hk hg => ?_⟩
  · rcases hk with hk | hk
    · exact kp.lt hp k hk
    · exact hl k (i2 k hk)
  · rcases hk with hk | hk
    · exact hF k hk
    · exact hG k (i2 k hk)
  · rcases hg with hg | hg
    · exact hd k hg (i1 k hk)
    · exact hx k hk hg
theorem pair_more {base : Nat} {w w' : World} {P Q R : Thing} (h : Pair base w P Q) (kp : Keeps P) (kq : Keeps Q) (hb : base ≤ w.heap.size) (hbl : Below w.heap.size w w') (hn : R w' (fun k => w.heap.size ≤ k ∧ k < w'.heap.size)) : Pair base w' P (With Q R) := by
  obtain ⟨F, G, hp, hq, h1, h2, h3⟩ := h
  have hp' := kp.keep hp hbl.size fun k hk => hbl.block k (kp.lt hp k hk)
  have hq' := kq.keep hq hbl.size fun k hk => hbl.block k (kq.lt hq k hk)
  refine ⟨F, fun k => G k ∨ (w.heap.size ≤ k ∧ k < w'.heap.size), hp', ⟨G, fun k => w.heap.size ≤ k ∧ k < w'.heap.size, hq', hn, fun k hk => .inl hk, fun k hk => .inr hk, fun k hk => ?_, fun k hg hk => ?_⟩, h1, fun k hk => ?_, fun k hf hk => ?_⟩
  · rcases hk with hk | hk
    · exact kq.lt hq' k hk
    · exact hk.2
  · have := kq.lt hq k hg
    omega
  · rcases hk with hk | hk
    · exact h2 k hk
    · omega
  · rcases hk with hk | hk
    · exact h3 k hf hk
    · have := kp.lt hp k hf
      omega
theorem pr_reads {base : Nat} {w : World} {g : Nat} {D : Dk} {Q : Thing} (h : Pair base w (LdT g D) Q) (kq : Keeps Q) (hb : base ≤ w.heap.size) (go : DkGo D) {s : ByteArray} (hs : s.size ≤ maxLen) :
    Calls Tryz.prog 34 #[.pointer (some ⟨g, 0, none⟩), .string s] w fun e w' => ∃ B m c, e = .returned (.tuple #[.slice B m c, .int .i64 (readC D s)]) ∧ Pair base w' (LdT g D) (With Q (SlT B m c (readB D s))) ∧ Below w.heap.size w w' := by
  have h' := h
  obtain ⟨F, G, hp, hq, h1, h2, h3⟩ := h
  refine (readN_any g D F s w hp go hs).mono ?_
  rintro e w' ⟨B, m, c, he, hr, hf, hbl⟩
  exact ⟨B, m, c, he, pair_more h' (ldT_keeps g D) kq hb hbl ⟨hr, hf, fun k hk => hk.2⟩, hbl⟩
section
variable {base : Nat} {w : World} {g : Nat} {D : Dk} {Q : Thing}
theorem rf_did {c : Int} {D' : Dk} {F G : Nat → Prop} {e : Ending} {w' : World} (hq : Q w G) (kq : Keeps Q) (h1 : ∀ k, F k → base ≤ k) (h2 : ∀ k, G k → base ≤ k) (h3 : ∀ k, F k → ¬ G k) (hb : base ≤ w.heap.size) (h : Did c D' g F w e w') :
    e = .returned (.int .i64 c) ∧ Pair base w' (RfT g D') Q ∧ Below base w w' :=
  ⟨h.1, Pair.left hq kq h1 h2 h3 hb h.2.1 h.2.2, ch_below (Below.refl _ _) h.2.2 h1 hb⟩
theorem rf_append (h : Pair base w (RfT g D) Q) (kq : Keeps Q) (hb : base ≤ w.heap.size) (ok : DkOk D) {s : ByteArray} (hs : s.size ≤ maxLen) {A : Option Addr} {m c : Nat} {b : List UInt8} (rb : Rd w A m c b) (hm : m ≤ 1000000) :
    Calls Tryz.prog 52 #[.pointer (some ⟨g, 0, none⟩), .string s, .slice A m c] w fun e w' => e = .returned (.int .i64 (appendD D s b).1) ∧ Pair base w' (RfT g (appendD D s b).2) Q ∧ Below base w w' := by
  obtain ⟨F, G, hp, hq, h1, h2, h3⟩ := h
  exact (refAppendC_any g D F s A m c b w hp ok hs rb hm).mono fun e w' h => rf_did hq kq h1 h2 h3 hb h
theorem rf_sync (h : Pair base w (RfT g D) Q) (kq : Keeps Q) (hb : base ≤ w.heap.size) (ok : DkOk D) (s : ByteArray) :
    Calls Tryz.prog 43 #[.pointer (some ⟨g, 0, none⟩), .string s] w fun e w' => e = .returned (.int .i64 (syncD D s).1) ∧ Pair base w' (RfT g (syncD D s).2) Q ∧ Below base w w' := by
  obtain ⟨F, G, hp, hq, h1, h2, h3⟩ := h
  exact (refSync_any g D F s w hp ok).mono fun e w' h => rf_did hq kq h1 h2 h3 hb h
theorem rf_remove (h : Pair base w (RfT g D) Q) (kq : Keeps Q) (hb : base ≤ w.heap.size) (ok : DkOk D) (s : ByteArray) :
    Calls Tryz.prog 44 #[.pointer (some ⟨g, 0, none⟩), .string s] w fun e w' => e = .returned (.int .i64 (removeD D s).1) ∧ Pair base w' (RfT g (removeD D s).2) Q ∧ Below base w w' := by
  obtain ⟨F, G, hp, hq, h1, h2, h3⟩ := h
  exact (refRemove_any g D F s w hp ok).mono fun e w' h => rf_did hq kq h1 h2 h3 hb h
theorem rf_trunc (h : Pair base w (RfT g D) Q) (kq : Keeps Q) (hb : base ≤ w.heap.size) (ok : DkOk D) (s : ByteArray) (z : Int) :
    Calls Tryz.prog 45 #[.pointer (some ⟨g, 0, none⟩), .string s, .int .i64 z] w fun e w' => e = .returned (.int .i64 (truncD D s z).1) ∧ Pair base w' (RfT g (truncD D s z).2) Q ∧ Below base w w' := by
  obtain ⟨F, G, hp, hq, h1, h2, h3⟩ := h
  exact (refTrunc_any g D F s z w hp ok).mono fun e w' h => rf_did hq kq h1 h2 h3 hb h
theorem rf_turn (h : Pair base w (RfT g D) Q) (kq : Keeps Q) (hb : base ≤ w.heap.size) (ok : DkOk D) (s : ByteArray) (z : Int) :
    Calls Tryz.prog 24 #[.pointer (some ⟨g, 0, none⟩), .string s, .int .i64 z] w fun e w' => e = .returned (.int .i64 (turnC D s z).1) ∧ Pair base w' (RfT g (turnC D s z).2) Q ∧ Below base w w' := by
  obtain ⟨F, G, hp, hq, h1, h2, h3⟩ := h
  exact (refTurn_any g D F s z w hp ok).mono fun e w' h => rf_did hq kq h1 h2 h3 hb h
theorem rf_crash (h : Pair base w (RfT g D) Q) (kq : Keeps Q) (hb : base ≤ w.heap.size) (ok : DkOk D) {keep : Int} (hk : -9223372036854775808 ≤ keep ∧ keep ≤ 9223372036854775807) :
    Calls Tryz.prog 21 #[.pointer (some ⟨g, 0, none⟩), .int .i64 keep] w fun e w' => e = .returned (.tuple #[]) ∧ Pair base w' (RfT g (crashD D keep)) Q ∧ Below base w w' := by
  obtain ⟨F, G, hp, hq, h1, h2, h3⟩ := h
  exact (refCrash_any g D F keep w hp ok hk).mono fun e w' h => ⟨h.1, Pair.left hq kq h1 h2 h3 hb h.2.1 h.2.2, ch_below (Below.refl _ _) h.2.2 h1 hb⟩
end
end Go.Proofs.YtppidbdkejkopaaGreatDoor.DkWalk
namespace Go.Proofs.YtppidbdkejkopaaGreatDoor.WlWalk
open Go.RowKit MemRow Ev NameMath NameWalk EvWalk NumMem DkWalk
def TabB (base : Nat) (w : World) : Prop := Lib.TabBelow Tryz.prog base w "internal/strconv.uint64pow10" .u64 Lib.pow10Tab
theorem TabB.here {base : Nat} {w : World} (h : TabB base w) : TabW w := Lib.TabBelow.here h
theorem TabB.on {base : Nat} {w w' : World} (h : TabB base w) (hb : Below base w w') : TabB base w' := Lib.TabBelow.on h hb
theorem TabW.from {w : World} (h : TabW w) : TabB w.heap.size w := Lib.tabBelow_of_tabIs h
section
variable {base : Nat} {w : World} {g : Nat} {D : Dk} {Q : Thing}
theorem rw_read (h : Pair base w (RfT g D) Q) (kq : Keeps Q) (ok : DkOk D) (s : ByteArray) :
    Calls Tryz.prog 41 #[.pointer (some ⟨g, 0, none⟩), .string s] w fun e w' => ∃ B m c, e = .returned (.tuple #[.slice B m c, .int .i64 (readC D s)]) ∧ Rd w' B m c (readB D s) ∧ Pair base w' (RfT g D) Q ∧ Below w.heap.size w w' := by
  have h' := h
  obtain ⟨F, G, hp, hq, h1, h2, h3⟩ := h
  exact (refRead_any g D F s w hp ok).mono fun e w' ⟨B, m, c, he, hr, hb⟩ => ⟨B, m, c, he, hr, h'.below (rfT_keeps g D) kq hb, hb⟩
theorem bel_up {base : Nat} {w w' : World} (hb : base ≤ w.heap.size) (h : Below w.heap.size w w') : Below base w w' := ⟨h.os, h.tape, h.output, h.size, fun k hk => h.block k (Nat.lt_of_lt_of_le hk hb)⟩
theorem manyF_step {D : Dk} {f n : Nat} : manyF D (f + 1) n = if readC D (segN (n + 1)) = 0 then manyF D f (n + 1) else n := rfl
set_option maxHeartbeats 4000000 in
set_option maxRecDepth 100000 in
theorem refMany_any (hp : Pair base w (RfT g D) Q) (kq : Keeps Q) (hb : base ≤ w.heap.size) (ok : DkOk D) (ht : TabB base w) :
    Calls Tryz.prog 40 #[.pointer (some ⟨g, 0, none⟩)] w fun e w' => e = .returned (.int .i64 (manyW D : Nat)) ∧ Pair base w' (RfT g D) Q ∧ Below base w w' := by
  have b0 := Below.refl base w
  go_enter Tryz.func40, Tryz.ntmps40
  go_wp2_with fail
  go_loopw [3, 4, 5] (fun i _ _ wr => ∃ j : Nat, j ≤ 200 ∧ i = .int .i64 j ∧ Hid (manyW D = manyF D (200 - j) j) ∧ Pair base wr (RfT g D) Q ∧ Below base w wr) (fun i _ _ _ => 200 - (intOf i).toNat)
  case atStart => exact ⟨0, Nat.zero_le _, rfl, Go.Lib.hid rfl, hp, b0⟩
  case round =>
    obtain ⟨j, hj, rfl, HM, pj, bj⟩ := hrel
    clear hp b0
    have hbj : base ≤ wr.heap.size := Nat.le_trans hb bj.size
    have tj := ht.on bj
    by_cases hlt : j < 200
    · have i1 : (j : Int) < 200 := by omega
      have hs := refSeg_any ((j : Int) + 1) wr tj.here
      have e1 : segZ ((j : Int) + 1) = segN (j + 1) := by unfold segZ; congr 1
      rw [e1] at hs
      obtain ⟨f, hf⟩ : ∃ f, 200 - j = f + 1 := ⟨200 - j - 1, by omega⟩
      have hf' : 200 - (j + 1) = f := by omega
      rw [hf, manyF_step] at HM
      have HF := Go.Lib.hid hf'
      have HS := Go.Lib.hid hs
      clear hs e1 hf hf'
      go_wp2_with fail
      refine (HS.out).mono ?_
      rintro e w2 ⟨rfl, b2⟩
      have p2 := pj.below (rfT_keeps g D) kq b2
      have B2 := bj.trans (bel_up hbj b2)
      go_wp2_with fail
      refine (rw_read p2 kq ok (segN (j + 1))).mono ?_
      rintro e w3 ⟨C, m, c, rfl, _, p3, b3⟩
      have B3 := B2.trans (bel_up (Nat.le_trans hbj b2.size) b3)
      clear p2 pj b2 b3 B2 tj HS
      by_cases hr : readC D (segN (j + 1)) = 0
      · have HM2 : Hid (manyW D = manyF D (200 - (j + 1)) (j + 1)) := Go.Lib.hid (by rw [HM.out, if_pos hr, HF.out])
        rw [hr]
        clear hr HM
        go_wp2_with fail
        go_roundw
        case rel => exact ⟨j + 1, by omega, by go_num, HM2, p3, B3⟩
        case measure => simp [intOf]; omega
      · have HM2 : Hid (manyW D = j) := Go.Lib.hid (by rw [HM.out, if_neg hr])
        have hne : (readC D (segN (j + 1)) != 0) = true := by rw [bne_iff_ne]; exact hr
        clear hr HM
        generalize readC D (segN (j + 1)) = rc at *
        go_wp2_with fail
        go_ret
        exact ⟨by (rw [HM2.out]; rfl), p3, B3⟩
    · obtain rfl : j = 200 := by omega
      have HM2 : Hid (manyW D = 200) := Go.Lib.hid (by rw [HM.out, Nat.sub_self]; rfl)
      go_wp2_with fail
      go_ret
      exact ⟨by rw [HM2.out]; rfl, pj, bj⟩
end
end Go.Proofs.YtppidbdkejkopaaGreatDoor.WlWalk
namespace Go.Proofs.YtppidbdkejkopaaGreatDoor.EdWalk
open Go.RowKit MemRow Ev NameMath NameWalk EvWalk NumMath NumMem NumWalk EcWalk
theorem field_size : (Tryz.prog.info? 132).map (·.size) = some 2 := by kernel_rfl
theorem elem_flds : Tryz.prog.elem 67 = 132 := by kernel_rfl
def fewE (e : Ev) : Ev := ⟨e.s, e.t, e.tags.take 12, e.fs.take 12⟩
theorem fewE_ok {e : Ev} (h : EvOk e) : EvOk (fewE e) :=
  ⟨h.s, h.t, fun x hx => h.tags x (List.mem_of_mem_take hx), fun f hf => h.names f (List.mem_of_mem_take hf), fun f hf => h.nums f (List.mem_of_mem_take hf)⟩
theorem small_ok {e : Ev} (h1 : e.s.size ≤ 100) (h2 : e.t.size ≤ 100) (h3 : ∀ x ∈ e.tags, x.size ≤ 100) (h4 : ∀ f ∈ e.fs, f.1.size ≤ 100) (h5 : ∀ f ∈ e.fs, 0 ≤ f.2 ∧ f.2 ≤ 100) : EvOk e := by
  have hm : 100 ≤ maxLen := by unfold maxLen; omega
  exact ⟨Nat.le_trans h1 hm, Nat.le_trans h2 hm, fun x hx => Nat.le_trans (h3 x hx) hm, fun f hf => Nat.le_trans (h4 f hf) hm, fun f hf => by have := h5 f hf; omega⟩
def exE : Ev := ⟨⟨#[115]⟩, ⟨#[116]⟩, [], []⟩
theorem exE_may : mayE exE = 0 := by kernel_rfl
theorem exE_ok : EvOk exE := small_ok (by decide) (by decide) (by decide) (by decide) (by decide)
theorem enc_small {x : Int} (h0 : 0 ≤ x) (h : x < 64) : enc x = [(2 * x).toNat.toUInt8] := by
  have hz : Go.Lib.zigzag x = (2 * x).toNat := by
    obtain ⟨k, rfl⟩ := Int.eq_ofNat_of_zero_le h0
    unfold Go.Lib.zigzag
    split <;> omega
  show Go.Lib.uvarint (Go.Lib.zigzag x) = _
  rw [hz, Go.Lib.uvarint_small (by omega)]
theorem exE_enc : ([] : List UInt8) ++ encE exE = [2, 115, 2, 116, 0, 0] := by
  have e1 : enc ((⟨#[115]⟩ : ByteArray).size : Int) = [2] := by rw [enc_small (by decide) (by decide)]; rfl
  have e2 : enc ((⟨#[116]⟩ : ByteArray).size : Int) = [2] := by rw [enc_small (by decide) (by decide)]; rfl
  have e3 : enc ((([] : List ByteArray).length : Nat) : Int) = [0] := by rw [enc_small (by decide) (by decide)]; rfl
  have e4 : enc ((([] : List (ByteArray × Int)).length : Nat) : Int) = [0] := by rw [enc_small (by decide) (by decide)]; rfl
  unfold encE exE txt
  simp only
  rw [e1, e2, e3, e4]
  rfl
end Go.Proofs.YtppidbdkejkopaaGreatDoor.EdWalk
namespace Go.Proofs.YtppidbdkejkopaaGreatDoor.EeLaw
open Go.RowKit Go.WideShapes Go.ChangeShapes MemRow Ev NameMath NameWalk EvWalk NumMath NumMem NumWalk EcWalk EdWalk Go.Proofs.YtppidbdkejkopaaGreatDoor.Open
theorem elem_bytes : Tryz.prog.elem 58 = 5 := by kernel_rfl
theorem run_size_u8 (W : World) : (sizeOf 5).run Tryz.prog W = .ok 1 W := by
  have hi := u8_size
  cases hq : Tryz.prog.info? 5 with
  | none => simp [hq] at hi
  | some i =>
    have hs : i.size = 1 := by simpa [hq] using hi
    simp [sizeOf, typeInfo, hq, hs]
set_option maxRecDepth 100000 in
theorem slice_upto (A : Option Addr) (n cap m : Nat) (hc : m ≤ cap) (W : World) :
    (Instr.slice 58 (.slice A n cap) none (some (.int .i64 (m : Int))) none).run Tryz.prog W = .ok (.slice A m cap) W := by
  have hu : Tryz.prog.underlying 58 = some (.slice (Tryz.prog.elem 58)) := by rw [elem_bytes]; exact Tryz.underlying58
  have e : A.map (·.add 0) = A := by cases A <;> simp [Addr.add]
  rw [run_slice_h (P := Tryz.prog) W 58 _ n cap hu .i64 (m : Int) (by omega) (by omega), elem_bytes, run_size_u8]
  simp only [Result.andThen, sliced, Int.toNat_natCast, Nat.zero_mul, e, Nat.sub_zero]
  congr 2
  split <;> rfl
theorem rd_str {w : World} {A : Option Addr} {n cap : Nat} {l : List UInt8} (h : Rd w A n cap l) : (convert 58 9 (.slice A n cap)).run Tryz.prog w = .ok (.string ⟨l.toArray⟩) w :=
  h.string (P := Tryz.prog) 58 9 5 Tryz.underlying58 Tryz.underlying5 Tryz.underlying9
theorem bytes_ne {a b : List UInt8} (h : a ≠ b) : (a == b) = false := by rw [beq_eq_false_iff_ne]; exact h
theorem bel_drewN {B : Nat} {a w : World} (h : Below B a w) (n : Nat) : Below B a (w.drewN n) := ⟨h.os, h.tape, h.output, h.size, h.block⟩
end Go.Proofs.YtppidbdkejkopaaGreatDoor.EeLaw
namespace Go.Proofs.YtppidbdkejkopaaGreatDoor.BtWalk
open Go.RowKit Go.WideShapes Go.ChangeShapes Go.Joins Go.Deep MemRow Ev NameMath NameWalk EvWalk NumMath NumMem NumWalk EcWalk EdWalk EeLaw Go.Proofs.YtppidbdkejkopaaGreatDoor.Open
def IsB (w : World) (v : Value) (x : Bat) : Prop := ∃ A n ca, v = .agg #[.int .i64 x.a, .slice A n ca] ∧ RdE w A n ca x.es
theorem IsB.below {w w' : World} {v : Value} {x : Bat} (h : IsB w v x) (hb : Below w.heap.size w w') : IsB w' v x := by
  obtain ⟨A, n, ca, rfl, h1⟩ := h
  exact ⟨A, n, ca, rfl, h1.below hb⟩
structure BOk (x : Bat) : Prop where
  evs : ∀ e ∈ x.es, EvOk e
  a : -9223372036854775808 ≤ x.a ∧ x.a ≤ 9223372036854775807
def BxAt (w : World) (g : Nat) (v0 v1 : Value) : Prop := w.heap[g]? = some (.cells #[v0, v1] 39 (0, 0))
theorem BxAt.new (w : World) (v0 v1 : Value) : BxAt (w.alloc (.cells #[v0, v1] 39)) w.heap.size v0 v1 := heap_alloc_new w _
section
variable {w w' : World} {g : Nat} {v0 v1 : Value}
theorem BxAt.lt (h : BxAt w g v0 v1) : g < w.heap.size := (Array.getElem?_eq_some_iff.1 h).1
theorem BxAt.below (h : BxAt w g v0 v1) (hb : Below w.heap.size w w') : BxAt w' g v0 v1 := (hb.block g h.lt).trans h
theorem BxAt.c0 (h : BxAt w g v0 v1) : w.cell? ⟨g, 0, none⟩ = some v0 := by rw [cell_of_row w g 0 _ _ _ h]; rfl
theorem BxAt.c1 (h : BxAt w g v0 v1) : w.cell? ⟨g, 1, none⟩ = some v1 := by rw [cell_of_row w g 1 _ _ _ h]; rfl
theorem BxAt.frozen (h : BxAt w g v0 v1) (i : Nat) : w.frozen? ⟨g, i, none⟩ = false := by
  unfold BxAt at h
  simp [World.frozen?, h]
theorem BxAt.grown {row : Option Nat} (h : BxAt w g v0 v1) (hg : w.grownBy w' row) (hne : some g ≠ row) : BxAt w' g v0 v1 := (hg.block g h.lt hne).trans h
theorem BxAt.set0 (h : BxAt w g v0 v1) (x : Value) : BxAt (w.setCell ⟨g, 0, none⟩ x) g x v1 := by
  unfold BxAt at h ⊢
  simp only [World.setCell, Array.getElem?_modify, h]
  rfl
theorem BxAt.set1 (h : BxAt w g v0 v1) (x : Value) : BxAt (w.setCell ⟨g, 1, none⟩ x) g v0 x := by
  unfold BxAt at h ⊢
  simp only [World.setCell, Array.getElem?_modify, h]
  rfl
theorem BxAt.all (h : BxAt w g v0 v1) (x y : Value) : BxAt ((w.setCell ⟨g, 0, none⟩ x).setCell ⟨g, 1, none⟩ y) g x y := (h.set0 x).set1 y
theorem BxAt.far {b i : Nat} (h : BxAt w g v0 v1) (hne : g ≠ b) (x : Value) : BxAt (w.setCell ⟨b, i, none⟩ x) g v0 v1 := by
  unfold BxAt at h ⊢
  simp only [World.setCell, Array.getElem?_modify]
  rw [if_neg (fun e => hne e.symm)]
  exact h
end
theorem batch_bel (w : World) (v0 v1 : Value) : Below w.heap.size w (w.alloc (.cells #[v0, v1] 39)) := (Below.refl _ _).alloc (Nat.le_refl _) _
structure BoxB (wr w : World) (v0 v1 : Value) : Prop where
  eq : BxAt wr w.heap.size v0 v1
  bel : Below w.heap.size w wr
section
variable {wr w w' : World} {v0 v1 : Value}
theorem BoxB.new (w : World) (v0 v1 : Value) : BoxB (w.alloc (.cells #[v0, v1] 39)) w v0 v1 := ⟨BxAt.new w v0 v1, batch_bel w v0 v1⟩
theorem BoxB.below (h : BoxB wr w v0 v1) (hb : Below wr.heap.size wr w') : BoxB w' w v0 v1 := ⟨h.eq.below hb, below_chain h.bel hb⟩
theorem BoxB.drewN (h : BoxB wr w v0 v1) (k : Nat) : BoxB (wr.drewN k) w v0 v1 := ⟨h.eq, EeLaw.bel_drewN h.bel k⟩
theorem BoxB.drew (h : BoxB wr w v0 v1) : BoxB wr.drew w v0 v1 := ⟨h.eq, bel_drew h.bel⟩
theorem BoxB.all (h : BoxB wr w v0 v1) (x y : Value) : BoxB ((wr.setCell ⟨w.heap.size, 0, none⟩ x).setCell ⟨w.heap.size, 1, none⟩ y) w x y := ⟨h.eq.all x y, (h.bel.setCell (Nat.le_refl _) _).setCell (Nat.le_refl _) _⟩
end
def EvsO (w0 : World) : List Ev → List Value → Prop
  | [], cs => cs = []
  | e :: es, cs => ∃ T nT cT F nF cF cs', cs = .string e.s :: .string e.t :: .slice T nT cT :: .slice F nF cF :: cs' ∧ RdS w0 T nT cT e.tags ∧ RdF w0 F nF cF e.fs ∧ EvsO w0 es cs'
theorem EvsO.snoc {w : World} {e : Ev} {T F : Option Addr} {nT cT nF cF : Nat} (o1 : RdS w T nT cT e.tags) (o2 : RdF w F nF cF e.fs) :
    ∀ (es : List Ev) (cs : List Value), EvsO w es cs → EvsO w (es ++ [e]) (cs ++ [.string e.s, .string e.t, .slice T nT cT, .slice F nF cF])
  | [], cs, h => by
    obtain rfl : cs = [] := h
    exact ⟨T, nT, cT, F, nF, cF, [], rfl, o1, o2, rfl⟩
  | x :: es, cs, ⟨T1, n1, c1, F1, m1, d1, cs', hc, p1, p2, h⟩ => by
    subst hc
    exact ⟨T1, n1, c1, F1, m1, d1, cs' ++ [.string e.s, .string e.t, .slice T nT cT, .slice F nF cF], rfl, p1, p2, EvsO.snoc o1 o2 es cs' h⟩
theorem EvsO.at_ {w : World} : ∀ (es : List Ev) (cs : List Value), EvsO w es cs → ∀ i, i < es.length →
    ∃ T nT cT F nF cF, cs[i * 4]? = some (.string (es.getD i noEv).s) ∧ cs[i * 4 + 1]? = some (.string (es.getD i noEv).t) ∧ cs[i * 4 + 2]? = some (.slice T nT cT) ∧ cs[i * 4 + 3]? = some (.slice F nF cF) ∧ RdS w T nT cT (es.getD i noEv).tags ∧ RdF w F nF cF (es.getD i noEv).fs
  | [], _, _, i, hi => by simp at hi
  | e :: es, cs, ⟨T, nT, cT, F, nF, cF, cs', hc, o1, o2, h⟩, i, hi => by
    subst hc
    cases i with
    | zero => exact ⟨T, nT, cT, F, nF, cF, rfl, rfl, rfl, rfl, o1, o2⟩
    | succ i =>
      obtain ⟨T1, n1, c1, F1, m1, d1, q0, q1, q2, q3, p1, p2⟩ := EvsO.at_ es cs' h i (by simpa using hi)
      have e4 : (i + 1) * 4 = i * 4 + 4 := by omega
      rw [e4]
      exact ⟨T1, n1, c1, F1, m1, d1, by simpa using q0, by simpa using q1, by simpa using q2, by simpa using q3, by simpa using p1, by simpa using p2⟩
theorem EvsO.one {w : World} : ∀ (es : List Ev) (cs : List Value), EvsO w es cs → ∀ v ∈ cs, v.oneCell' = true
  | [], cs, h, v, hv => by
    obtain rfl : cs = [] := h
    simp at hv
  | _ :: es, cs, ⟨T, nT, cT, Y, nY, cY, cs', e, _, _, h⟩, v, hv => by
    subst e
    simp only [List.mem_cons] at hv
    rcases hv with rfl | rfl | rfl | rfl | hv
    · rfl
    · rfl
    · rfl
    · rfl
    · exact EvsO.one es cs' h v hv
theorem EvsO.take {w : World} : ∀ (es : List Ev) (cs : List Value) (i : Nat), EvsO w es cs → EvsO w (es.take i) (cs.take (i * 4))
  | [], cs, i, h => by
    obtain rfl : cs = [] := h
    simp only [List.take_nil]
    rfl
  | _ :: _, _, 0, _ => by
    simp only [List.take_zero, Nat.zero_mul]
    rfl
  | _ :: es, _, i + 1, ⟨T, nT, cT, Y, nY, cY, cs', rfl, o1, o2, h⟩ => by
    have e2 : (i + 1) * 4 = i * 4 + 1 + 1 + 1 + 1 := by omega
    rw [e2]
    exact ⟨T, nT, cT, Y, nY, cY, cs'.take (i * 4), rfl, o1, o2, EvsO.take es cs' i h⟩
theorem EvsO.drop {w : World} : ∀ (es : List Ev) (cs : List Value) (i : Nat), EvsO w es cs → EvsO w (es.drop i) (cs.drop (i * 4))
  | [], cs, i, h => by
    obtain rfl : cs = [] := h
    simp only [List.drop_nil]
    rfl
  | _ :: _, _, 0, h => by
    simp only [List.drop_zero, Nat.zero_mul]
    exact h
  | _ :: es, _, i + 1, ⟨_, _, _, _, _, _, cs', rfl, _, _, h⟩ => by
    have e2 : (i + 1) * 4 = i * 4 + 1 + 1 + 1 + 1 := by omega
    rw [e2]
    exact EvsO.drop es cs' i h
theorem EvsO.append {w : World} : ∀ (es fs : List Ev) (cs ds : List Value), EvsO w es cs → EvsO w fs ds → EvsO w (es ++ fs) (cs ++ ds)
  | [], _, cs, _, h, h2 => by
    obtain rfl : cs = [] := h
    exact h2
  | _ :: es, fs, _, ds, ⟨T, nT, cT, Y, nY, cY, cs', rfl, o1, o2, h⟩, h2 => ⟨T, nT, cT, Y, nY, cY, cs' ++ ds, rfl, o1, o2, EvsO.append es fs cs' ds h h2⟩
def OwnO (w0 w : World) (base : Nat) (A : Option Addr) (n cap : Nat) (es : List Ev) : Prop := ∃ cs, OwnC 4 w base 69 A n cap cs ∧ es.length = n ∧ EvsO w0 es cs
section
variable {w0 w w' : World} {base n cap : Nat} {A : Option Addr} {es : List Ev}
theorem OwnO.nil (w0 w : World) (base : Nat) : OwnO w0 w base none 0 0 [] := ⟨[], OwnC.nil _ _, rfl, rfl⟩
theorem OwnO.len (h : OwnO w0 w base A n cap es) : es.length = n := by
  obtain ⟨_, _, h, _⟩ := h
  exact h
theorem OwnO.below (h : OwnO w0 w base A n cap es) (hb : Below w.heap.size w w') : OwnO w0 w' base A n cap es := by
  obtain ⟨cs, o, hl, hc⟩ := h
  exact ⟨cs, OwnC.below o hb, hl, hc⟩
theorem OwnO.grown {g : Nat} (h : OwnO w0 w base A n cap es) (hg : w.grownBy w' (some g)) (hb : g < base) : OwnO w0 w' base A n cap es := by
  obtain ⟨cs, o, hl, hc⟩ := h
  exact ⟨cs, OwnC.grown o hg fun a hA e => by
    have := (OwnC.lt o a hA).1
    injection e with e
    omega, hl, hc⟩
theorem OwnO.rd (h : OwnO w0 w base A n cap es) (hb : Below w0.heap.size w0 w) : RdE w A n cap es := by
  obtain ⟨cs, o, hl, hc⟩ := h
  have r := OwnC.rd o
  refine ⟨hl, r.2.1, r.2.2.1, fun hn => ?_⟩
  obtain ⟨b, a, hA, hlt, hcell⟩ := RdC.at_ r (by omega) hn
  refine ⟨b, a, hA, hlt, fun i hi => ?_⟩
  obtain ⟨T, nT, cT, F, nF, cF, q0, q1, q2, q3, p1, p2⟩ := EvsO.at_ es cs hc i (by omega)
  exact ⟨T, nT, cT, F, nF, cF, hcell _ _ q0, by rw [Nat.add_assoc]; exact hcell _ _ q1, by rw [Nat.add_assoc]; exact hcell _ _ q2, by rw [Nat.add_assoc]; exact hcell _ _ q3, RdC.below p1 hb, RdC.below p2 hb⟩
end
def PutXOut (x : Bat) (w : World) (e : Ending) (w' : World) : Prop :=
  Below w.heap.size w w' ∧ ((mayX x = 0 ∧ ∃ A c, e = .returned (.tuple #[.slice A (encX x).length c, .int .i64 0]) ∧ Rd w' A (encX x).length c (encX x)) ∨ (mayX x ≠ 0 ∧ e = .returned (.tuple #[.slice none 0 0, .int .i64 (mayX x)])))
def TakeXOut (l : List UInt8) (w : World) (e : Ending) (w' : World) : Prop :=
  Below w.heap.size w w' ∧ ((∃ x A n c, takeX l = some x ∧ e = .returned (.tuple #[.agg #[.int .i64 x.a, .slice A n c], .int .i64 0]) ∧ OwnE w' w.heap.size A n c x.es) ∨ (takeX l = none ∧ e = .returned (.tuple #[.agg #[.int .i64 0, .slice none 0 0], .int .i64 2])))
def tkX (l : List UInt8) : Bat := (takeX l).getD noBat
def tkN (l : List UInt8) : Int := match takeX l with | some _ => 0 | none => 2
theorem takeX_one {l : List UInt8} {w w' : World} {e : Ending} (h : TakeXOut l w e w') : ∃ A m c, e = .returned (.tuple #[.agg #[.int .i64 (tkX l).a, .slice A m c], .int .i64 (tkN l)]) ∧ RdE w' A m c (tkX l).es ∧ Below w.heap.size w w' := by
  obtain ⟨hb, h⟩ := h
  unfold tkX tkN
  rcases h with ⟨x, A, n, c, h1, rfl, hr⟩ | ⟨h1, rfl⟩
  · rw [h1]
    exact ⟨A, n, c, rfl, hr.rd, hb⟩
  · rw [h1]
    exact ⟨none, 0, 0, rfl, RdE.nil _, hb⟩
end Go.Proofs.YtppidbdkejkopaaGreatDoor.BtWalk
namespace Go.Proofs.YtppidbdkejkopaaGreatDoor.BtWalk
open Go.RowKit MemRow Ev NameMath NameWalk EvWalk NumMath NumMem NumWalk EcWalk EdWalk EeLaw
theorem mayX_none {a : Int} {es : List Ev} (h : es.length = 0) : mayX ⟨a, es⟩ = 22 := by unfold mayX; rw [if_pos h]
theorem mayX_big {a : Int} {es : List Ev} (h : 16 < es.length) : mayX ⟨a, es⟩ = 3 := by unfold mayX; simp only; rw [if_neg (by omega), if_pos h]
theorem mayX_ev {a : Int} {es : List Ev} (h0 : es.length ≠ 0) (h : ¬ 16 < es.length) (hm : mayEs es ≠ 0) : mayX ⟨a, es⟩ = mayEs es := by unfold mayX; simp only; rw [if_neg h0, if_neg h, if_pos hm]
theorem mayX_pos {a : Int} {es : List Ev} {n : Nat} (hl : es.length = n) (h0 : n ≠ 0) (h : ¬ 16 < n) (hm : mayEs es = 0) : mayX ⟨a, es⟩ = if a < 0 ∨ 1048576 - (n : Int) < a then 1 else 0 := by
  unfold mayX
  simp only
  rw [hl, if_neg h0, if_neg h, if_neg (by simpa using hm)]
set_option maxHeartbeats 4000000 in
set_option maxRecDepth 100000 in
theorem refMayX_any (v : Value) (x : Bat) (w : World) (hv : IsB w v x) (hok : BOk x) :
    Calls Tryz.prog 31 #[v] w fun e w' => e = .returned (.int .i64 (mayX x)) ∧ Below w.heap.size w w' := by
  obtain ⟨A, n, ca, rfl, rE⟩ := hv
  obtain ⟨a, es⟩ := x
  simp only at rE
  have oke := hok.evs
  have oka := hok.a
  simp only at oke oka
  have LE := Go.Lib.hid rE.len
  have hn := rE.le
  unfold maxLen at hn
  have s1 := BoxB.new w (.int .i64 a) (.slice A n ca)
  have H1 := Go.Lib.hid (fun h => mayX_none (a := a) (es := es) h)
  have H2 := Go.Lib.hid (fun h => mayX_big (a := a) (es := es) h)
  have HX := Go.Lib.hid (fun h0 h16 hm => mayX_pos (a := a) LE.out h0 h16 hm)
  have HE := Go.Lib.hid (fun h0 h16 hm => mayX_ev (a := a) (es := es) h0 h16 hm)
  clear hok
  generalize mayX ⟨a, es⟩ = M at *
  go_enter Tryz.func31, Tryz.ntmps31
  go_upto_region 1 with (fail)
  generalize w.alloc (.cells #[.int .i64 a, .slice A n ca] 39) = w1 at *
  have k1 := s1.eq.c1
  by_cases h0 : n = 0
  · subst h0
    obtain rfl : M = 22 := H1.out LE.out
    clear H1 H2 HX HE
    go_wp2_with fail
    go_ret
    exact ⟨rfl, s1.bel⟩
  have i0 : ((n : Int) == 0) = false := by rw [beq_eq_false_iff_ne]; omega
  by_cases h16 : 16 < n
  · obtain rfl : M = 3 := H2.out (by rw [LE.out]; exact h16)
    clear H1 H2 HX HE
    have i1 : (16 : Int) < n := by omega
    go_wp2_with fail
    go_ret
    exact ⟨rfl, s1.bel⟩
  have i1 : ¬ (16 : Int) < n := by omega
  have H0 := Go.Lib.hid h0
  replace HX := Go.Lib.hid (fun hm => HX.out h0 h16 hm)
  replace HE := Go.Lib.hid (fun hm => HE.out (by rw [LE.out]; exact h0) (by rw [LE.out]; exact h16) hm)
  clear h0 H1 H2
  go_wp2_with fail
  go_loopw [3, 4] (fun i _ wr => ∃ j : Nat, j ≤ n ∧ i = .int .i64 j ∧ Hid (mayEs (es.take j) = 0) ∧ BoxB wr w (.int .i64 a) (.slice A n ca)) (fun i _ _ => n - (intOf i).toNat)
  case atStart => exact ⟨0, Nat.zero_le _, rfl, Go.Lib.hid (by simp [mayEs]), s1⟩
  case round =>
    obtain ⟨j, hj, rfl, HJ, sr⟩ := hrel
    clear s1 k1
    have k0 := sr.eq.c0
    have k1 := sr.eq.c1
    by_cases hlt : j < n
    · obtain ⟨b, o, rfl, _, kt⟩ := rE.at_ (by omega)
      obtain ⟨A1, n1, c1, B1, m1, d1, x0, x1, x2, x3, r1, r2⟩ := (kt j hlt).below sr.bel
      have i2 : (j : Int) < n := by omega
      have hjl : j < es.length := by rw [LE.out]; exact hlt
      have hoe := oke _ (ev_get hjl)
      have HA := Go.Lib.hid (mayEs_at es j HJ.out hjl)
      have HT := Go.Lib.hid (mayEs_take es j HJ.out hjl)
      clear kt hjl
      generalize es.getD j noEv = ev at *
      have iv : IsEv wr (.agg #[.string ev.s, .string ev.t, .slice A1 n1 c1, .slice B1 m1 d1]) ev := ⟨_, _, _, _, _, _, rfl, r1, r2⟩
      go_wp2_with fail
      refine (refMayE_any _ ev wr iv hoe).mono ?_
      rintro e w6 ⟨rfl, b6⟩
      have s6 := sr.below b6
      clear x0 x1 x2 x3 r1 r2 iv k0 k1 sr b6
      by_cases he : mayE ev = 0
      · have HT2 := Go.Lib.hid (HT.out he)
        rw [he]
        clear he HT HA
        go_wp2_with fail
        go_roundw
        case rel => exact ⟨j + 1, by omega, by go_num, HT2, s6⟩
        case measure => simp [intOf]; omega
      · have hb : (mayE ev != 0) = true := by rw [bne_iff_ne]; exact he
        have hme := HA.out he
        have hM : M = mayE ev := by rw [HE.out (by rw [hme]; exact he), hme]
        rw [← hM] at hb ⊢
        clear HA HT HE HX hme he hM
        go_wp2_with fail
        go_ret
        exact ⟨rfl, s6.bel⟩
    · obtain rfl : n = j := by omega
      have hes : es.take n = es := List.take_of_length_le (by rw [LE.out]; exact Nat.le_refl _)
      have HM := Go.Lib.hid (HX.out (by rw [← hes]; exact HJ.out))
      clear hes HX HE HJ
      by_cases ha : a < 0
      · obtain rfl : M = 1 := by rw [HM.out, if_pos (.inl ha)]
        clear HM
        go_wp2_with fail
        go_ret
        exact ⟨rfl, sr.bel⟩
      · by_cases hb : 1048576 - (n : Int) < a
        · obtain rfl : M = 1 := by rw [HM.out, if_pos (.inr hb)]
          clear HM
          go_wp2_with fail
          go_ret
          exact ⟨rfl, sr.bel⟩
        · obtain rfl : M = 0 := by rw [HM.out, if_neg (by omega)]
          clear HM
          go_wp2_with fail
          go_ret
          exact ⟨rfl, sr.bel⟩
set_option maxHeartbeats 4000000 in
set_option maxRecDepth 100000 in
theorem refPutX_any (v : Value) (x : Bat) (w : World) (hv : IsB w v x) (hok : BOk x) :
    Calls Tryz.prog 50 #[v] w (PutXOut x w) := by
  have hv0 := hv
  obtain ⟨A, n, ca, rfl, rE⟩ := hv
  have LE := Go.Lib.hid rE.len
  have hn := rE.le
  unfold maxLen at hn
  have s1 := BoxB.new w (.int .i64 x.a) (.slice A n ca)
  have oke := hok.evs
  go_enter Tryz.func50, Tryz.ntmps50
  go_upto_region 1 with (fail)
  generalize w.alloc (.cells #[.int .i64 x.a, .slice A n ca] 39) = w1 at *
  have k0 := s1.eq.c0
  have k1 := s1.eq.c1
  go_wp2_with fail
  refine (refMayX_any _ x w1 (hv0.below s1.bel) hok).mono ?_
  rintro e w2 ⟨rfl, b2⟩
  have s2 := s1.below b2
  clear k0 k1 s1 b2
  by_cases h0 : mayX x = 0
  case neg =>
    have m0 : (mayX x != 0) = true := by rw [bne_iff_ne]; exact h0
    have H0 := Go.Lib.hid h0
    clear h0
    go_wp2_with fail
    go_ret2
    exact ⟨s2.bel, .inr ⟨H0.out, rfl⟩⟩
  rw [h0]
  have H0 := Go.Lib.hid h0
  obtain ⟨z1, z2, z3, z4, z5⟩ := (mayX_zero x).1 h0
  have Z3 := Go.Lib.hid z3
  rw [rE.len] at z1 z2 z5
  have hx0 : -9223372036854775808 ≤ x.a ∧ x.a ≤ 9223372036854775807 := hok.a
  have hxn : -9223372036854775808 ≤ (n : Int) ∧ (n : Int) ≤ 9223372036854775807 := by omega
  clear h0 z3 z4 z5 hok
  have k0 := s2.eq.c0
  have k1 := s2.eq.c1
  have b0 : Below w2.heap.size w2 w2.drew := bel_drew (Below.refl _ _)
  have hz : ([] : List UInt8).length ≤ 10000000 := by simp
  go_wp2_with fail
  go_region_held (fun w' => w'.cell? ⟨w.heap.size, 0, none⟩ = some (.int .i64 x.a) ∧ w'.cell? ⟨w.heap.size, 1, none⟩ = some (.slice A n ca))
    (first | exact ⟨k0, k1⟩ | exact ⟨bcell b3 k0, bcell b3 k1⟩ | exact ⟨bcell b4 k0, bcell b4 k1⟩)
    (first
      | (go_at_call 83; refine (refPut_laid A3 l3.length c3 l3 (n : Int) w3 o3.rd hxn hl3).mono ?_; rintro e w4 ⟨u4, l4, H4, rfl, ⟨A4, c4, rfl, o4⟩, bb⟩; have b4 := below_chain b3 bb; clear bb)
      | (go_at_call 83; refine (refPut_laid none 0 0 [] x.a w2.drew (Rd.nil _) hx0 hz).mono ?_; rintro e w3 ⟨u3, l3, H3, rfl, ⟨A3, c3, rfl, o3⟩, bb⟩; have b3 := below_chain b0 bb; have hl3 : l3.length ≤ 10000000 := (by rw [H3.out, List.nil_append]; have := enc_le x.a hx0.1 hx0.2; omega); clear bb))
  have s4 := s2.below b4
  have L4 := Laid.lower (base' := w.heap.size) ⟨A4, c4, rfl, o4⟩ (Nat.le_trans s2.bel.size b3.size)
  have H5 : Hid (l4 = enc x.a ++ enc (x.es.length : Int) ++ evsE (x.es.take 0)) := Go.Lib.hid (by rw [H4.out, H3.out, LE.out]; simp [evsE])
  clear k0 k1 b0 b3 b4 o3 o4 hl3 s2
  generalize hv4 : Value.slice A4 l4.length c4 = v4 at *
  obtain ⟨A5, c5, rfl, o5⟩ := L4
  clear hv4
  go_wp2_with fail
  go_loopw [5, 6] (fun o i wr => ∃ (j : Nat) (A' : Option Addr) (c' : Nat) (l' : List UInt8), j ≤ n ∧ o = .slice A' l'.length c' ∧ i = .int .i64 j ∧ Hid (l' = enc x.a ++ enc (x.es.length : Int) ++ evsE (x.es.take j)) ∧ Own wr w.heap.size 5 A' l'.length c' l' ∧ BoxB wr w (.int .i64 x.a) (.slice A n ca)) (fun _ i _ => n - (intOf i).toNat)
  case atStart => exact ⟨0, A5, c5, l4, Nat.zero_le _, rfl, rfl, H5, o5, s4⟩
  case round =>
    obtain ⟨j, A', c', l', hj, rfl, rfl, HQ, oq, sq⟩ := hrel
    clear s4 o5 H5 H4 H3
    have k1 := sq.eq.c1
    by_cases hlt : j < n
    · obtain ⟨b, o, rfl, _, kt⟩ := rE.at_ (by omega)
      obtain ⟨A1, n1, c1, B1, m1, d1, x0, x1, x2, x3, r1, r2⟩ := (kt j hlt).below sq.bel
      have i2 : (j : Int) < n := by omega
      have hjl : j < x.es.length := by rw [LE.out]; exact hlt
      have hoe := oke _ (ev_get hjl)
      have HE0 := Go.Lib.hid (Z3.out _ (ev_get hjl))
      have HT := Go.Lib.hid (ev_take x.es j hjl)
      have hlq : l'.length ≤ 1000000 := by
        have h1 := evsE_le (es := x.es.take j) fun e he => Z3.out e (List.mem_of_mem_take he)
        have h2 : (x.es.take j).length ≤ 16 := by rw [List.length_take]; omega
        have h3 := enc_le x.a hx0.1 hx0.2
        have h4 := enc_le (x.es.length : Int) (by omega) (by rw [LE.out]; omega)
        rw [HQ.out]
        simp only [List.length_append]
        omega
      clear kt hjl
      generalize x.es.getD j noEv = ev at *
      have iv : IsEv wr (.agg #[.string ev.s, .string ev.t, .slice A1 n1 c1, .slice B1 m1 d1]) ev := ⟨_, _, _, _, _, _, rfl, r1, r2⟩
      go_wp2_with fail
      refine (refPutE_any A' l'.length c' l' _ ev wr oq.rd hlq iv hoe).mono ?_
      rintro e w6 ⟨hp, b6⟩
      have s6 := sq.below b6
      rcases hp with ⟨_, v7, rfl, L7⟩ | ⟨hne, _⟩
      · obtain ⟨A7, c7, rfl, o7⟩ := Laid.lower L7 sq.bel.size
        have H7 : Hid (l' ++ encE ev = enc x.a ++ enc (x.es.length : Int) ++ evsE (x.es.take (j + 1))) := Go.Lib.hid (by rw [HT.out, evsE_snoc, HQ.out]; simp only [List.append_assoc])
        clear x0 x1 x2 x3 r1 r2 iv k1 sq b6 HT HQ L7 oq
        generalize l' ++ encE ev = l7 at *
        go_wp2_with fail
        go_roundw
        case rel => exact ⟨j + 1, A7, c7, l7, by omega, rfl, by go_num, H7, o7, s6⟩
        case measure => simp [intOf]; omega
      · exact absurd HE0.out hne
    · obtain rfl : n = j := by omega
      have hes : l' = encX x := by rw [HQ.out, List.take_of_length_le (by rw [LE.out]; exact Nat.le_refl _)]; rfl
      have HP := Go.Lib.hid (fun (W : World) (e : Ending) (hb : Below w.heap.size w W) (A : Option Addr) (c : Nat) (he : e = .returned (.tuple #[.slice A l'.length c, .int .i64 0])) (hr : Rd W A l'.length c l') => (show PutXOut x w e W from ⟨hb, .inl ⟨H0.out, A, c, by rw [← hes]; exact he, by rw [← hes]; exact hr⟩⟩))
      clear hes
      go_wp2_with fail
      go_ret2
      exact HP.out _ _ sq.bel _ _ rfl oq.rd
structure TwoB (wr w : World) (a0 a1 b0 b1 : Value) : Prop where
  e0 : BxAt wr w.heap.size a0 a1
  e1 : BxAt wr (w.heap.size + 1) b0 b1
  bel : Below w.heap.size w wr
theorem TwoB.below {wr w w' : World} {a0 a1 b0 b1 : Value} (h : TwoB wr w a0 a1 b0 b1) (hb : Below wr.heap.size wr w') : TwoB w' w a0 a1 b0 b1 := ⟨h.e0.below hb, h.e1.below hb, below_chain h.bel hb⟩
theorem TwoB.new (w : World) (a0 a1 b0 b1 : Value) : TwoB ((w.alloc (.cells #[a0, a1] 39)).alloc (.cells #[b0, b1] 39)) w a0 a1 b0 b1 := by
  have e1 := BxAt.new w a0 a1
  have c1 := batch_bel w a0 a1
  generalize hw1 : w.alloc (.cells #[a0, a1] 39) = w1 at *
  have s1 : w1.heap.size = w.heap.size + 1 := by rw [← hw1]; simp
  have e2 := BxAt.new w1 b0 b1
  have c2 := batch_bel w1 b0 b1
  rw [s1] at e2
  exact ⟨e1.below c2, e2, below_chain c1 c2⟩
theorem bat_eq {a b : Bat} : a = b ↔ a.a = b.a ∧ a.es = b.es := by
  obtain ⟨x, l⟩ := a
  obtain ⟨y, m⟩ := b
  simp
set_option maxHeartbeats 4000000 in
set_option maxRecDepth 100000 in
theorem refSameX_any (v u : Value) (x y : Bat) (w : World) (hv : IsB w v x) (hu : IsB w u y) :
    Calls Tryz.prog 56 #[v, u] w fun e w' => ∃ R : Bool, (R = true ↔ x = y) ∧ e = .returned (.bool R) ∧ Below w.heap.size w w' := by
  obtain ⟨A, n, ca, rfl, rA⟩ := hv
  obtain ⟨B, m, cb, rfl, rB⟩ := hu
  obtain ⟨a, es⟩ := x
  obtain ⟨b, fs⟩ := y
  simp only at rA rB
  have hbe := @bat_eq ⟨a, es⟩ ⟨b, fs⟩
  simp only at hbe
  have HB := Go.Lib.hid hbe
  have s1 := TwoB.new w (.int .i64 a) (.slice A n ca) (.int .i64 b) (.slice B m cb)
  clear hbe
  go_enter Tryz.func56, Tryz.ntmps56
  go_upto_region 1 with (fail)
  generalize (w.alloc (.cells #[.int .i64 a, .slice A n ca] 39)).alloc (.cells #[.int .i64 b, .slice B m cb] 39) = w1 at *
  have k1 := s1.e0.c1
  have j1 := s1.e1.c1
  go_wp2_with fail
  refine (refSameAll_any A B n m ca cb es fs w1 (rA.below s1.bel) (rB.below s1.bel)).mono ?_
  rintro e w2 ⟨R, hR, rfl, b2⟩
  have s2 := s1.below b2
  have HR := Go.Lib.hid hR
  clear hR k1 j1 s1 b2
  have k0 := s2.e0.c0
  have j0 := s2.e1.c0
  by_cases hab : a = b
  · subst hab
    go_wp2_with fail
    go_ret
    exact ⟨R, by rw [HB.out, HR.out]; simp, rfl, s2.bel⟩
  · have i1 : (a == b) = false := by rw [beq_eq_false_iff_ne]; exact hab
    have HN := Go.Lib.hid hab
    clear hab
    go_wp2_with fail
    go_ret
    exact ⟨false, ⟨(fun h => by cases h), fun h => absurd (HB.out.1 h).1 HN.out⟩, rfl, s2.bel⟩
end Go.Proofs.YtppidbdkejkopaaGreatDoor.BtWalk
namespace Go.Proofs.YtppidbdkejkopaaGreatDoor.BtWalk
open Go.RowKit MemRow Ev NameMath NameWalk EvWalk NumMath NumMem NumWalk EcWalk EdWalk EeLaw
structure RtAt (R : TypeId) (wr w : World) (g : Nat) (l : List UInt8) (b : Bool) (gx : Nat) (a : Int) (A : Option Addr) (n c : Nat) (es : List Ev) : Prop where
  rd : Rdr wr R g l b
  res : BxAt wr w.heap.size (.int .i64 0) (.slice none 0 0)
  bx : BxAt wr gx (.int .i64 a) (.slice A n c)
  own : OwnE wr (gx + 1) A n c es
  bel : Below w.heap.size w wr
  hw : w.heap.size < g
  hg : g < gx
section
variable {R : TypeId} {wr w w' : World} {g gx n c : Nat} {l l' : List UInt8} {b b' : Bool} {a : Int} {A : Option Addr} {es : List Ev}
theorem RtAt.read (h : RtAt R wr w g l b gx a A n c es) (hr : Rdr w' R g l' b') (hg : wr.grownBy w' (some g)) : RtAt R w' w g l' b' gx a A n c es := by
  have h1 := h.hw
  have h2 := h.hg
  exact ⟨hr, h.res.grown hg (by simp; omega), h.bx.grown hg (by simp; omega), h.own.off hg (by omega), h.bel.grown hg h.bel.size (by rintro q ⟨rfl⟩; omega), h1, h2⟩
theorem RtAt.below (h : RtAt R wr w g l b gx a A n c es) (hb : Below wr.heap.size wr w') : RtAt R w' w g l b gx a A n c es :=
  ⟨h.rd.below hb, h.res.below hb, h.bx.below hb, h.own.below hb, below_chain h.bel hb, h.hw, h.hg⟩
theorem RtAt.drew (h : RtAt R wr w g l b gx a A n c es) : RtAt R wr.drew w g l b gx a A n c es := h.below (bel_drew (Below.refl _ _))
theorem RtAt.more {cs : List Value} {e : Ev} {T F : Option Addr} {nT cT nF cF : Nat} {A' : Option Addr} {c' : Nat} {w8 : World} (h : RtAt R wr w g l b gx a A n c es) (ho : OwnC 4 wr (gx + 1) 69 A n c cs) (hl : es.length = n) (hc : EvsC wr (gx + 1) es cs)
    (o1 : OwnC 1 wr (gx + 1) 9 T nT cT (MemRow.strs e.tags)) (o2 : OwnC 2 wr (gx + 1) 132 F nF cF (flds e.fs))
    (ho8 : OwnC 4 w8 (gx + 1) 69 A' (n + 1) c' (cs ++ [.string e.s, .string e.t, .slice T nT cT, .slice F nF cF])) (hg : wr.grownBy w8 (A.map (·.block))) :
    w8.frozen? ⟨gx, 1, none⟩ = false ∧ w8.cell? ⟨gx, 1, none⟩ = some (.slice A n c) ∧ RtAt R (w8.setCell ⟨gx, 1, none⟩ (.slice A' (n + 1) c')) w g l b gx a A' (n + 1) c' (es ++ [e]) := by
  have h1 := h.hw
  have h2 := h.hg
  have low := fun r e => row_low ho (r := r) e
  have hF : ∀ k, k < gx + 1 → some k ≠ A.map (·.block) := fun k hk e => by have := low k e.symm; omega
  have e8 := h.bx.grown hg (hF _ (by omega))
  have hs := grown_set w8 gx 1 (.slice A' (n + 1) c')
  have oe := OwnE.more ho hl hc o1 o2 ho8 hg
  refine ⟨e8.frozen 1, e8.c1, rdr_apart (rdr_apart h.rd hg fun r e => by have := low r e; omega) hs (fun r e => by injection e; omega), (h.res.grown hg (hF _ (by omega))).far (by omega) _, e8.set1 _, oe.off hs (by omega), ?_, h1, h2⟩
  exact (h.bel.grown hg h.bel.size (fun r e => by have := low r e; omega)).setCell (by show w.heap.size ≤ gx; omega) _
theorem RtAt.fin (h : RtAt R wr w g l b gx a A n c es) (x y : Value) (w9 : World) (h9 : w9 = (wr.setCell ⟨w.heap.size, 0, none⟩ x).setCell ⟨w.heap.size, 1, none⟩ y) : BxAt w9 w.heap.size x y ∧ OwnE w9 w.heap.size A n c es ∧ Below w.heap.size w w9 := by
  subst h9
  have h1 := h.hw
  have h2 := h.hg
  exact ⟨h.res.all x y, ((h.own.off (grown_set wr _ 0 x) (by omega)).off (grown_set _ _ 1 y) (by omega)).lower (by omega), (h.bel.setCell (Nat.le_refl _) x).setCell (Nat.le_refl _) y⟩
end
theorem evOk_may {e : Ev} (h : mayE e = 0) : EvOk e := by
  have sm := may_smallE h
  have hm : 100 ≤ maxLen := by unfold maxLen; omega
  exact ⟨Nat.le_trans (by have := sm.s; omega) hm, Nat.le_trans (by have := sm.t; omega) hm, fun x hx => Nat.le_trans (by have := sm.tags x hx; omega) hm, fun f hf => Nat.le_trans (by have := sm.names f hf; omega) hm, fun f hf => by have := sm.nums f hf; omega⟩
set_option maxHeartbeats 8000000 in
set_option maxRecDepth 100000 in
theorem refTakeX_any (A0 : Option Addr) (n0 cap0 : Nat) (l : List UInt8) (w : World) (h : Rd w A0 n0 cap0 l) (hl : l.length ≤ 1000000) :
    Calls Tryz.prog 74 #[.slice A0 n0 cap0] w (TakeXOut l w) := by
  have HL := Go.Lib.hid h.len
  have hn0 : n0 ≤ 1000000 := by rw [← HL.out]; exact hl
  have e1 := BxAt.new w (.int .i64 0) (.slice none 0 0)
  have b1 := batch_bel w (.int .i64 0) (.slice none 0 0)
  have s1 : (w.alloc (.cells #[.int .i64 0, .slice none 0 0] 39)).heap.size = w.heap.size + 1 := by simp
  go_enter Tryz.func74, Tryz.ntmps74
  go_upto_region 1 with (fail)
  generalize w.alloc (.cells #[.int .i64 0, .slice none 0 0] 39) = w1 at *
  have h1 := h.below b1
  have S1 := Go.Lib.hid s1
  clear s1
  have bc : Below w1.heap.size w1 (w1.alloc (.cells #[] 5)) := (Below.refl _ _).alloc (Nat.le_refl _) _
  have r9 := h1.below bc
  go_upto_region 2 with (at_builtin; refine wpList_append_fresh rfl (.tmp 12) (.tmp 13) 58 rfl 5 Tryz.underlying58 u8_info rfl rfl (Own.empty w1 5 (Nat.le_refl _)) r9 (by omega) bc.size w1 bc ?_; intro A9 c9 w9 o9 b9)
  have be : Below w9.heap.size w9 (w9.alloc (.cells #[.slice A9 n0 c9, .bool false] 141)) := (Below.refl _ _).alloc (Nat.le_refl _) _
  have hy : Rdr (w9.alloc (.cells #[.slice A9 n0 c9, .bool false] 141)) 141 w9.heap.size l false := ⟨_, _, _, heap_alloc_new w9 _, o9.rd.below be, fun a h => by subst h; exact (World.ownsRow.lt o9 a.block rfl).2⟩
  have b10 := below_chain b9 be
  have s89 := b9.size
  have s10 : w9.heap.size < (w9.alloc (.cells #[.slice A9 n0 c9, .bool false] 141)).heap.size := by simp
  generalize w9.alloc (.cells #[.slice A9 n0 c9, .bool false] 141) = w10 at *
  generalize w9.heap.size = g at *
  have hwg : w.heap.size < g := by have := S1.out; omega
  have e10 := e1.below b10
  have B10 := below_chain b1 b10
  clear o9 b9 r9 bc be h1 e1 b1 S1 b10 s89
  go_wp2_with fail
  refine (refNum_any g l false w10 hy).mono ?_
  rintro e w11 ⟨rfl, r11, g11⟩
  have e11 := e10.grown g11 (by simp; omega)
  have B11 := B10.grown g11 B10.size (by rintro q ⟨rfl⟩; omega)
  have s11 : g < w11.heap.size := Nat.lt_of_lt_of_le s10 g11.size
  clear hy e10 B10 g11 s10
  have bx := batch_bel w11 (.int .i64 (numV l)) (.slice none 0 0)
  have t12 : RtAt 141 (w11.alloc (.cells #[.int .i64 (numV l), .slice none 0 0] 39)) w g (numL l) (numB l false) w11.heap.size (numV l) none 0 0 [] :=
    ⟨r11.below bx, e11.below bx, BxAt.new w11 _ _, OwnE.nil _ _, below_chain B11 bx, hwg, s11⟩
  clear bx r11 e11 B11
  have hA0 := numV_range l
  go_upto_region 3 with (fail)
  generalize w11.alloc (.cells #[.int .i64 (numV l), .slice none 0 0] 39) = w12 at *
  generalize w11.heap.size = gx at *
  go_wp2_with fail
  refine (refNum_any g (numL l) (numB l false) w12 t12.rd).mono ?_
  rintro e w13 ⟨rfl, r13, g13⟩
  have t13 := t12.read r13 g13
  clear t12 r13 g13
  have hN := numV_range (numL l)
  have HT : Hid (∀ es r, takeEs (min (numV (numL l)) 17).toNat (numL (numL l)) (numB (numL l) (numB l false)) = some (es, r) → takeX l = if mayX ⟨numV l, es⟩ = 0 ∧ encX ⟨numV l, es⟩ = l then some ⟨numV l, es⟩ else none) := Go.Lib.hid fun es r h => by unfold takeX; rw [h]
  have HN : Hid (takeEs (min (numV (numL l)) 17).toNat (numL (numL l)) (numB (numL l) (numB l false)) = none → takeX l = none) := Go.Lib.hid fun h => by unfold takeX; rw [h]
  generalize numV l = a at *
  generalize numV (numL l) = n at *
  generalize hl2 : numL (numL l) = l2 at *
  generalize hb2 : numB (numL l) (numB l false) = b2 at *
  generalize hK : (min n 17).toNat = K at *
  clear hl2 hb2
  go_upto_block 0 with (fail)
  go_cut [7, 8, 9] (fun _ _ _ wx => ∃ (A : Option Addr) (c : Nat) (es : List Ev) (l' : List UInt8) (b' : Bool), Hid (takeEs K l2 b2 = some (es, l')) ∧ RtAt 141 wx w g l' b' gx a A K c es)
  case first =>
    go_wp2_with fail
    go_loopw [7, 8, 9] (fun i _ _ wr => ∃ (j : Nat) (A : Option Addr) (c : Nat) (es : List Ev) (l' : List UInt8) (b' : Bool), j ≤ K ∧ i = .int .i64 j ∧ Hid (takeEs K l2 b2 = (takeEs (K - j) l' b').map fun q => (es ++ q.1, q.2)) ∧ RtAt 141 wr w g l' b' gx a A j c es) (fun i _ _ _ => K - (intOf i).toNat)
    case atStart => exact ⟨0, none, 0, [], l2, b2, Nat.zero_le _, rfl, Go.Lib.hid (by simp), t13⟩
    case round =>
      obtain ⟨j, A, c, es, l', b', hj, rfl, HQ, tr⟩ := hrel
      clear t13
      by_cases hlt : j < K
      · have i1 : (j : Int) < n := by omega
        have i2 : (j : Int) ≤ 16 := by omega
        obtain ⟨k, hk⟩ : ∃ k, K - j = k + 1 := ⟨K - j - 1, by omega⟩
        have hk' : K - (j + 1) = k := by omega
        rw [hk] at HQ
        have HK := Go.Lib.hid hk'
        clear hk hk'
        go_wp2_with fail
        refine (refTake_any g l' b' wr tr.rd).mono ?_
        rintro e w2 ⟨gg, hT⟩
        rcases hT with ⟨ev, l'', htk, v, rfl, hv, r2⟩ | ⟨htk, hno, l'', b'', r2⟩
        · obtain ⟨T, nT, cT, F, nF, cF, rfl, o1, o2⟩ := hv
          have hq : takeEs K l2 b2 = (takeEs (K - (j + 1)) l'' false).map fun q => ((es ++ [ev]) ++ q.1, q.2) := by
            rw [HQ.out, takeEs_go htk, HK.out]
            simp [Option.map_map, Function.comp_def]
          have HQ2 := Go.Lib.hid hq
          have t2 := tr.read r2 gg
          have hgx : gx + 1 ≤ wr.heap.size := tr.bx.lt
          have al : Below w2.heap.size w2 (w2.alloc (.cells #[.string ev.s, .string ev.t, .slice T nT cT, .slice F nF cF] 69)) := (Below.refl _ _).alloc (Nat.le_refl _) _
          have e3 := EvAt.new w2 (.string ev.s) (.string ev.t) (.slice T nT cT) (.slice F nF cF)
          have t3 := t2.below al
          have o1' := own_lower (OwnC.below o1 al) (base' := gx + 1) hgx
          have o2' := own_lower (OwnC.below o2 al) (base' := gx + 1) hgx
          clear tr t2 r2 gg o1 o2 al hq htk HQ
          go_upto_region 8 with (fail)
          generalize w2.alloc (.cells #[.string ev.s, .string ev.t, .slice T nT cT, .slice F nF cF] 69) = w3 at *
          have k0 := e3.c0
          have k1 := e3.c1
          have k2 := e3.c2
          have k3 := e3.c3
          have q1 := t3.bx.c1
          have al4 : Below w3.heap.size w3 (w3.alloc (.cells #[.string ev.s, .string ev.t, .slice T nT cT, .slice F nF cF] 69)) := (Below.refl _ _).alloc (Nat.le_refl _) _
          have t4 := t3.below al4
          obtain ⟨cs, oc, hlen, hc⟩ := t4.own
          have p1 := OwnC.below o1' al4
          have p2 := OwnC.below o2' al4
          have big : gx + 1 ≤ (w3.alloc (.cells #[.string ev.s, .string ev.t, .slice T nT cT, .slice F nF cF] 69)).heap.size := t4.bx.lt
          have d4 : RdC 4 (w3.alloc (.cells #[.string ev.s, .string ev.t, .slice T nT cT, .slice F nF cF] 69)) (some ⟨w3.heap.size, 0, none⟩) 1 1 [.string ev.s, .string ev.t, .slice T nT cT, .slice F nF cF] := RdC.new w3 69 [.string ev.s, .string ev.t, .slice T nT cT, .slice F nF cF] rfl (by decide)
          have one : ∀ v ∈ ([.string ev.s, .string ev.t, .slice T nT cT, .slice F nF cF] : List Value), v.oneCell' = true := by
            intro v hv
            simp only [List.mem_cons, List.not_mem_nil, or_false] at hv
            rcases hv with rfl | rfl | rfl | rfl <;> rfl
          have h63 : j + 1 ≤ maxLen := by unfold maxLen; omega
          have hsz : (j + 1) * 80 ≤ 140737488355328 := by omega
          clear t3 o1' o2' al4 e3
          go_wp2_with (at_builtin; refine wpList_append_cells rfl (.tmp 40) (.tmp 42) 37 rfl 69 (.agg #[.string ⟨#[]⟩, .string ⟨#[]⟩, .slice none 0 0, .slice none 0 0]) 80 Tryz.underlying37 event_info rfl (by decide) rfl rfl oc d4 one h63 hsz big ?_; intro A8 c8 w8 o8 g8 _; obtain ⟨z8, y8, n8⟩ := t4.more oc hlen hc p1 p2 o8 g8)
          go_roundw
          case rel => exact ⟨j + 1, A8, c8, es ++ [ev], l'', false, by omega, by go_num, HQ2, n8⟩
          case measure => simp [intOf]; omega
        · obtain rfl := hno
          have hnone : takeX l = none := HN.out (by rw [HQ.out, takeEs_none htk]; rfl)
          have HNONE := Go.Lib.hid hnone
          have t2 := tr.read r2 gg
          have al : Below w2.heap.size w2 (w2.alloc (.cells #[.string ⟨#[]⟩, .string ⟨#[]⟩, .slice none 0 0, .slice none 0 0] 69)) := (Below.refl _ _).alloc (Nat.le_refl _) _
          have t3 := t2.below al
          clear tr t2 r2 gg al htk HQ hnone
          go_upto_region 8 with (fail)
          generalize w2.alloc (.cells #[.string ⟨#[]⟩, .string ⟨#[]⟩, .slice none 0 0, .slice none 0 0] 69) = w3 at *
          have q0 := t3.res.c0
          have q1 := t3.res.c1
          have z0 := t3.res.frozen 0
          have z1 := t3.res.frozen 1
          have HFIN := Go.Lib.hid (t3.fin (.int .i64 0) (.slice none 0 0) _ rfl)
          go_wp2_with fail
          obtain ⟨E9, _, B9⟩ := HFIN.out
          generalize ((w3.setCell ⟨w.heap.size, 0, none⟩ (.int .i64 0)).setCell ⟨w.heap.size, 1, none⟩ (.slice none 0 0)) = w9 at *
          have y0 := E9.c0
          have y1 := E9.c1
          exact bodyPost_ret (v := .tuple #[.agg #[.int .i64 0, .slice none 0 0], .int .i64 2]) (by simp [results, Tryz.results74, go_sem, y0, y1]) rfl ⟨B9, .inr ⟨HNONE.out, rfl⟩⟩
      · obtain rfl : K = j := by omega
        have hq : takeEs K l2 b2 = some (es, l') := by
          rw [HQ.out, Nat.sub_self]
          simp [takeEs]
        have HQQ := Go.Lib.hid hq
        clear hq HQ HT HN
        by_cases hjn : (K : Int) < n
        · have i2 : ¬ (K : Int) ≤ 16 := by omega
          go_wp2_with fail
          go_meet
          exact ⟨A, c, es, l', b', HQQ, tr⟩
        · go_wp2_with fail
          go_meet
          exact ⟨A, c, es, l', b', HQQ, tr⟩
  case rest =>
    obtain ⟨A, c, es, l', b', HQ, tr⟩ := hcut
    clear t13
    have HX := Go.Lib.hid (HT.out es l' HQ.out)
    have hev := (takeEs_canon _ _ _ _ _ HQ.out).2.2.1
    have hbk : BOk ⟨a, es⟩ := ⟨fun e he => evOk_may (hev e he), hA0⟩
    have y0 := tr.bx.c0
    have y1 := tr.bx.c1
    have iv : IsB wc (.agg #[.int .i64 a, .slice A K c]) ⟨a, es⟩ := ⟨_, _, _, rfl, tr.own.rd⟩
    clear hev HQ HT HN
    go_wp2_with fail
    refine (refPutX_any _ ⟨a, es⟩ wc iv hbk).mono ?_
    rintro e w2 ⟨b2', hp⟩
    have t2 := tr.below b2'
    have r2 := h.below t2.bel
    clear y0 y1 iv tr b2'
    rcases hp with ⟨h0, A7, c7, rfl, o7⟩ | ⟨h0, rfl⟩
    · have rc := rd_str o7
      have rb := rd_str r2
      have y0 := t2.bx.c0
      have y1 := t2.bx.c1
      have q0 := t2.res.c0
      have q1 := t2.res.c1
      have z0 := t2.res.frozen 0
      have z1 := t2.res.frozen 1
      by_cases hx : encX ⟨a, es⟩ = l
      · have HY := Go.Lib.hid ((HX.out).trans (if_pos ⟨h0, hx⟩))
        rw [hx] at rc ⊢
        have HFIN := Go.Lib.hid (t2.fin (.int .i64 a) (.slice A K c) _ rfl)
        clear hx HX h0 t2 r2 o7
        go_wp2_with fail
        obtain ⟨E9, O9, B9⟩ := HFIN.out
        generalize ((w2.setCell ⟨w.heap.size, 0, none⟩ (.int .i64 a)).setCell ⟨w.heap.size, 1, none⟩ (.slice A K c)) = w9 at *
        have y0 := E9.c0
        have y1 := E9.c1
        exact bodyPost_ret (v := .tuple #[.agg #[.int .i64 a, .slice A K c], .int .i64 0]) (by simp [results, Tryz.results74, go_sem, y0, y1]) rfl ⟨B9, .inl ⟨_, _, _, _, HY.out, rfl, O9⟩⟩
      · have HY := Go.Lib.hid ((HX.out).trans (if_neg (fun hc => hx hc.2)))
        have hne := bytes_ne hx
        have HFIN := Go.Lib.hid (t2.fin (.int .i64 0) (.slice none 0 0) _ rfl)
        clear hx HX h0 t2 r2 o7
        generalize encX ⟨a, es⟩ = le at *
        go_wp2_with fail
        obtain ⟨E9, _, B9⟩ := HFIN.out
        generalize ((w2.setCell ⟨w.heap.size, 0, none⟩ (.int .i64 0)).setCell ⟨w.heap.size, 1, none⟩ (.slice none 0 0)) = w9 at *
        have y0 := E9.c0
        have y1 := E9.c1
        exact bodyPost_ret (v := .tuple #[.agg #[.int .i64 0, .slice none 0 0], .int .i64 2]) (by simp [results, Tryz.results74, go_sem, y0, y1]) rfl ⟨B9, .inr ⟨HY.out, rfl⟩⟩
    · have HY := Go.Lib.hid ((HX.out).trans (if_neg (fun hc => h0 hc.1)))
      have hne : (mayX ⟨a, es⟩ != 0) = true := by rw [bne_iff_ne]; exact h0
      have q0 := t2.res.c0
      have q1 := t2.res.c1
      have z0 := t2.res.frozen 0
      have z1 := t2.res.frozen 1
      have HFIN := Go.Lib.hid (t2.fin (.int .i64 0) (.slice none 0 0) _ rfl)
      clear HX h0 t2 r2
      generalize mayX ⟨a, es⟩ = M at *
      go_wp2_with fail
      obtain ⟨E9, _, B9⟩ := HFIN.out
      generalize ((w2.setCell ⟨w.heap.size, 0, none⟩ (.int .i64 0)).setCell ⟨w.heap.size, 1, none⟩ (.slice none 0 0)) = w9 at *
      have y0 := E9.c0
      have y1 := E9.c1
      exact bodyPost_ret (v := .tuple #[.agg #[.int .i64 0, .slice none 0 0], .int .i64 2]) (by simp [results, Tryz.results74, go_sem, y0, y1]) rfl ⟨B9, .inr ⟨HY.out, rfl⟩⟩
end Go.Proofs.YtppidbdkejkopaaGreatDoor.BtWalk
namespace Go.Proofs.YtppidbdkejkopaaGreatDoor.FrWalk
open Go.RowKit Go.ChangeShapes Go.WideShapes Go.Joins Go.Deep MemRow NumMem Go.Proofs.YtppidbdkejkopaaGreatDoor.Open
def BsCell (w : World) (b o : Nat) (x : List UInt8) : Prop := ∃ A n ca, w.cell? ⟨b, o, none⟩ = some (.slice A n ca) ∧ Rd w A n ca x
theorem BsCell.below {w w' : World} {b o : Nat} {x : List UInt8} (h : BsCell w b o x) (hb : Below w.heap.size w w') : BsCell w' b o x := by
  obtain ⟨A, n, ca, h0, h1⟩ := h
  exact ⟨A, n, ca, bcell hb h0, h1.below hb⟩
def RdB (w : World) (A : Option Addr) (n cap : Nat) (xs : List (List UInt8)) : Prop :=
  xs.length = n ∧ n ≤ cap ∧ cap ≤ maxLen ∧ (0 < n → ∃ b o, A = some ⟨b, o, none⟩ ∧ b < w.heap.size ∧ ∀ i, i < n → BsCell w b (o + i) (xs.getD i []))
section
variable {w w' : World} {A : Option Addr} {n cap : Nat} {xs : List (List UInt8)}
theorem RdB.nil (w : World) : RdB w none 0 0 [] := ⟨rfl, Nat.le_refl _, Nat.zero_le _, fun h => absurd h (by omega)⟩
theorem RdB.len (h : RdB w A n cap xs) : xs.length = n := h.1
theorem RdB.le_cap (h : RdB w A n cap xs) : n ≤ cap := h.2.1
theorem RdB.le (h : RdB w A n cap xs) : n ≤ maxLen := Nat.le_trans h.2.1 h.2.2.1
theorem RdB.at_ (h : RdB w A n cap xs) (hn : 0 < n) : ∃ b o, A = some ⟨b, o, none⟩ ∧ b < w.heap.size ∧ ∀ i, i < n → BsCell w b (o + i) (xs.getD i []) := h.2.2.2 hn
theorem RdB.below (h : RdB w A n cap xs) (hb : Below w.heap.size w w') : RdB w' A n cap xs :=
  ⟨h.1, h.2.1, h.2.2.1, fun hn => by
    obtain ⟨b, o, hA, hlt, hc⟩ := h.2.2.2 hn
    exact ⟨b, o, hA, Nat.lt_of_lt_of_le hlt hb.size, fun i hi => (hc i hi).below hb⟩⟩
theorem RdB.first (h : RdB w A n cap xs) {m : Nat} (hm : m ≤ n) : RdB w A m cap (xs.take m) :=
  ⟨by rw [List.length_take, h.1]; omega, Nat.le_trans hm h.2.1, h.2.2.1, fun hn => by
    obtain ⟨b, o, hA, hlt, hc⟩ := h.2.2.2 (by omega)
    refine ⟨b, o, hA, hlt, fun i hi => ?_⟩
    have e : (xs.take m).getD i [] = xs.getD i [] := by
      simp only [List.getD]
      rw [List.getElem?_take_of_lt hi]
    rw [e]
    exact hc i (by omega)⟩
end
end Go.Proofs.YtppidbdkejkopaaGreatDoor.FrWalk
namespace Go.Proofs.YtppidbdkejkopaaGreatDoor.CrcWalk
open Go.RowKit CrcMath
theorem ret_int {k : IntKind} {a b : Int} (h : a = b) : Ending.returned (.int k a) = .returned (.int k b) := by rw [h]
theorem ret_bool {a b : Bool} (h : a = b) : Ending.returned (.bool a) = .returned (.bool b) := by rw [h]
def steps : Nat → Nat → Nat
  | 0, x => x
  | k + 1, x => stepB (steps k x)
theorem steps_lt (k : Nat) {x : Nat} (h : x < 4294967296) : steps k x < 4294967296 := by
  induction k with
  | zero => exact h
  | succ k ih => exact step_lt _ ih
theorem steps_8 (x : Nat) : steps 8 x = step8 x := rfl
theorem low_and (x : Nat) (h : x < 4294967296) : bits .and .u32 (x : Int) 1 = ((x % 2 : Nat) : Int) := by
  have e := u32_and_nat x 1 h (by decide)
  rw [Nat.and_one_is_mod] at e
  exact e
theorem xor_poly (x : Nat) (h : x < 4294967296) : bits .xor .u32 ((x : Int) / 2) 3988292384 = ((x / 2 ^^^ poly : Nat) : Int) := by
  have e := u32_xor_nat (x / 2) poly (by omega) (by decide)
  rw [show (((x / 2 : Nat) : Int)) = (x : Int) / 2 from by omega] at e
  exact e
theorem step_odd {x : Nat} (h : x % 2 = 1) : stepB x = x / 2 ^^^ poly := by unfold stepB; rw [if_pos h]
theorem step_evn {x : Nat} (h : ¬ x % 2 = 1) : stepB x = x / 2 := by unfold stepB; rw [if_neg h, Nat.xor_zero]
set_option maxHeartbeats 400000 in
set_option maxRecDepth 100000 in
theorem entry_any (i : Nat) (w : World) (hi : i < 4294967296) :
    Calls Tryz.prog 66 #[.int .u32 (i : Int)] w fun e w' => e = .returned (.int .u32 (step8 i : Nat)) ∧ w = w' := by
  go_enter Tryz.func66, Tryz.ntmps66
  go_wp2
  go_loop [0, 4] (fun r c => ∃ k : Nat, k ≤ 8 ∧ r = .int .u32 ((steps k i : Nat) : Int) ∧ c = .int .i64 k) (fun _ c => 8 - (intOf c).toNat)
  case atStart => exact ⟨0, by omega, rfl, rfl⟩
  case round =>
    obtain ⟨k, hk, rfl, rfl⟩ := hrel
    by_cases hlt : k < 8
    · have hx := steps_lt k hi
      have hs : steps (k + 1) i = stepB (steps k i) := rfl
      have HS := Go.Lib.hid hs
      clear hs
      generalize steps k i = x at *
      have ea := low_and x hx
      by_cases hp : x % 2 = 1
      · have ea1 : bits .and .u32 (x : Int) 1 = 1 := by rw [ea, hp]; rfl
        have ex := xor_poly x hx
        have HP := Go.Lib.hid hp
        clear ea hp
        go_wp2
        go_round
        case rel => exact ⟨k + 1, by omega, by rw [HS.out, step_odd HP.out], by go_num⟩
        case measure => simp [intOf]; omega
      · have ea1 : bits .and .u32 (x : Int) 1 = 0 := by rw [ea]; omega
        have HP := Go.Lib.hid hp
        clear ea hp
        go_wp2
        go_round
        case rel => exact ⟨k + 1, by omega, by rw [HS.out, step_evn HP.out]; go_num, by go_num⟩
        case measure => simp [intOf]; omega
    · obtain rfl : k = 8 := by omega
      go_wp2
      go_ret
      exact ⟨by rw [steps_8]; rfl, rfl⟩
end Go.Proofs.YtppidbdkejkopaaGreatDoor.CrcWalk
namespace Go.Proofs.YtppidbdkejkopaaGreatDoor.CrcWalk
open Go.RowKit CrcMath NumMem
def part (k : Nat) : Array Value := ((List.range 256).map fun j => Value.int .u32 ((if j < k then step8 j else 0 : Nat) : Int)).toArray
theorem part_size (k : Nat) : (part k).size = 256 := by simp [part]
theorem part_get (k j : Nat) (h : j < 256) : (part k)[j]? = some (.int .u32 ((if j < k then step8 j else 0 : Nat) : Int)) := by
  simp [part, h]
theorem part_set (k : Nat) : (part k).setIfInBounds k (.int .u32 ((step8 k : Nat) : Int)) = part (k + 1) := by
  apply Array.ext_getElem?
  intro j
  rw [Array.getElem?_setIfInBounds]
  by_cases hj : j < 256
  · rw [part_get (k + 1) j hj]
    by_cases hkj : k = j
    · subst hkj
      rw [if_pos rfl, if_pos (by rw [part_size]; exact hj), if_pos (by omega)]
    · rw [if_neg hkj, part_get k j hj]
      by_cases h2 : j < k
      · rw [if_pos h2, if_pos (by omega)]
      · rw [if_neg h2, if_neg (by omega)]
  · have e1 : (part (k + 1))[j]? = none := Array.getElem?_eq_none (by rw [part_size]; omega)
    have e2 : (part k)[j]? = none := Array.getElem?_eq_none (by rw [part_size]; omega)
    rw [e1, e2]
    split <;> first | rfl | (rw [part_size]; rw [if_neg (by omega)])
theorem part_one (k : Nat) : (part k).all (·.oneCell') = true := by
  rw [Array.all_eq_true_iff_forall_mem]
  intro v hv
  simp [part] at hv
  obtain ⟨j, _, rfl⟩ := hv
  rfl
def tab : Array Value := part 256
theorem tab_size : tab.size = 256 := part_size 256
theorem tab_get (j : Nat) (h : j < 256) : tab[j]? = some (.int .u32 ((step8 j : Nat) : Int)) := by
  unfold tab
  rw [part_get 256 j h, if_pos h]
theorem tab_info : (Tryz.prog.info? 78).map (fun i => (i.zero, i.size)) = some (some (.agg (part 0)), 256) := by kernel_rfl
theorem below_setRow {B : Nat} {a w : World} (h : Below B a w) (g : Nat) (cs : Array Value) (hg : B ≤ g) : Below B a (w.setRow g cs) :=
  ⟨h.os, h.tape, h.output, by simpa using h.size, fun k hk => (setRow_other w g k cs (by omega)).trans (h.block k hk)⟩
set_option maxRecDepth 100000 in
set_option maxHeartbeats 1000000 in
theorem new_any (w : World) :
    Calls Tryz.prog 35 #[] w fun e w' => e = .returned (.agg tab) ∧ Below w.heap.size w w' := by
  obtain ⟨hz, hsz⟩ := zero_of_info tab_info
  go_enter Tryz.func35, Tryz.ntmps35
  go_wp2_with fail
  go_loopw [3] (fun i wr => ∃ k : Nat, k ≤ 256 ∧ i = .int .i64 k ∧ wr = (w.alloc (.cells (part 0) 78)).alloc (.cells (part k) 78)) (fun i _ => 256 - (intOf i).toNat)
  case atStart => exact ⟨0, by omega, rfl, rfl⟩
  case round =>
    obtain ⟨k, hk, rfl, rfl⟩ := hrel
    by_cases hlt : k < 256
    · have hg := part_get k k hlt
      have hs := part_set k
      have hs8 := step8_lt k (by omega)
      go_wp2_with (go_at_call 66; refine (entry_any k _ (by omega)).mono ?_; rintro e w' ⟨rfl, rfl⟩)
      go_roundw
      case rel => exact ⟨k + 1, by omega, by go_num, rfl⟩
      case measure => simp [intOf]; omega
    · obtain rfl : k = 256 := by omega
      rw [← part_size 256] at hsz
      have H1 := Go.Lib.hid hsz
      clear hsz
      go_wp2_with (first
        | (with_reducible refine wpList_load_row rfl 78 (.tmp 1) rfl (w.heap.size + 1) rfl 78 (part 256) (0, 0) _ (heap_alloc2_new w _ _) Tryz.underlying78 rfl H1.out ?_)
        | (with_reducible refine wpList_store_row rfl 78 (.tmp 0) (.tmp 12) rfl w.heap.size (part 256) rfl rfl 78 (part 0) (heap_alloc2_old w _ _) H1.out (by rw [part_size, part_size]) (part_one 256) ?_))
      exact bodyPost_ret_by (v := .agg (part 256)) (results_cell_row rfl _ _ w.heap.size 78 (part 256) (0, 0) _ rfl (setRow_heap _ _ _ _ _ _ (heap_alloc2_old w _ _)) Tryz.underlying78 rfl H1.out) rfl ⟨rfl, below_setRow (((Below.refl _ _).alloc (Nat.le_refl _) _).alloc (by simp) _) _ _ (Nat.le_refl _)⟩
end Go.Proofs.YtppidbdkejkopaaGreatDoor.CrcWalk
namespace Go.Proofs.YtppidbdkejkopaaGreatDoor.CrcWalk
open Go.RowKit CrcMath NumMem
theorem reg_take (r : Nat) (l : List UInt8) (k : Nat) (h : k < l.length) : reg r (l.take (k + 1)) = upd (reg r (l.take k)) (l.getD k 0).toNat := by
  rw [List.take_succ_eq_append_getElem h, reg_append]
  simp [reg, List.getD, h]
theorem low_byte (x c : Nat) (hc : c < 256) : bits .xor .u8 ((x : Int) % 256) (c : Int) = (((x ^^^ c) % 256 : Nat) : Int) := by
  have e : (x : Int) % 256 = ((x % 256 : Nat) : Int) := by omega
  rw [e, u8_xor_nat _ _ (by omega) hc]
  have h : (x ^^^ c) % 2 ^ 8 = x % 2 ^ 8 ^^^ c % 2 ^ 8 := Nat.xor_mod_two_pow
  have h2 : c % 2 ^ 8 = c := by omega
  rw [h2] at h
  congr 1
  exact h.symm
theorem upd_bits (x c j : Nat) (hx : x < 4294967296) (hc : c < 256) (hj : (x ^^^ c) % 256 = j) : bits .xor .u32 ((x : Int) / 256) ((step8 j : Nat) : Int) = ((upd x c : Nat) : Int) := by
  have h : j < 256 := by omega
  have h8 := step8_lt j (by omega)
  have e : (x : Int) / 256 = ((x / 256 : Nat) : Int) := by omega
  rw [e, u32_xor_nat _ _ (by omega) h8, upd_table x c hc, hj]
theorem inv_bits (x : Nat) (hx : x < 4294967296) : bits .xor .u32 IntKind.u32.max (x : Int) = ((x ^^^ ones : Nat) : Int) := by
  have e := u32_xor_nat ones x ones_lt hx
  rw [Nat.xor_comm] at e
  exact e
end Go.Proofs.YtppidbdkejkopaaGreatDoor.CrcWalk
namespace Go.Proofs.YtppidbdkejkopaaGreatDoor.CrcWalk
open Go.RowKit CrcMath NumMem
theorem row_set (L X : List UInt8) (o k : Nat) (c : UInt8) (hk : X.length = k) (ho : o + k < L.length) : (L.take o ++ (X ++ L.drop (o + k))).set (o + k) c = L.take o ++ ((X ++ [c]) ++ L.drop (o + (k + 1))) := by
  subst hk
  have h1 : (L.take o).length = o := by simp; omega
  rw [List.set_append_right _ _ (by omega), h1, Nat.add_sub_cancel_left, List.set_append_right _ _ (by omega), Nat.sub_self, List.drop_eq_getElem_cons ho]
  simp [Nat.add_assoc]
structure PutAt (w wr : World) (g o : Nat) (t : TypeId) (L : List UInt8) (v k : Nat) : Prop where
  row : Row wr g t (L.take o ++ ((le4 v).take k ++ L.drop (o + k)))
  grown : w.grownBy wr (some g)
  size : wr.heap.size = w.heap.size
theorem putAt_start {w : World} {g o : Nat} {t : TypeId} {L : List UInt8} {v : Nat} (h : Row w g t L) : PutAt w w g o t L v 0 :=
  ⟨by simpa using h, ⟨rfl, rfl, rfl, Nat.le_refl _, fun _ _ _ => rfl⟩, rfl⟩
theorem putAt_cell {w wr : World} {g o : Nat} {t : TypeId} {L : List UInt8} {v k : Nat} (h : PutAt w wr g o t L v k) (hk : k < 4) (ho : o + 4 ≤ L.length) : (∃ x, wr.cell? ⟨g, o + k, none⟩ = some x) ∧ wr.frozen? ⟨g, o + k, none⟩ = false := by
  refine ⟨⟨_, h.row.cell (i := o + k) ?_⟩, h.row.frozen _⟩
  simp only [List.length_append, List.length_take, List.length_drop, le4_length]
  omega
theorem putAt_step {w wr : World} {g o : Nat} {t : TypeId} {L : List UInt8} {v k : Nat} (h : PutAt w wr g o t L v k) (hk : k < 4) (ho : o + 4 ≤ L.length) (x : Int) (hx : x = (((le4 v).getD k 0).toNat : Int)) :
    PutAt w (wr.setCell ⟨g, o + k, none⟩ (.int .u8 x)) g o t L v (k + 1) := by
  subst hx
  refine ⟨?_, grown_setCell h.grown _ _, by simpa [World.setCell] using h.size⟩
  have h2 := h.row.set_ (o + k) ((le4 v).getD k 0)
  rw [row_set L _ o k _ (by rw [List.length_take, le4_length]; omega) (by omega)] at h2
  have e : (le4 v).take (k + 1) = (le4 v).take k ++ [(le4 v).getD k 0] := by
    have hk4 : k < (le4 v).length := by rw [le4_length]; exact hk
    rw [List.take_succ_eq_append_getElem hk4, List.getD, List.getElem?_eq_getElem hk4]
    rfl
  rw [e]
  exact h2
theorem le4_at (v k : Nat) (hk : k < 4) : (((le4 v).getD k 0).toNat : Int) = (v : Int) / 2 ^ (8 * k) % 256 := by
  rcases (by omega : k = 0 ∨ k = 1 ∨ k = 2 ∨ k = 3) with rfl | rfl | rfl | rfl
  · show ((v.toUInt8.toNat : Nat) : Int) = (v : Int) / 1 % 256
    rw [u8]; omega
  · show (((v / 256).toUInt8.toNat : Nat) : Int) = (v : Int) / 256 % 256
    rw [u8]; omega
  · show (((v / 65536).toUInt8.toNat : Nat) : Int) = (v : Int) / 65536 % 256
    rw [u8]; omega
  · show (((v / 16777216).toUInt8.toNat : Nat) : Int) = (v : Int) / 16777216 % 256
    rw [u8]; omega
theorem word_snoc (l : List UInt8) (c : UInt8) : word (l ++ [c]) = word l + c.toNat * 2 ^ (8 * l.length) := by
  induction l with
  | nil => simp [word]
  | cons d l ih =>
    simp only [List.cons_append, word, List.length_cons, ih]
    have e : 2 ^ (8 * (l.length + 1)) = 256 * 2 ^ (8 * l.length) := by
      rw [Nat.mul_add, Nat.pow_add, Nat.mul_comm]
    rw [e, Nat.mul_add, Nat.add_assoc, Nat.mul_left_comm]
theorem word_take (l : List UInt8) (k : Nat) (h : k < l.length) : word (l.take (k + 1)) = word (l.take k) + (l.getD k 0).toNat * 2 ^ (8 * k) := by
  have e : (l.take k).length = k := by rw [List.length_take]; omega
  rw [List.take_succ_eq_append_getElem h, word_snoc, e]
  simp [List.getD, h]
theorem or_word (x c k : Nat) (hk : k < 4) (hc : c < 256) (hx : x < 2 ^ (8 * k)) : bits .or .u32 (x : Int) (IntKind.u32.wrap ((c : Int) * 2 ^ (8 * k))) = ((x + c * 2 ^ (8 * k) : Nat) : Int) := by
  have key : ∀ m : Nat, m = 2 ^ (8 * k) → c * m < 4294967296 → bits .or .u32 (x : Int) (IntKind.u32.wrap ((c : Int) * 2 ^ (8 * k))) = ((x + c * 2 ^ (8 * k) : Nat) : Int) := by
    intro m hm hlt
    have hc' : c * 2 ^ (8 * k) < 4294967296 := by rw [← hm]; exact hlt
    have e1 : ((c : Int) * 2 ^ (8 * k)) = ((c * 2 ^ (8 * k) : Nat) : Int) := by push_cast; rfl
    have e2 : IntKind.u32.wrap ((c * 2 ^ (8 * k) : Nat) : Int) = ((c * 2 ^ (8 * k) : Nat) : Int) := by rw [IntKind.wrap_u32]; omega
    have hx4 : x < 4294967296 := by
      have : 2 ^ (8 * k) ≤ 2 ^ 32 := Nat.pow_le_pow_right (by omega) (by omega)
      omega
    rw [e1, e2, u32_or_nat _ _ hx4 hc']
    congr 1
    rw [Nat.or_comm, Nat.mul_comm, ← Nat.two_pow_add_eq_or_of_lt hx, Nat.add_comm]
  rcases (by omega : k = 0 ∨ k = 1 ∨ k = 2 ∨ k = 3) with rfl | rfl | rfl | rfl
  · exact key 1 rfl (by omega)
  · exact key 256 rfl (by omega)
  · exact key 65536 rfl (by omega)
  · exact key 16777216 rfl (by omega)
end Go.Proofs.YtppidbdkejkopaaGreatDoor.CrcWalk
namespace Go.Proofs.YtppidbdkejkopaaGreatDoor.CrcWalk
open Go.RowKit CrcMath NumMem
theorem u8_info : (Tryz.prog.info? 5).map (fun i => (i.zero, i.size, i.bytes)) = some (some (.int .u8 0), 1, 1) := by kernel_rfl
theorem u8_size : (Tryz.prog.info? 5).map (·.size) = some 1 := by kernel_rfl
theorem splice_zeros (l : List UInt8) (room : Nat) : splice (cellsOf (List.replicate (l.length + room) 0)) 0 (cellsOf l) = cellsOf (l ++ List.replicate room 0) := by
  unfold splice
  rw [cellsOf_append, cellsOf_length]
  simp [cellsOf]
theorem bel_drewN {B : Nat} {a w : World} (h : Below B a w) (n : Nat) : Below B a (w.drewN n) := ⟨h.os, h.tape, h.output, h.size, h.block⟩
theorem below_chain {w w1 w2 : World} (h1 : Below w.heap.size w w1) (h2 : Below w1.heap.size w1 w2) : Below w.heap.size w w2 := h1.trans (h2.mono h1.size)
theorem elem_bytes : Tryz.prog.elem 58 = 5 := by kernel_rfl
theorem run_size_u8 (W : World) : (sizeOf 5).run Tryz.prog W = .ok 1 W := by
  have hi := u8_size
  cases hq : Tryz.prog.info? 5 with
  | none => simp [hq] at hi
  | some i =>
    have hs : i.size = 1 := by simpa [hq] using hi
    simp [sizeOf, typeInfo, hq, hs]
set_option maxRecDepth 100000 in
theorem slice_upto (A : Option Addr) (n cap m : Nat) (hc : m ≤ cap) (W : World) :
    (Instr.slice 58 (.slice A n cap) none (some (.int .i64 (m : Int))) none).run Tryz.prog W = .ok (.slice A m cap) W := by
  have hu : Tryz.prog.underlying 58 = some (.slice (Tryz.prog.elem 58)) := by rw [elem_bytes]; exact Tryz.underlying58
  have e : A.map (·.add 0) = A := by cases A <;> simp [Addr.add]
  rw [run_slice_h (P := Tryz.prog) W 58 _ n cap hu .i64 (m : Int) (by omega) (by omega), elem_bytes, run_size_u8]
  simp only [Result.andThen, sliced, Int.toNat_natCast, Nat.zero_mul, e, Nat.sub_zero]
  congr 2
  split <;> rfl
end Go.Proofs.YtppidbdkejkopaaGreatDoor.CrcWalk
namespace Go.Proofs.YtppidbdkejkopaaGreatDoor.CrcWalk
open Go.RowKit CrcMath NumMem
set_option maxHeartbeats 400000 in
set_option maxRecDepth 100000 in
theorem refEntry_any (i : Nat) (w : World) (hi : i < 4294967296) :
    Calls Tryz.prog 120 #[.int .i64 (i : Int)] w fun e w' => e = .returned (.int .u32 (step8 i : Nat)) ∧ w = w' := by
  go_enter Tryz.func120, Tryz.ntmps120
  go_wp2
  go_loop [3, 4] (fun r c => ∃ k : Nat, k ≤ 8 ∧ r = .int .u32 ((steps k i : Nat) : Int) ∧ c = .int .i64 k) (fun _ c => 8 - (intOf c).toNat)
  case atStart => exact ⟨0, by omega, rfl, rfl⟩
  case round =>
    obtain ⟨k, hk, rfl, rfl⟩ := hrel
    by_cases hlt : k < 8
    · have hx := steps_lt k hi
      have hs : steps (k + 1) i = stepB (steps k i) := rfl
      have HS := Go.Lib.hid hs
      clear hs
      generalize steps k i = x at *
      by_cases hp : x % 2 = 1
      · have ex := xor_poly x hx
        have ea : (x : Int) % 2 = 1 := by omega
        have HP := Go.Lib.hid hp
        clear hp
        go_wp2
        go_round
        case rel => exact ⟨k + 1, by omega, by rw [HS.out, step_odd HP.out], by go_num⟩
        case measure => simp [intOf]; omega
      · have ea : (x : Int) % 2 = 0 := by omega
        have HP := Go.Lib.hid hp
        clear hp
        go_wp2
        go_round
        case rel => exact ⟨k + 1, by omega, by rw [HS.out, step_evn HP.out]; go_num, by go_num⟩
        case measure => simp [intOf]; omega
    · obtain rfl : k = 8 := by omega
      go_wp2
      go_ret
      exact ⟨by rw [steps_8]; rfl, rfl⟩
theorem xor32 (x c : Nat) (hx : x < 4294967296) (hc : c < 256) : bits .xor .u32 (x : Int) (c : Int) = ((x ^^^ c : Nat) : Int) := u32_xor_nat x c hx (by omega)
set_option maxRecDepth 100000 in
set_option maxHeartbeats 1000000 in
theorem refSum_any (A : Option Addr) (n cap : Nat) (l : List UInt8) (w : World) (hr : Rd w A n cap l) :
    Calls Tryz.prog 86 #[.slice A n cap] w fun e w' => e = .returned (.int .u32 (sum l : Nat)) ∧ w = w' := by
  have hn := hr.le
  unfold maxLen at hn
  have hl := hr.len
  have HL := Go.Lib.hid hl
  clear hl
  go_enter Tryz.func86, Tryz.ntmps86
  go_wp2
  go_loop [3, 4] (fun r i => ∃ k : Nat, k ≤ n ∧ r = .int .u32 ((reg ones (l.take k) : Nat) : Int) ∧ i = .int .i64 k) (fun _ i => n - (intOf i).toNat)
  case atStart => exact ⟨0, by omega, rfl, rfl⟩
  case round =>
    obtain ⟨k, hk, rfl, rfl⟩ := hrel
    by_cases hlt : k < n
    · obtain ⟨b, o, rfl, hbl, hc⟩ := hr.at_ (by omega)
      have hck := hc k hlt
      clear hc
      have hx := reg_lt ones_lt (l.take k)
      have hs := reg_take ones l k (by rw [HL.out]; exact hlt)
      have HS := Go.Lib.hid hs
      clear hs
      generalize reg ones (l.take k) = x at *
      have hcl := UInt8.toNat_lt (l.getD k 0)
      generalize (l.getD k 0).toNat = c at *
      have e1 := xor32 x c hx hcl
      have hy := xor_byte_lt hx hcl
      obtain ⟨j, hj⟩ : ∃ j, (x ^^^ c) % 256 = j := ⟨_, rfl⟩
      have hj2 : j < 256 := by omega
      have e2 := upd_bits x c j hx hcl hj
      have HJ := Go.Lib.hid hj
      clear hj hr hbl
      generalize x ^^^ c = y at *
      have hj3 : (y : Int) % 256 = (j : Int) := by have := HJ.out; omega
      go_wp2_with (go_at_call 120; refine (refEntry_any j _ (by omega)).mono ?_; rintro e w' ⟨rfl, rfl⟩)
      go_round
      case rel => exact ⟨k + 1, by omega, by rw [HS.out], by go_num⟩
      case measure => simp [intOf]; omega
    · obtain rfl : n = k := by omega
      have hx := reg_lt ones_lt (l.take n)
      have e1 : bits .xor .u32 ((reg ones (l.take n) : Nat) : Int) 4294967295 = ((reg ones (l.take n) ^^^ ones : Nat) : Int) := u32_xor_nat _ ones hx ones_lt
      have HE := Go.Lib.hid e1
      clear e1
      go_wp2
      go_ret
      refine ⟨ret_int ?_, rfl⟩
      rw [HE.out, List.take_of_length_le (by rw [HL.out]; exact Nat.le_refl _)]
      rfl
theorem cells_le4 (v : Nat) (hv : v < 4294967296) : #[Value.int .u8 ((v : Int) % 256), .int .u8 ((v : Int) / 256 % 256), .int .u8 ((v : Int) / 65536 % 256), .int .u8 ((v : Int) / 16777216)] = (cellsOf (le4 v)).toArray := by
  have h := fun k hk => le4_at v k hk
  have h0 := h 0 (by omega)
  have h1 := h 1 (by omega)
  have h2 := h 2 (by omega)
  have h3 := h 3 (by omega)
  have e : cellsOf (le4 v) = [.int .u8 (((le4 v).getD 0 0).toNat : Int), .int .u8 (((le4 v).getD 1 0).toNat : Int), .int .u8 (((le4 v).getD 2 0).toNat : Int), .int .u8 (((le4 v).getD 3 0).toNat : Int)] := rfl
  have h4 : (v : Int) / 2 ^ (8 * 3) % 256 = (v : Int) / 16777216 := by
    show (v : Int) / 16777216 % 256 = _
    omega
  rw [e, h0, h1, h2, h3, h4]
  simp
theorem rd_str {w : World} {A : Option Addr} {n cap : Nat} {l : List UInt8} (h : Rd w A n cap l) : (convert 58 9 (.slice A n cap)).run Tryz.prog w = .ok (.string ⟨l.toArray⟩) w :=
  h.string (P := Tryz.prog) 58 9 5 Tryz.underlying58 Tryz.underlying5 Tryz.underlying9
end Go.Proofs.YtppidbdkejkopaaGreatDoor.CrcWalk
namespace Go.Proofs.YtppidbdkejkopaaGreatDoor.FrWalk
open Go.RowKit MemRow NumMem CrcMath CrcWalk FrMath
set_option maxHeartbeats 1000000 in
set_option maxRecDepth 100000 in
theorem refFour_any (v : Nat) (w : World) (hv : v < 4294967296) :
    Calls Tryz.prog 85 #[.int .u32 (v : Int)] w fun e w' => ∃ A c, e = .returned (.slice A 4 c) ∧ Rd w' A 4 c (le4 v) ∧ Below w.heap.size w w' := by
  have hcs := cells_le4 v hv
  have al : Below w.heap.size w (w.alloc (.cells #[Value.int .u8 ((v : Int) % 256), .int .u8 ((v : Int) / 256 % 256), .int .u8 ((v : Int) / 65536 % 256), .int .u8 ((v : Int) / 16777216)] 5)) := (Below.refl _ _).alloc (Nat.le_refl _) _
  have r6 : Rd (w.alloc (.cells #[Value.int .u8 ((v : Int) % 256), .int .u8 ((v : Int) / 256 % 256), .int .u8 ((v : Int) / 65536 % 256), .int .u8 ((v : Int) / 16777216)] 5)) (some ⟨w.heap.size, 0, none⟩) 4 4 (le4 v) := by
    rw [hcs]
    exact (Row.new w 5 (le4 v)).rd (by unfold maxLen; rw [le4_length]; omega)
  have HV := Go.Lib.hid hv
  clear hcs
  go_enter Tryz.func85, Tryz.ntmps85
  go_wp2_with fail
  go_ret
  exact ⟨_, _, rfl, r6, al⟩
def putC (l : List UInt8) : Int := if maxF < l.length then 3 else 0
def putB (l : List UInt8) : List UInt8 := if maxF < l.length then [] else frameF l
def PutOut (l : List UInt8) (w : World) (e : Ending) (w' : World) : Prop :=
  ∃ A m c, e = .returned (.tuple #[.slice A m c, .int .i64 (putC l)]) ∧ Rd w' A m c (putB l) ∧ Below w.heap.size w w'
set_option maxHeartbeats 2000000 in
set_option maxRecDepth 100000 in
theorem refPutF_any (A : Option Addr) (n cap : Nat) (l : List UInt8) (w : World) (h : Rd w A n cap l) :
    Calls Tryz.prog 51 #[.slice A n cap] w (PutOut l w) := by
  have hl := h.len
  by_cases hn : n ≤ 16384
  · have i1 : ¬ (n : Int) > 16384 := by omega
    have ec : putC l = 0 := by unfold putC maxF; rw [if_neg (by omega)]
    have eb : putB l = frameF l := by unfold putB maxF; rw [if_neg (by omega)]
    unfold PutOut
    rw [ec, eb]
    have hw : IntKind.u32.wrap (n : Int) = (n : Int) := IntWalk.u32_in _ (by omega)
    have HL := Go.Lib.hid hl
    clear ec eb hl
    go_enter Tryz.func51, Tryz.ntmps51
    go_wp2_with fail
    refine (refFour_any n w (by omega)).mono ?_
    rintro e w1 ⟨A1, c1, rfl, r1, b1⟩
    have al1 : Below w1.heap.size w1 (w1.alloc (.cells #[] 5)) := (Below.refl _ _).alloc (Nat.le_refl _) _
    have r1' := r1.below al1
    have R0 := Go.Lib.hid h
    have R1 := Go.Lib.hid r1
    clear r1 h
    go_wp2_with (first
      | (at_builtin; refine wpList_append_fresh rfl (.tmp 14) (.tmp 15) 58 rfl 5 Tryz.underlying58 u8_info rfl rfl (Own.empty w1 5 (Nat.le_refl _)) r1' (by omega) al1.size w1 al1 ?_; intro A2 c2 w2 o2 b2; have r2 := R0.out.below (below_chain b1 b2))
      | (at_builtin; refine wpList_append_more rfl (.tmp 16) (.tmp 17) 58 rfl 5 Tryz.underlying58 u8_info rfl rfl o2 r2 (by omega) b2.size w1 b2 ?_; intro A3 c3 w3 o3 b3; clear o2 r2 r1' al1))
    have b3' := below_chain b1 b3
    have ho3 := o3.rd
    have hs := sum_lt (le4 n ++ l)
    refine (refSum_any A3 (4 + n) c3 _ w3 ho3).mono ?_
    rintro e w' ⟨rfl, rfl⟩
    generalize hv : sum (le4 n ++ l) = v at *
    have HV := Go.Lib.hid hv
    have al3 : Below w3.heap.size w3 (w3.alloc (.cells #[] 5)) := (Below.refl _ _).alloc (Nat.le_refl _) _
    have r3 := R1.out.below (below_chain b3 al3)
    clear hv ho3 o3
    go_wp2_with (first
      | (at_builtin; refine wpList_append_fresh rfl (.tmp 20) (.tmp 21) 58 rfl 5 Tryz.underlying58 u8_info rfl rfl (Own.empty w3 5 (Nat.le_refl _)) r3 (by omega) al3.size w3 al3 ?_; intro A4 c4 w4 o4 b4))
    refine (refFour_any v w4 hs).mono ?_
    rintro e w5 ⟨A5, c5, rfl, r5, b5⟩
    have o5 := o4.below b5
    have b5' := b4.trans (b5.mono b4.size)
    clear o4 b4 b5 al3 r3
    go_wp2_with (first
      | (at_builtin; refine wpList_append_more rfl (.tmp 23) (.tmp 25) 58 rfl 5 Tryz.underlying58 u8_info rfl rfl o5 r5 (by omega) b5'.size w3 b5' ?_; intro A6 c6 w6 o6 b6; have r6 := R0.out.below (below_chain b3' b6); clear o5 r5 b5')
      | (at_builtin; refine wpList_append_more rfl (.tmp 27) (.tmp 28) 58 rfl 5 Tryz.underlying58 u8_info rfl rfl o6 r6 (by omega) b6.size w3 b6 ?_; intro A7 c7 w7 o7 b7; clear o6 r6 b6))
    go_ret2
    refine ⟨A7, _, c7, rfl, ?_, below_chain b3' b7⟩
    have e7 : le4 n ++ le4 v ++ l = frameF l := by
      rw [← HV.out, ← HL.out, List.append_assoc]
      rfl
    rw [← e7]
    exact o7.rd
  · have i1 : (n : Int) > 16384 := by omega
    have ec : putC l = 3 := by unfold putC maxF; rw [if_pos (by omega)]
    have eb : putB l = [] := by unfold putB maxF; rw [if_pos (by omega)]
    unfold PutOut
    rw [ec, eb]
    clear ec eb hl
    go_enter Tryz.func51, Tryz.ntmps51
    go_wp2_with fail
    go_ret2
    exact ⟨none, 0, 0, rfl, Rd.nil _, Below.refl _ _⟩
end Go.Proofs.YtppidbdkejkopaaGreatDoor.FrWalk
namespace Go.Proofs.YtppidbdkejkopaaGreatDoor.WlWalk
open Go.RowKit MemRow Ev NameMath NameWalk EvWalk NumMem DkWalk FrMath BtWalk
def lgV (g many : Nat) (last : Int) : Array Value := #[.pointer (some ⟨g, 0, none⟩), .int .i64 (many : Int), .int .i64 last]
abbrev LgT (gl g many : Nat) (last : Int) : Thing := BxT gl (lgV g many last) 44
section
variable {base : Nat} {w : World} {P Q : Thing} {gl g many : Nat} {last : Int}
theorem lg_cells (h : Pair base w P (With Q (LgT gl g many last))) : w.cell? ⟨gl, 0, none⟩ = some (.pointer (some ⟨g, 0, none⟩)) ∧ w.cell? ⟨gl, 1, none⟩ = some (.int .i64 (many : Int)) ∧ w.cell? ⟨gl, 2, none⟩ = some (.int .i64 last) ∧ w.frozen? ⟨gl, 1, none⟩ = false ∧ w.frozen? ⟨gl, 2, none⟩ = false := by
  have hh := pair_bx h
  refine ⟨by rw [cell_of_row w gl 0 _ _ _ hh]; rfl, by rw [cell_of_row w gl 1 _ _ _ hh]; rfl, by rw [cell_of_row w gl 2 _ _ _ hh]; rfl, by simp [World.frozen?, hh], by simp [World.frozen?, hh]⟩
theorem lg_put {cs cs' : Array Value} {t : TypeId} {i : Nat} {v : Value} (kp : Keeps P) (kq : Keeps Q) (h : Pair base w P (With Q (BxT gl cs t))) (hn : (w.setCell ⟨gl, i, none⟩ v).heap[gl]? = some (.cells cs' t (0, 0))) : Pair base (w.setCell ⟨gl, i, none⟩ v) P (With Q (BxT gl cs' t)) ∧ Below base w (w.setCell ⟨gl, i, none⟩ v) := by
  obtain ⟨F, G, hp, ⟨G1, G2, h1, ⟨hh, hg, hl⟩, i1, i2, hlt, hx⟩, hF, hG, hd⟩ := h
  have hsz : (w.setCell ⟨gl, i, none⟩ v).heap.size = w.heap.size := by simp [World.setCell]
  have hk : ∀ k, k ≠ gl → (w.setCell ⟨gl, i, none⟩ v).heap[k]? = w.heap[k]? := fun k hk => by
    have : gl ≠ k := fun e => hk e.symm
    simp [World.setCell, Array.getElem?_modify, this]
  refine ⟨⟨F, G, kp.keep hp (by omega) fun k hf => hk k fun e => hd k hf (by rw [e]; exact i2 _ hg), ⟨G1, G2, kq.keep h1 (by omega) fun k hf => hk k fun e => hx k hf (by rw [e]; exact hg), ⟨hn, hg, fun k hk => by rw [hsz]; exact hl k hk⟩, i1, i2, fun k hk => by rw [hsz]; exact hlt k hk, hx⟩, hF, hG, hd⟩, ?_⟩
  exact (Below.refl base w).setCell (by show base ≤ gl; exact hG _ (i2 _ hg)) v
theorem lg_set1 (kp : Keeps P) (kq : Keeps Q) (h : Pair base w P (With Q (LgT gl g many last))) (n : Nat) : Pair base (w.setCell ⟨gl, 1, none⟩ (.int .i64 (n : Int))) P (With Q (LgT gl g n last)) ∧ Below base w (w.setCell ⟨gl, 1, none⟩ (.int .i64 (n : Int))) := by
  have hh := pair_bx h
  refine lg_put kp kq h ?_
  unfold lgV at hh ⊢
  simp only [World.setCell, Array.getElem?_modify, hh]
  rfl
theorem lg_set2 (kp : Keeps P) (kq : Keeps Q) (h : Pair base w P (With Q (LgT gl g many last))) (z : Int) : Pair base (w.setCell ⟨gl, 2, none⟩ (.int .i64 z)) P (With Q (LgT gl g many z)) ∧ Below base w (w.setCell ⟨gl, 2, none⟩ (.int .i64 z)) := by
  have hh := pair_bx h
  refine lg_put kp kq h ?_
  unfold lgV at hh ⊢
  simp only [World.setCell, Array.getElem?_modify, hh]
  rfl
end
theorem pair_place {base : Nat} {w : World} {P Q R S : Thing} (h : Pair base w P (With (With Q R) S)) : Pair base w P (With (With Q S) R) := by
  obtain ⟨F, G, hp, ⟨G1, G2, ⟨H1, H2, hq, hr, a1, a2, a3, a4⟩, hs, i1, i2, hl, hx⟩, hF, hG, hd⟩ := h
  refine ⟨F, G, hp, ⟨fun k => H1 k ∨ G2 k, H2, ⟨H1, G2, hq, hs, fun k hk => .inl hk, fun k hk => .inr hk, fun k hk => ?_, fun k h1 h2 => hx k (a1 k h1) h2⟩, hr, fun k hk => ?_, fun k hk => i1 k (a2 k hk), hl, fun k hk h2 => ?_⟩, hF, hG, hd⟩
  · rcases hk with hk | hk
    · exact a3 k (a1 k hk)
    · exact hl k (i2 k hk)
  · rcases hk with hk | hk
    · exact i1 k (a1 k hk)
    · exact i2 k hk
  · rcases hk with hk | hk
    · exact a4 k hk h2
    · exact hx k (a2 k h2) hk
abbrev ApT (Q : Thing) (gb gl g many : Nat) (last a : Int) (v : Value) : Thing := With (With Q (BxT gb #[.int .i64 a, v] 39)) (LgT gl g many last)
theorem apT_keeps {Q : Thing} (kq : Keeps Q) (gb gl g many : Nat) (last a : Int) (v : Value) : Keeps (ApT Q gb gl g many last a v) := with_keeps (with_keeps kq (bxT_keeps _ _ _)) (bxT_keeps _ _ _)
theorem apT_box {base : Nat} {w : World} {P Q : Thing} {gb gl g many : Nat} {last a : Int} {v : Value} (h : Pair base w P (ApT Q gb gl g many last a v)) : w.cell? ⟨gb, 0, none⟩ = some (.int .i64 a) ∧ w.cell? ⟨gb, 1, none⟩ = some v := by
  have hh := pair_bx (pair_first h)
  exact ⟨by rw [cell_of_row w gb 0 _ _ _ hh]; rfl, by rw [cell_of_row w gb 1 _ _ _ hh]; rfl⟩
set_option maxHeartbeats 8000000 in
set_option maxRecDepth 100000 in
theorem refApp_any {base : Nat} {w : World} {Q : Thing} {g gl many : Nat} {last : Int} {D : Dk} {v : Value} {x : Bat} (hp : Pair base w (RfT g D) (With Q (LgT gl g many last))) (kq : Keeps Q) (hb : base ≤ w.heap.size) (ok : DkOk D) (ht : TabB base w) (hv : IsB w v x) (hok : BOk x) (hm : many ≤ 100000) (hl : 0 ≤ last ∧ last ≤ 1048576) :
    Calls Tryz.prog 17 #[.pointer (some ⟨gl, 0, none⟩), v] w fun e w' => e = .returned (.int .i64 (appendW D many last x).1) ∧ Pair base w' (RfT g (appendW D many last x).2.1) (With Q (LgT gl g (appendW D many last x).2.2.1 (appendW D many last x).2.2.2)) ∧ Below base w w' := by
  have hv0 := hv
  obtain ⟨A0, n0, c0, rfl, rE⟩ := hv
  have hn0 := rE.len
  have al := batch_bel w (.int .i64 x.a) (.slice A0 n0 c0)
  have p1' := pair_more (R := BxT w.heap.size #[.int .i64 x.a, .slice A0 n0 c0] 39) hp (rfT_keeps g D) (with_keeps kq (bxT_keeps _ _ _)) hb al ⟨BxAt.new w _ _, ⟨Nat.le_refl _, by simp⟩, fun k hk => hk.2⟩
  have p1 : Pair base _ (RfT g D) (ApT Q w.heap.size gl g many last x.a (.slice A0 n0 c0)) := pair_place p1'
  have B1 : Below base w (w.alloc (.cells #[.int .i64 x.a, .slice A0 n0 c0] 39)) := bel_up hb al
  have hv1 := hv0.below al
  have hb1 : base ≤ (w.alloc (.cells #[.int .i64 x.a, .slice A0 n0 c0] 39)).heap.size := Nat.le_trans hb B1.size
  clear p1' hp al
  generalize hR : appendW D many last x = R
  have HR := Go.Lib.hid hR
  clear hR
  go_enter Tryz.func17, Tryz.ntmps17
  go_upto_region 1 with (fail)
  generalize w.alloc (.cells #[.int .i64 x.a, .slice A0 n0 c0] 39) = w1 at *
  generalize w.heap.size = gb at *
  obtain ⟨k0, k1⟩ := apT_box p1
  go_wp2_with fail
  refine (refPutX_any _ x w1 hv1 hok).mono ?_
  rintro e w2 ⟨b2, hpx⟩
  have p2 := p1.below (rfT_keeps g D) (apT_keeps kq _ _ _ _ _ _ _) b2
  have B2 := B1.trans (bel_up hb1 b2)
  have hb2 := Nat.le_trans hb1 b2.size
  clear p1 k0 k1 b2 hv1
  rcases hpx with ⟨h0, A2, c2, rfl, r2⟩ | ⟨h0, rfl⟩
  case inr =>
    have m0 : (mayX x != 0) = true := by rw [bne_iff_ne]; exact h0
    have e1 : R = (mayX x, D, many, last) := by rw [← HR.out]; unfold appendW; rw [if_pos h0]
    have hM : mayX x = R.1 := by rw [e1]
    have pz : Pair base w2 (RfT g R.2.1) (With Q (LgT gl g R.2.2.1 R.2.2.2)) := by rw [e1]; exact pair_first (pair_place p2)
    rw [hM] at m0 ⊢
    clear HR h0 p2 e1 hM
    go_wp2_with fail
    go_ret
    exact ⟨rfl, pz, B2⟩
  have H0 := Go.Lib.hid h0
  obtain ⟨z1, z2, _, z4, z5⟩ := (mayX_zero x).1 h0
  rw [hn0] at z1 z2 z5
  have hlx := encX_le h0
  clear h0
  obtain ⟨k0, k1⟩ := apT_box p2
  obtain ⟨l0, l1, l2, f1, f2⟩ := lg_cells p2
  by_cases ha : x.a = last
  case neg =>
    obtain rfl : (1, D, many, last) = R := by rw [← HR.out]; unfold appendW; rw [if_neg (by simpa using H0.out), if_pos ha]
    have i1 : (x.a != last) = true := by rw [bne_iff_ne]; exact ha
    have pz := pair_first (pair_place p2)
    clear HR ha
    go_wp2_with fail
    go_quiet (fail)
    go_wp2_with fail
    go_ret
    exact ⟨rfl, pz.below (rfT_keeps g D) (with_keeps kq (bxT_keeps _ _ _)) (EeLaw.bel_drewN (Below.refl _ _) _), B2.trans (EeLaw.bel_drewN (Below.refl _ _) _)⟩
  have i1 : (x.a != last) = false := by rw [bne_eq_false_iff_eq]; exact ha
  have r2' := r2
  go_wp2_with fail
  go_quiet (fail)
  have p3 := p2.below (rfT_keeps g D) (apT_keeps kq _ _ _ _ _ _ _) (EeLaw.bel_drewN (Below.refl _ _) nq)
  have B3 := B2.trans (EeLaw.bel_drewN (Below.refl _ _) nq)
  have r3 := r2.drewN nq
  have hb3 : base ≤ (w2.drewN nq).heap.size := hb2
  have HA := Go.Lib.hid ha
  generalize w2.drewN nq = w3 at *
  clear p2 B2 r2 r2' hb2 k0 k1 l0 l1 l2 f1 f2 i1 ha
  go_wp2_with fail
  refine (FrWalk.refPutF_any A2 _ c2 (encX x) w3 r3).mono ?_
  rintro e w4 ⟨A4, m4, c4, rfl, r4, b4⟩
  have p4 := p3.below (rfT_keeps g D) (apT_keeps kq _ _ _ _ _ _ _) b4
  have B4 := B3.trans (bel_up hb3 b4)
  have hb4 := Nat.le_trans hb3 b4.size
  clear p3 B3 r3 hb3 b4
  by_cases hmx : maxF < (encX x).length
  · have e3 : FrWalk.putC (encX x) = 3 := by unfold FrWalk.putC; rw [if_pos hmx]
    rw [e3]
    obtain rfl : (3, D, many, last) = R := by rw [← HR.out]; unfold appendW; rw [if_neg (by simpa using H0.out), if_neg (by simpa using HA.out), if_pos hmx]
    have pz := pair_first (pair_place p4)
    clear HR hmx e3
    go_wp2_with fail
    go_ret
    exact ⟨rfl, pz, B4⟩
  have e3 : FrWalk.putC (encX x) = 0 := by unfold FrWalk.putC; rw [if_neg hmx]
  have e4 : FrWalk.putB (encX x) = frameF (encX x) := by unfold FrWalk.putB; rw [if_neg hmx]
  rw [e3]
  rw [e4] at r4
  have hm4 := r4.len
  rw [frameF_length] at hm4
  have hm4' : m4 ≤ 1000000 := by unfold maxF at hmx; omega
  replace HR : Hid ((if (appendD D (segN (nextW D many)) (frameF (encX x))).1 ≠ 0 then ((appendD D (segN (nextW D many)) (frameF (encX x))).1, (appendD D (segN (nextW D many)) (frameF (encX x))).2, many, last)
      else if (syncD (appendD D (segN (nextW D many)) (frameF (encX x))).2 (segN (nextW D many))).1 ≠ 0 then ((syncD (appendD D (segN (nextW D many)) (frameF (encX x))).2 (segN (nextW D many))).1, (syncD (appendD D (segN (nextW D many)) (frameF (encX x))).2 (segN (nextW D many))).2, nextW D many, last)
      else (0, (syncD (appendD D (segN (nextW D many)) (frameF (encX x))).2 (segN (nextW D many))).2, nextW D many, last + (x.es.length : Int))) = R) := Go.Lib.hid (by
    have := HR.out
    unfold appendW at this
    rw [if_neg (by simpa using H0.out), if_neg (by simpa using HA.out), if_neg hmx] at this
    exact this)
  generalize frameF (encX x) = f at *
  clear e3 e4 hmx hlx hm4
  generalize (encX x).length = le at *
  have SEG : Hid (∀ (n : Nat) (W : World), TabW W → Calls Tryz.prog 25 #[.int .i64 (n : Int)] W fun e w' => e = .returned (.string (segN n)) ∧ Below W.heap.size W w') := Go.Lib.hid fun n W h => refSeg_any (n : Int) W h
  obtain ⟨l0, l1, l2, f1, f2⟩ := lg_cells p4
  have bd : Below w4.heap.size w4 w4.drew := bel_drew (Below.refl _ _)
  have pd := p4.below (rfT_keeps g D) (apT_keeps kq _ _ _ _ _ _ _) bd
  have Bd := B4.trans (bel_up hb4 bd)
  have td := (ht.on Bd).here
  have rd := r4.below bd
  go_upto_region 10 with (fail)
  go_region_held (fun w' => w'.cell? ⟨gl, 0, none⟩ = some (.pointer (some ⟨g, 0, none⟩)))
    (first | exact l0 | exact (lg_cells p6).1 | exact (lg_cells p5).1)
    (first
      | (go_at_call 41; refine (rw_read p5 (apT_keeps kq _ _ _ _ _ _ _) ok (segN many)).mono ?_; rintro e w6 ⟨A6, m6, c6, rfl, r6, p6, bb⟩; have B6 := B5.trans (bel_up (Nat.le_trans hb4 b5.size) bb); have rf6 := rf5.below bb; have hb6 := Nat.le_trans (Nat.le_trans hb4 b5.size) bb.size; clear bb)
      | (go_at_call 25; refine (SEG.out many w4.drew td).mono ?_; rintro e w5 ⟨rfl, b5⟩; have p5 := pd.below (rfT_keeps g D) (apT_keeps kq _ _ _ _ _ _ _) b5; have B5 := Bd.trans (bel_up hb4 b5); have rf5 := rd.below b5))
  have hm6 := r6.len
  clear p4 pd p5 B4 Bd B5 td rd rf5 r4 b5 bd l0 l1 l2 f1 f2 hb4 r6
  have HN : Hid (nextW D many = if many = 0 ∨ 2048 ≤ m6 then many + 1 else many) := Go.Lib.hid (by unfold nextW; rw [hm6])
  clear hm6
  generalize hnx : nextW D many = nx at *
  clear hnx
  generalize readB D (segN many) = rd6 at *
  go_upto_region 11 with (fail)
  go_cut [54] (fun v wx => v = .bool (decide (many = 0 ∨ 2048 ≤ m6)) ∧ w6 = wx)
  case first =>
    by_cases hmz : many = 0
    · subst hmz
      go_wp2_with fail
      go_meet
      exact ⟨by simp, rfl⟩
    · have j0 : (((many : Int)) == 0) = false := by rw [beq_eq_false_iff_ne]; omega
      by_cases h48 : 2048 ≤ m6
      · have j1 : (2048 : Int) ≤ m6 := by omega
        go_wp2_with fail
        go_meet
        exact ⟨by simp [h48], rfl⟩
      · have j1 : ¬ (2048 : Int) ≤ m6 := by omega
        go_wp2_with fail
        go_meet
        exact ⟨by simp [h48, hmz], rfl⟩
  obtain ⟨rfl, rfl⟩ := hcut
  go_upto_if 54 with (fail)
  go_cut [8] (fun v wx => v = .int .i64 (nx : Int) ∧ w6 = wx)
  case first =>
    by_cases hc : many = 0 ∨ 2048 ≤ m6
    · have e5 : decide (many = 0 ∨ 2048 ≤ m6) = true := by simpa using hc
      obtain rfl : nx = many + 1 := by rw [HN.out, if_pos hc]
      rw [e5]
      clear HN HR
      go_wp2_with fail
      go_meet
      exact ⟨by simp, rfl⟩
    · have e5 : decide (many = 0 ∨ 2048 ≤ m6) = false := by simpa using hc
      obtain rfl : nx = many := by rw [HN.out, if_neg hc]
      rw [e5]
      clear HN HR
      go_wp2_with fail
      go_meet
      exact ⟨rfl, rfl⟩
  obtain ⟨rfl, rfl⟩ := hcut
  clear HN
  have HS : Hid ((segN nx).size ≤ maxLen) := Go.Lib.hid (seg_size nx)
  have okA := append_ok ok (segN nx) f
  generalize hA : appendD D (segN nx) f = A at *
  have HAP : Hid (appendD D (segN nx) f = A) := Go.Lib.hid hA
  clear hA
  obtain ⟨l0, l1, l2, f1, f2⟩ := lg_cells p6
  have bd6 : Below w6.heap.size w6 w6.drew := bel_drew (Below.refl _ _)
  have pd6 := p6.below (rfT_keeps g D) (apT_keeps kq _ _ _ _ _ _ _) bd6
  have Bd6 := B6.trans (bel_up hb6 bd6)
  have td6 := (ht.on Bd6).here
  have rg6 := rf6.below bd6
  go_upto_region 13 with (fail)
  go_region_held (fun w' => w'.cell? ⟨gl, 0, none⟩ = some (.pointer (some ⟨g, 0, none⟩)))
    (first | exact l0 | exact (lg_cells p8).1 | exact (lg_cells p7).1)
    (first
      | (go_at_call 52; refine (rf_append p7 (apT_keeps kq _ _ _ _ _ _ _) hb7 ok HS.out rf7 hm4').mono ?_; rw [HAP.out]; rintro e w8 ⟨rfl, p8, b8⟩; have B8 := B7.trans b8; have hb8 := Nat.le_trans hb7 b8.size; clear b8)
      | (go_at_call 25; refine (SEG.out nx w6.drew td6).mono ?_; rintro e w7 ⟨rfl, b7⟩; have p7 := pd6.below (rfT_keeps g D) (apT_keeps kq _ _ _ _ _ _ _) b7; have B7 := Bd6.trans (bel_up hb6 b7); have rf7 := rg6.below b7; have hb7 := Nat.le_trans hb6 b7.size))
  clear p6 pd6 p7 B6 Bd6 B7 td6 rg6 rf7 rf6 b7 bd6 l0 l1 l2 f1 f2 hb6 hb7
  clear HAP
  obtain ⟨A1, DA⟩ := A
  by_cases hA1 : A1 = 0
  case neg =>
    have i1 : (A1 == 0) = false := by rw [beq_eq_false_iff_ne]; exact hA1
    obtain rfl : (A1, DA, many, last) = R := by rw [← HR.out, if_pos hA1]
    have pz := pair_first (pair_place p8)
    clear HR hA1
    go_wp2_with fail
    go_ret
    exact ⟨rfl, pz, B8⟩
  subst hA1
  replace HR : Hid ((if (syncD DA (segN nx)).1 ≠ 0 then ((syncD DA (segN nx)).1, (syncD DA (segN nx)).2, nx, last)
      else (0, (syncD DA (segN nx)).2, nx, last + (x.es.length : Int))) = R) := Go.Lib.hid (by
    have := HR.out
    rw [if_neg (by simp)] at this
    exact this)
  obtain ⟨l0, l1, l2, f1, f2⟩ := lg_cells p8
  obtain ⟨p9, b9⟩ := lg_set1 (rfT_keeps g DA) (with_keeps kq (bxT_keeps _ _ _)) p8 nx
  have B9 := B8.trans b9
  have hb9 := Nat.le_trans hb8 b9.size
  go_upto_region 15 with (fail)
  go_upto_region 16 with (fail)
  clear l0 l1 l2 f1 f2 b9 p8 B8 hb8 HS
  have okA' : DkOk DA := okA
  clear okA
  generalize w8.setCell ⟨gl, 1, none⟩ (.int .i64 (nx : Int)) = w9 at *
  obtain ⟨l0, l1, l2, f1, f2⟩ := lg_cells p9
  have bd9 : Below w9.heap.size w9 w9.drew := bel_drew (Below.refl _ _)
  have pd9 : Pair base w9.drew (RfT g DA) (ApT Q gb gl g nx last x.a (.slice A0 n0 c0)) := p9.below (rfT_keeps g DA) (apT_keeps kq _ _ _ _ _ _ _) bd9
  have Bd9 := B9.trans (bel_up hb9 bd9)
  have td9 := (ht.on Bd9).here
  generalize hS : syncD DA (segN nx) = S at *
  have HSY : Hid (syncD DA (segN nx) = S) := Go.Lib.hid hS
  clear hS
  go_region_held (fun w' => w'.cell? ⟨gl, 0, none⟩ = some (.pointer (some ⟨g, 0, none⟩)))
    (first | exact l0 | exact (lg_cells p11).1 | exact (lg_cells p10).1)
    (first
      | (go_at_call 43; refine (rf_sync p10 (apT_keeps kq _ _ _ _ _ _ _) hb10 okA' (segN nx)).mono ?_; rw [HSY.out]; rintro e w11 ⟨rfl, p11, b11⟩; have B11 := B10.trans b11; have hb11 := Nat.le_trans hb10 b11.size; clear b11)
      | (go_at_call 25; refine (SEG.out nx w9.drew td9).mono ?_; rintro e w10 ⟨rfl, b10⟩; have p10 := pd9.below (rfT_keeps g DA) (apT_keeps kq _ _ _ _ _ _ _) b10; have B10 := Bd9.trans (bel_up hb9 b10); have hb10 := Nat.le_trans hb9 b10.size))
  clear p9 pd9 p10 B9 Bd9 B10 td9 b10 bd9 l0 l1 l2 f1 f2 hb9 hb10 HSY okA'
  obtain ⟨S1, DS⟩ := S
  by_cases hS1 : S1 = 0
  case neg =>
    have i1 : (S1 == 0) = false := by rw [beq_eq_false_iff_ne]; exact hS1
    obtain rfl : (S1, DS, nx, last) = R := by rw [← HR.out, if_pos hS1]
    have pz := pair_first (pair_place p11)
    clear HR hS1
    go_wp2_with fail
    go_ret
    exact ⟨rfl, pz, B11⟩
  subst hS1
  obtain rfl : (0, DS, nx, last + (x.es.length : Int)) = R := by
    have := HR.out
    rw [if_neg (by simp)] at this
    exact this
  clear HR
  obtain ⟨l0, l1, l2, f1, f2⟩ := lg_cells p11
  obtain ⟨k0, k1⟩ := apT_box p11
  have z6 : last + (n0 : Int) ≤ 1048576 := by rw [← HA.out]; exact z5
  have z7 := hl.1
  have wz : IntKind.i64.wrap (last + (n0 : Int)) = last + (n0 : Int) := IntWalk.i64_in _ (by omega)
  obtain ⟨p12, b12⟩ := lg_set2 (rfT_keeps g DS) (with_keeps kq (bxT_keeps _ _ _)) p11 (last + (n0 : Int))
  have p13 := pair_first (pair_place p12)
  have bd13 := bel_drew (Below.refl (w11.setCell ⟨gl, 2, none⟩ (.int .i64 (last + (n0 : Int)))).heap.size (w11.setCell ⟨gl, 2, none⟩ (.int .i64 (last + (n0 : Int)))))
  have p14 := Go.Lib.hid (p13.below (rfT_keeps g DS) (with_keeps kq (bxT_keeps _ _ _)) bd13)
  have B14 := Go.Lib.hid ((B11.trans b12).trans (bel_up (Nat.le_trans hb11 b12.size) bd13))
  clear p12 b12 p13 bd13 p11 B11
  go_upto_region 18 with (fail)
  go_region_with (fail)
  all_goals
    generalize (w11.setCell ⟨gl, 2, none⟩ (.int .i64 (last + (n0 : Int)))).drew = w14 at *
    clear l0 l1 l2 f1 f2 k0 k1
    subst hn0
    go_wp2_with fail
    go_ret
    exact ⟨rfl, p14.out, B14.out⟩
end Go.Proofs.YtppidbdkejkopaaGreatDoor.WlWalk
namespace Go.Proofs.YtppidbdkejkopaaGreatDoor.FrWalk
open Go.RowKit MemRow NumMem CrcMath CrcWalk FrMath
theorem slice_mid {w : World} {A : Option Addr} {n cap : Nat} {l : List UInt8} (h : Rd w A n cap l) {i j : Nat} {x y : Int} (hx : x = i) (hy : y = j) (hij : i ≤ j) (hj : j ≤ n) :
    ∃ A1 c1, (∀ W, (Instr.slice 58 (.slice A n cap) (some (.int .i64 x)) (some (.int .i64 y)) none).run Tryz.prog W = .ok (.slice A1 (j - i) c1) W) ∧ Rd w A1 (j - i) c1 ((l.drop i).take (j - i)) := by
  subst hx hy
  have hc := h.le_cap
  refine ⟨_, _, fun W => ?_, (h.cut (k := i) (by omega)).first (k := j - i) (by omega)⟩
  have hu : Tryz.prog.underlying 58 = some (.slice (Tryz.prog.elem 58)) := by rw [elem_bytes]; exact Tryz.underlying58
  rw [run_slice_lh (P := Tryz.prog) W 58 _ n cap hu .i64 .i64 (i : Int) (j : Int) (by omega) (by omega) (by omega), elem_bytes, run_size_u8]
  simp only [Result.andThen, sliced, Int.toNat_natCast, Nat.mul_one]
theorem slice_low {w : World} {A : Option Addr} {n cap : Nat} {l : List UInt8} (h : Rd w A n cap l) {i : Nat} (hi : i ≤ n) :
    ∃ A1, (∀ W, (Instr.slice 58 (.slice A n cap) (some (.int .i64 (i : Int))) none none).run Tryz.prog W = .ok (.slice A1 (n - i) (cap - i)) W) ∧ Rd w A1 (n - i) (cap - i) (l.drop i) := by
  refine ⟨_, fun W => ?_, h.cut hi⟩
  have hu : Tryz.prog.underlying 58 = some (.slice (Tryz.prog.elem 58)) := by rw [elem_bytes]; exact Tryz.underlying58
  rw [run_slice_l (P := Tryz.prog) W 58 _ n cap hu .i64 (i : Int) (by omega) (by omega), elem_bytes, run_size_u8]
  simp only [Result.andThen, sliced, Int.toNat_natCast, Nat.mul_one]
theorem word4 (l : List UInt8) (h : 4 ≤ l.length) : word (l.take 4) = (l.getD 0 0).toNat + 256 * (l.getD 1 0).toNat + 65536 * (l.getD 2 0).toNat + 16777216 * (l.getD 3 0).toNat := by
  match l, h with
  | a :: b :: c :: d :: r, _ =>
    simp only [List.take, word, List.getD_cons_zero, List.getD_cons_succ]
    omega
theorem own_low {k : Nat} {w : World} {base base' : Nat} {t : TypeId} {A : Option Addr} {n cap : Nat} {cs : List Value} (h : OwnC k w base t A n cap cs) (hb : base' ≤ base) : OwnC k w base' t A n cap cs := by
  refine ⟨h.1, ?_⟩
  rcases h.2 with h2 | ⟨g, c, cur, hv, hg, h3⟩
  · exact .inl h2
  · exact .inr ⟨g, c, cur, hv, Nat.le_trans hb hg, h3⟩
def takeB (l : List UInt8) : List UInt8 := (takeF l).getD []
def takeN (l : List UInt8) : Nat := match takeF l with
  | none => 0
  | some x => 8 + x.length
theorem takeN_none {l : List UInt8} (h : takeF l = none) : takeN l = 0 := by unfold takeN; rw [h]
theorem takeN_some {l x : List UInt8} (h : takeF l = some x) : takeN l = 8 + x.length := by unfold takeN; rw [h]
theorem takeB_none {l : List UInt8} (h : takeF l = none) : takeB l = [] := by unfold takeB; rw [h]; rfl
theorem takeB_some {l x : List UInt8} (h : takeF l = some x) : takeB l = x := by unfold takeB; rw [h]; rfl
def TakeOut (l : List UInt8) (w : World) (e : Ending) (w' : World) : Prop :=
  ∃ A m c, e = .returned (.tuple #[.slice A m c, .int .i64 (takeN l : Nat)]) ∧ Own w' w.heap.size 5 A m c (takeB l) ∧ Below w.heap.size w w'
theorem bytes_apart {a b : List UInt8} (h : a ≠ b) : (a == b) = false := by rw [beq_eq_false_iff_ne]; exact h
theorem bytes_str {w : World} {A : Option Addr} {n cap : Nat} {l : List UInt8} (h : Rd w A n cap l) : (convert 58 9 (.slice A n cap)).run Tryz.prog w = .ok (.string ⟨l.toArray⟩) w :=
  h.string (P := Tryz.prog) 58 9 5 Tryz.underlying58 Tryz.underlying5 Tryz.underlying9
theorem none_out {l : List UInt8} (ht : takeF l = none) {w w' : World} (hb : Below w.heap.size w w') : TakeOut l w (.returned (.tuple #[.slice none 0 0, .int .i64 0])) w' :=
  ⟨none, 0, 0, by rw [takeN_none ht]; rfl, by rw [takeB_none ht]; exact OwnC.nil (k := 1) _ _, hb⟩
set_option maxHeartbeats 4000000 in
set_option maxRecDepth 100000 in
theorem refTakeF_any (A : Option Addr) (n cap : Nat) (l : List UInt8) (w : World) (h : Rd w A n cap l) :
    Calls Tryz.prog 73 #[.slice A n cap] w (TakeOut l w) := by
  have hl := h.len
  have hnm := h.le
  unfold maxLen at hnm
  by_cases h8 : n < 8
  · have i1 : (n : Int) < 8 := by omega
    have ht := take_none_short (l := l) (by omega)
    clear hl
    go_enter Tryz.func73, Tryz.ntmps73
    go_wp2_with fail
    go_ret2
    exact none_out ht (Below.refl _ _)
  · have i1 : ¬ (n : Int) < 8 := by omega
    have R0 := Go.Lib.hid h
    obtain ⟨b, o, rfl, _, hc⟩ := h.at_ (by omega)
    have k0 := hc 0 (by omega)
    have k1 := hc 1 (by omega)
    have k2 := hc 2 (by omega)
    have k3 := hc 3 (by omega)
    rw [Nat.add_zero] at k0
    have hw4 := word4 l (by omega)
    have u0 := UInt8.toNat_lt (l.getD 0 0)
    have u1 := UInt8.toNat_lt (l.getD 1 0)
    have u2 := UInt8.toNat_lt (l.getD 2 0)
    have u3 := UInt8.toNat_lt (l.getD 3 0)
    generalize hN : word (l.take 4) = N at *
    generalize (l.getD 0 0).toNat = a0 at *
    generalize (l.getD 1 0).toNat = a1 at *
    generalize (l.getD 2 0).toNat = a2 at *
    generalize (l.getD 3 0).toNat = a3 at *
    have s0 : IntKind.i64.wrap (a0 : Int) = a0 := IntWalk.i64_in _ (by omega)
    have s1 : IntKind.i64.wrap (a1 : Int) = a1 := IntWalk.i64_in _ (by omega)
    have s2 : IntKind.i64.wrap (a2 : Int) = a2 := IntWalk.i64_in _ (by omega)
    have s3 : IntKind.i64.wrap (a3 : Int) = a3 := IntWalk.i64_in _ (by omega)
    have m1 : IntKind.i64.wrap (256 * (a1 : Int)) = 256 * (a1 : Int) := IntWalk.i64_in _ (by omega)
    have m2 : IntKind.i64.wrap (65536 * (a2 : Int)) = 65536 * (a2 : Int) := IntWalk.i64_in _ (by omega)
    have m3 : IntKind.i64.wrap (16777216 * (a3 : Int)) = 16777216 * (a3 : Int) := IntWalk.i64_in _ (by omega)
    have p1 : IntKind.i64.wrap ((a0 : Int) + 256 * (a1 : Int)) = (a0 : Int) + 256 * (a1 : Int) := IntWalk.i64_in _ (by omega)
    have p2 : IntKind.i64.wrap ((a0 : Int) + 256 * (a1 : Int) + 65536 * (a2 : Int)) = (a0 : Int) + 256 * (a1 : Int) + 65536 * (a2 : Int) := IntWalk.i64_in _ (by omega)
    have p3 : IntKind.i64.wrap ((a0 : Int) + 256 * (a1 : Int) + 65536 * (a2 : Int) + 16777216 * (a3 : Int)) = (N : Int) := by rw [IntWalk.i64_in _ (by omega)]; omega
    have hNl : N < 4294967296 := by omega
    have HN := Go.Lib.hid hN
    have HL := Go.Lib.hid hl
    clear hc hw4 u0 u1 u2 u3 hN hl h
    go_enter Tryz.func73, Tryz.ntmps73
    go_wp2_with fail
    go_quiet (fail)
    have bq : Below w.heap.size w (w.drewN nq) := bel_drewN (Below.refl _ _) nq
    have rq := R0.out.below bq
    clear s0 s1 s2 s3 m1 m2 m3 p1 p2 p3 k0 k1 k2 k3
    generalize w.drewN nq = wq at *
    by_cases hb : 16384 < N
    · have i2 : (N : Int) > 16384 := by omega
      have ht : takeF l = none := by
        have := HL.out
        unfold takeF maxF
        rw [HN.out, if_neg (by omega), if_pos hb]
      go_wp2_with fail
      go_ret2
      exact none_out ht bq
    · have i2 : ¬ (N : Int) > 16384 := by omega
      have hs : IntKind.i64.wrap ((n : Int) - 8) = (n : Int) - 8 := IntWalk.i64_in _ (by omega)
      by_cases hb2 : n - 8 < N
      · have i3 : (N : Int) > (n : Int) - 8 := by omega
        have ht : takeF l = none := by
          have := HL.out
          unfold takeF maxF
          rw [HN.out, if_neg (by omega), if_neg hb, if_pos (by omega)]
        go_wp2_with fail
        go_ret2
        exact none_out ht bq
      · have i3 : ¬ (N : Int) > (n : Int) - 8 := by omega
        have hcp := rq.le_cap
        have hs2 : IntKind.i64.wrap (8 + (N : Int)) = 8 + (N : Int) := IntWalk.i64_in _ (by omega)
        obtain ⟨A1, c1, q1, r1⟩ := slice_mid rq (i := 8) (j := 8 + N) (x := 8) (y := 8 + (N : Int)) rfl (by omega) (by omega) (by omega)
        rw [show 8 + N - 8 = N by omega] at q1 r1
        have al : Below wq.heap.size wq (wq.alloc (.cells #[] 5)) := (Below.refl _ _).alloc (Nat.le_refl _) _
        have r1' := r1.below al
        have hxl := r1.len
        clear r1
        go_wp2_with (at_builtin; refine wpList_append_fresh rfl (.tmp 42) (.tmp 46) 58 rfl 5 Tryz.underlying58 u8_info rfl rfl (Own.empty wq 5 (Nat.le_refl _)) r1' (by omega) al.size wq al ?_; intro A2 c2 w2 o2 b2)
        have o2r := o2.rd
        have b2' := below_chain bq b2
        refine (refPutF_any A2 N c2 _ w2 o2r).mono ?_
        rintro e w3 ⟨A3, m3, c3, rfl, r3, b3⟩
        have ec : putC ((l.drop 8).take N) = 0 := by
          unfold putC maxF
          rw [if_neg (by omega)]
        have eb : putB ((l.drop 8).take N) = frameF ((l.drop 8).take N) := by
          unfold putB maxF
          rw [if_neg (by omega)]
        rw [eb] at r3
        rw [ec]
        have o3 := o2.below b3
        have b3' := b2.trans (b3.mono b2.size)
        have rw3 := (R0.out.below (below_chain b2' b3)).first (k := 8 + N) (by omega)
        have q2 : ∀ W, (Instr.slice 58 (.slice (some ⟨b, o, none⟩) n cap) none (some (.int .i64 (8 + (N : Int)))) none).run Tryz.prog W = .ok (.slice (some ⟨b, o, none⟩) (8 + N) cap) W := fun W => slice_upto (some ⟨b, o, none⟩) n cap (8 + N) (by omega) W
        have sf := fun q => bytes_str (r3.drewN q)
        have sl := fun q => bytes_str (rw3.drewN q)
        have hbase : w.heap.size ≤ wq.heap.size := bq.size
        clear r1' o2 o2r b2 b2' b3 r3 rw3 ec eb q1 al rq
        have HX : Hid (takeF l = if frameF ((l.drop 8).take N) = l.take (8 + N) then some ((l.drop 8).take N) else none) := by
          have := HL.out
          refine Go.Lib.hid ?_
          unfold takeF maxF
          rw [HN.out, if_neg (by omega), if_neg hb, if_neg (by omega)]
        generalize hx : (l.drop 8).take N = x at *
        clear hx
        generalize l.take (8 + N) = y at *
        by_cases he : frameF x = y
        · subst he
          have ht : takeF l = some x := by
            have := HX.out
            rwa [if_pos rfl] at this
          have HT := Go.Lib.hid ht
          clear ht HX
          go_wp2_with fail
          go_quiet (fail)
          go_wp2_with fail
          go_ret2
          refine ⟨A2, N, c2, ?_, ?_, ?_⟩
          · rw [takeN_some HT.out, hxl]
            rfl
          · rw [takeB_some HT.out]
            exact own_low (k := 1) (o3.below (bel_drewN (Below.refl _ _) _)) hbase
          · exact bel_drewN (below_chain bq b3') _
        · have ht : takeF l = none := by
            have := HX.out
            rwa [if_neg he] at this
          have HT := Go.Lib.hid ht
          have hne := bytes_apart he
          clear ht HX he
          go_wp2_with fail
          go_quiet (fail)
          go_wp2_with fail
          go_ret2
          refine none_out HT.out ?_
          exact bel_drewN (below_chain bq b3') _
end Go.Proofs.YtppidbdkejkopaaGreatDoor.FrWalk
namespace Go.Proofs.YtppidbdkejkopaaGreatDoor.FrWalk
open Go.RowKit MemRow NumMem CrcMath CrcWalk FrMath
theorem rows_take (l : List (List UInt8)) (j : Nat) (h : j < l.length) : l.take (j + 1) = l.take j ++ [l.getD j []] := by
  rw [List.take_succ_eq_append_getElem h]
  simp [List.getD, List.getElem?_eq_getElem h]
theorem RdB.drewN {w : World} {A : Option Addr} {n cap : Nat} {xs : List (List UInt8)} (h : RdB w A n cap xs) (q : Nat) : RdB (w.drewN q) A n cap xs := h
end Go.Proofs.YtppidbdkejkopaaGreatDoor.FrWalk
namespace Go.Proofs.YtppidbdkejkopaaGreatDoor.FrWalk
open Go.RowKit MemRow NumMem CrcMath CrcWalk FrMath
set_option maxHeartbeats 1000000 in
set_option maxRecDepth 100000 in
theorem putWord_any (v : Nat) (w : World) :
    Calls Tryz.prog 80 #[.int .u32 (v : Int)] w fun e w' => ∃ A c, e = .returned (.slice A 4 c) ∧ Rd w' A 4 c (le4 v) ∧ Below w.heap.size w w' := by
  have hmk := fun W => run_make_bytes (P := Tryz.prog) 58 5 Tryz.underlying58 u8_info 4 (by omega) (4 : Int) (by omega) W
  obtain ⟨w1, hw1⟩ : ∃ w1, w1 = w.alloc (.cells (cellsOf (List.replicate 4 0)).toArray 5) := ⟨_, rfl⟩
  have row : Row w1 w.heap.size 5 (List.replicate 4 0) := by rw [hw1]; exact heap_alloc_new w _
  have bel : Below w.heap.size w w1 := by rw [hw1]; exact (Below.refl _ _).alloc (Nat.le_refl _) _
  have hm1 := hmk w
  rw [← hw1] at hm1
  clear hmk hw1
  go_enter Tryz.func80, Tryz.ntmps80
  go_wp2_with fail
  go_loopw [8] (fun i wr => ∃ k : Nat, k ≤ 4 ∧ i = .int .i64 k ∧ PutAt w1 wr w.heap.size 0 5 (List.replicate 4 0) v k) (fun i _ => 4 - (intOf i).toNat)
  case atStart => exact ⟨0, by omega, rfl, putAt_start row⟩
  case round =>
    obtain ⟨k, hk, rfl, hf⟩ := hrel
    by_cases hlt : k < 4
    · obtain ⟨⟨x, hx⟩, hfr⟩ := putAt_cell hf hlt (by decide)
      have hs := putAt_step hf hlt (by decide)
      rw [Nat.zero_add] at hx hfr hs
      have HS := Go.Lib.hid hs
      clear hs
      have e1 := le4_at v k hlt
      have E1 := Go.Lib.hid e1
      clear e1 hm1 bel row
      go_wp2
      go_roundw
      case rel => exact ⟨k + 1, by omega, by go_num, HS.out _ E1.out.symm⟩
      case measure => simp [intOf]; omega
    · obtain rfl : k = 4 := by omega
      have hr := hf.row
      rw [List.take_of_length_le (l := le4 v) (by rw [le4_length]; exact Nat.le_refl _)] at hr
      have hb := bel.grown hf.grown bel.size (by rintro k ⟨rfl⟩; exact Nat.le_refl _)
      go_wp2_with fail
      go_ret
      exact ⟨_, _, rfl, by simpa [le4_length] using hr.rd (by unfold maxLen; simp [le4_length]), hb⟩
set_option maxHeartbeats 1000000 in
set_option maxRecDepth 100000 in
theorem takeWord_any (A : Option Addr) (cap : Nat) (l : List UInt8) (w : World) (h : Rd w A 4 cap l) :
    Calls Tryz.prog 98 #[.slice A 4 cap] w fun e w' => e = .returned (.int .u32 (word l : Nat)) ∧ w = w' := by
  have hl := h.len
  have HL := Go.Lib.hid hl
  clear hl
  obtain ⟨b, o, rfl, hbl, hc⟩ := h.at_ (by omega)
  have HC := Go.Lib.hid hc
  clear hc
  go_enter Tryz.func98, Tryz.ntmps98
  go_wp2
  go_loop [3, 8] (fun r i => ∃ k : Nat, k ≤ 4 ∧ r = .int .u32 ((word (l.take k) : Nat) : Int) ∧ i = .int .i64 k) (fun _ i => 4 - (intOf i).toNat)
  case atStart => exact ⟨0, by omega, rfl, rfl⟩
  case round =>
    obtain ⟨k, hk, rfl, rfl⟩ := hrel
    by_cases hlt : k < 4
    · have hck := HC.out k hlt
      have hs := word_take l k (by rw [HL.out]; exact hlt)
      have hx := word_lt (l.take k)
      have ek : (l.take k).length = k := by rw [List.length_take, HL.out]; omega
      rw [ek, show (256 : Nat) = 2 ^ 8 from rfl, ← Nat.pow_mul] at hx
      have hcl := UInt8.toNat_lt (l.getD k 0)
      generalize (l.getD k 0).toNat = c at *
      generalize word (l.take k) = x at *
      have e1 := or_word x c k hlt hcl hx
      rw [← hs, IntKind.wrap_u32] at e1
      clear ek hs hx h
      go_wp2
      go_round
      case rel => exact ⟨k + 1, by omega, by first | rfl | rw [e1], by go_num⟩
      case measure => simp [intOf]; omega
    · obtain rfl : k = 4 := by omega
      go_wp2
      go_ret
      refine ⟨ret_int ?_, rfl⟩
      rw [List.take_of_length_le (by rw [HL.out]; exact Nat.le_refl _)]
set_option maxRecDepth 100000 in
theorem slice_full (A : Option Addr) (n cap : Nat) (hc : n ≤ cap) (W : World) :
    (Instr.slice 58 (.slice A n cap) none (some (.int .i64 (n : Int))) (some (.int .i64 (n : Int)))).run Tryz.prog W = .ok (.slice A n n) W := by
  have hu : Tryz.prog.underlying 58 = some (.slice (Tryz.prog.elem 58)) := by rw [elem_bytes]; exact Tryz.underlying58
  have e : A.map (·.add 0) = A := by cases A <;> simp [Addr.add]
  rw [run_slice_hm (P := Tryz.prog) W 58 _ n cap hu .i64 .i64 (n : Int) (n : Int) (by omega) (by omega) (by omega), elem_bytes, run_size_u8]
  simp only [Result.andThen, sliced, Int.toNat_natCast, Nat.zero_mul, e, Nat.sub_zero]
  congr 2
  split <;> rfl
theorem Rd.src_any {w : World} {A : Option Addr} {n cap : Nat} {l : List UInt8} (h : Rd w A n cap l) {ad : Addr} (hA : A = some ad) : ∀ j u, (cellsOf l)[j]? = some u → w.cell? (ad.add j) = some u := by
  intro j u hu
  obtain ⟨ad', h1, hc⟩ := h.src (by have := (List.getElem?_eq_some_iff.1 hu).1; omega)
  rw [hA] at h1
  injection h1 with h1
  subst h1
  exact hc j u hu
theorem run_append_full {w : World} {A B : Option Addr} {n m c : Nat} {l k : List UInt8} (ha : Rd w A n n l) (hb : Rd w B m c k) (h0 : 0 < n) (hsz : n + m ≤ 140737488355328) (ty : TypeId) :
    ∃ A' cap' w', (Builtin.append_ #[58, 58] ty #[.slice A n n, .slice B m c]).run Tryz.prog w = .ok (.slice A' (n + m) cap') w' ∧ Rd w' A' (n + m) cap' (l ++ k) ∧ Below w.heap.size w w' := by
  have hi := u8_info
  have hT := Tryz.underlying58
  obtain ⟨i, h1, h2, h3, h4⟩ : ∃ i, Tryz.prog.info? 5 = some i ∧ i.zero = some (.int .u8 0) ∧ i.size = 1 ∧ i.bytes = 1 := by
    cases hq : Tryz.prog.info? 5 with
    | none => simp [hq] at hi
    | some i => simp [hq] at hi; exact ⟨i, rfl, hi.1, hi.2.1, hi.2.2⟩
  obtain ⟨b, o, rfl, _, _⟩ := ha.at_ h0
  by_cases hm : m = 0
  · subst hm
    have hk : k = [] := List.eq_nil_of_length_eq_zero hb.len
    subst hk
    refine ⟨some ⟨b, o, none⟩, n, w, ?_, by simpa using ha, Below.refl _ _⟩
    cases B with
    | none => simp [Builtin.append_, run_underlying hT, sizeOf, typeInfo, h1, Builtin.lenOf, Builtin.firstCells, storeCells]
    | some ad =>
      have := run_append_room_cells (P := Tryz.prog) w 58 ty 5 i hT h1 b o n n ad 0 c [] (by simp) (by simp) (by simp) (Nat.le_refl _) (by simp) (by simp)
      rw [this]
      rfl
  · obtain ⟨b', o', rfl, _, _⟩ := hb.at_ (by omega)
    obtain ⟨v', w', hrun, ho, hg⟩ := run_append_arg_grows (P := Tryz.prog) w 58 ty 5 i (.int .u8 0) 1 1 hT h1 h2 h3 h4 rfl (by omega) ⟨b, o, none⟩ n n (cellsOf l) (by rw [cellsOf_length, ha.len, Nat.mul_one]) (Rd.src_any ha rfl) ⟨b', o', none⟩ m c (cellsOf k) (by rw [cellsOf_length, hb.len, Nat.mul_one]) (Rd.src_any hb rfl) (by omega) (by unfold maxLen; omega) (by omega)
    rcases ho.2 with ⟨rfl, hn⟩ | ⟨g, c2, cur, rfl, hrest⟩
    · omega
    · refine ⟨_, c2, w', hrun, ?_, grown_below hg⟩
      have oo : Own w' w.heap.size 5 (some ⟨g, 0, none⟩) (n + m) c2 (l ++ k) := by
        unfold Own
        rw [cellsOf_append]
        exact ho
      exact oo.rd
end Go.Proofs.YtppidbdkejkopaaGreatDoor.FrWalk
