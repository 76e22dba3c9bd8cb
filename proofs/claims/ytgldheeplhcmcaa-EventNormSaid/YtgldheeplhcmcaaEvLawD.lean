/-
  Walks of the statements of layer 4: EventNorm.
-/
import Derived.Test.YtgldheeplhcmcaaEvLawC
import Derived.Test.YtgldheeplhcmcaaEvMath
import Derived.Deep.RegionLaw
import Derived.Deep.DeepCutAuto
import Derived.Deep.RegionHeld
namespace Go.Proofs.Ytgldheeplhcmcaa.EvLaw
open Go.RowKit Go.WideShapes Go.ChangeShapes Go.Proofs.Ytgldheeplhcmcaa.MemRow Go.Proofs.Ytgldheeplhcmcaa.Ev Go.Proofs.Ytgldheeplhcmcaa.NameMath Go.Proofs.Ytgldheeplhcmcaa.NameWalk Go.Proofs.Ytgldheeplhcmcaa.EvWalk Go.Proofs.Ytgldheeplhcmcaa.Open

/-- An operation of a drawing region is taken first; the slot that it fills is named. -/
theorem take_at {P : Program} {ops : Array Oper} {Q : Exit → Act → World → Prop} {md : Region.Mode} {S : World → Prop} {i d : Nat} {oi : Oper} {v : Value} {fuel : Nat} {listed : Array Bool} {a : Act} {w : World} (hi : ops[i]? = some oi) (hd : oi.dst = some d)
    (hs : Region.noSelect ops = true) (hf : Region.free md ops listed i = true) (hr : (Region.ready md ops listed).contains i = true)
    (hQ : ∀ c a w, Q (.panic c) (a.put oi.dst v) w → Q (.panic c) a w) (hy : YieldsIf P ops S oi v a) (hS : S w)
    (h : wpAnyH P md ops Q S fuel (listed.setIfInBounds i true) (a.put (some d) v) w) : wpAnyH P md ops Q S (fuel + 1) listed a w :=
  wpAnyH_take hi hs hf hr hQ hy hS (by rw [hd]; exact h)

/-- The boxes of three events. -/
structure ThreeAt (wr w : World) (ga gb gc : Nat) (a b c : Array Value) : Prop where
  ea : Box wr ga a
  eb : Box wr gb b
  ec : Box wr gc c
  bel : Below w.heap.size w wr
theorem ThreeAt.below {wr w w' : World} {ga gb gc : Nat} {a b c : Array Value} (h : ThreeAt wr w ga gb gc a b c) (hb : Below wr.heap.size wr w') : ThreeAt w' w ga gb gc a b c :=
  ⟨h.ea.below hb, h.eb.below hb, h.ec.below hb, below_chain h.bel hb⟩
theorem ThreeAt.cells {wr w : World} {ga gb gc : Nat} {a0 a1 a2 a3 b0 b1 b2 b3 c0 c1 c2 c3 : Value} (h : ThreeAt wr w ga gb gc #[a0, a1, a2, a3] #[b0, b1, b2, b3] #[c0, c1, c2, c3]) :
    wr.cell? ⟨ga, 0, none⟩ = some a0 ∧ wr.cell? ⟨ga, 1, none⟩ = some a1 ∧ wr.cell? ⟨ga, 2, none⟩ = some a2 ∧ wr.cell? ⟨ga, 3, none⟩ = some a3 ∧ wr.cell? ⟨gb, 0, none⟩ = some b0 ∧ wr.cell? ⟨gb, 1, none⟩ = some b1 ∧ wr.cell? ⟨gb, 2, none⟩ = some b2 ∧ wr.cell? ⟨gb, 3, none⟩ = some b3 ∧ wr.cell? ⟨gc, 0, none⟩ = some c0 ∧ wr.cell? ⟨gc, 1, none⟩ = some c1 ∧ wr.cell? ⟨gc, 2, none⟩ = some c2 ∧ wr.cell? ⟨gc, 3, none⟩ = some c3 :=
  ⟨h.ea.at_.c0, h.ea.at_.c1, h.ea.at_.c2, h.ea.at_.c3, h.eb.at_.c0, h.eb.at_.c1, h.eb.at_.c2, h.eb.at_.c3, h.ec.at_.c0, h.ec.at_.c1, h.ec.at_.c2, h.ec.at_.c3⟩
theorem EvOk.norm {e : Ev} (h : EvOk e) : EvOk (normE e) :=
  ⟨h.s, h.t, fun x hx => h.tags x ((normTags_mem _ _).1 hx), fun f hf => h.names f (normFs_mem hf), fun f hf => h.nums f (normFs_mem hf)⟩

/-- What stands while tags are laid into 'back': its box is the world w6's first new block. -/
structure NBack (wr w6 : World) (b0 b1 b3 : Value) (K : Option Addr) (q cK : Nat) (ks : List ByteArray) : Prop where
  bel : Below w6.heap.size w6 wr
  eb : EvAt wr w6.heap.size b0 b1 (.slice K q cK) b3
  own : OwnC 1 wr (w6.heap.size + 1) 9 K q cK (strs ks)
  big : w6.heap.size + 1 ≤ wr.heap.size
theorem NBack.new (w6 : World) (b0 b1 b3 : Value) : NBack ((w6.alloc (.cells #[b0, b1, .slice (some ⟨w6.heap.size + 1, 0, none⟩) 0 0, b3] 25)).alloc (.cells #[] 9)) w6 b0 b1 b3 (some ⟨w6.heap.size + 1, 0, none⟩) 0 0 [] := by
  have e := EvAt.new w6 b0 b1 (.slice (some ⟨w6.heap.size + 1, 0, none⟩) 0 0) b3
  have b : Below w6.heap.size w6 (w6.alloc (.cells #[b0, b1, .slice (some ⟨w6.heap.size + 1, 0, none⟩) 0 0, b3] 25)) := (Below.refl _ _).alloc (Nat.le_refl _) _
  have s : (w6.alloc (.cells #[b0, b1, .slice (some ⟨w6.heap.size + 1, 0, none⟩) 0 0, b3] 25)).heap.size = w6.heap.size + 1 := by simp
  generalize w6.alloc (.cells #[b0, b1, .slice (some ⟨w6.heap.size + 1, 0, none⟩) 0 0, b3] 25) = w7 at *
  have o := OwnC.empty (k := 1) (base := w6.heap.size + 1) w7 9 (by omega)
  rw [s] at o
  have c : Below w7.heap.size w7 (w7.alloc (.cells #[] 9)) := (Below.refl _ _).alloc (Nat.le_refl _) _
  exact ⟨below_chain b c, e.below c e.lt, o, by simp; omega⟩
theorem NBack.next {wr w6 w8 : World} {b0 b1 b3 : Value} {K K' : Option Addr} {q cK cK' : Nat} {ks ks' : List ByteArray} {y : ByteArray} (h : NBack wr w6 b0 b1 b3 K q cK ks)
    (ho : OwnC 1 w8 (w6.heap.size + 1) 9 K' (q + 1) cK' (strs ks')) (hg : ((wr.alloc (.cells #[.string y] 9)).drew).grownBy w8 (K.map (·.block))) :
    w8.frozen? ⟨w6.heap.size, 2, none⟩ = false ∧ w8.cell? ⟨w6.heap.size, 2, none⟩ = some (.slice K q cK) ∧ NBack (w8.setCell ⟨w6.heap.size, 2, none⟩ (.slice K' (q + 1) cK')) w6 b0 b1 b3 K' (q + 1) cK' ks' := by
  have hF : ∀ g, g < w6.heap.size + 1 → some g ≠ K.map (·.block) := by
    intro g hlt e
    cases K with
    | none => simp at e
    | some a =>
      simp only [Option.map_some, Option.some.injEq] at e
      have := (OwnC.lt h.own a rfl).1
      omega
  have al : Below wr.heap.size wr (wr.alloc (.cells #[.string y] 9)).drew := ((Below.refl _ _).alloc (Nat.le_refl _) _).drew
  have e8 := (h.eb.below al h.eb.lt).grown hg (hF _ (by omega))
  have b7 := below_chain h.bel al
  have b8 := b7.grown hg b7.size (fun g hg' => by
    cases K with
    | none => simp at hg'
    | some a =>
      simp only [Option.map_some, Option.some.injEq] at hg'
      have := (OwnC.lt h.own a rfl).1
      omega)
  have s8 := hg.size
  have s7 := al.size
  have big := h.big
  refine ⟨e8.frozen 2, e8.c2, b8.setCell (by show w6.heap.size ≤ w6.heap.size; exact Nat.le_refl _) _, e8.set2 _, OwnC.away ho (by omega) _, ?_⟩
  show w6.heap.size + 1 ≤ (w8.setCell _ _).heap.size
  simp only [World.setCell, Array.size_modify]
  omega
theorem drop_rev (l : List ByteArray) (j : Nat) (h : j < l.length) : (l.drop j).reverse = (l.drop (j + 1)).reverse ++ [l.getD j ByteArray.empty] := by
  rw [List.drop_eq_getElem_cons h, List.reverse_cons]
  simp [List.getD, List.getElem?_eq_getElem h]

set_option linter.unusedSimpArgs false in
set_option maxHeartbeats 16000000 in
set_option maxRecDepth 100000 in
theorem norm_walk (v : Value) (ea : Ev) (x : ByteArray) (w : World) (hv : IsEv w v ea) (hok : EvOk ea) :
    Calls Try.prog 5 #[v, .string x] w fun e w' => e = .returned (.bool true) ∧ Below w.heap.size w w' := by
  have hv0 := hv
  have hfo := fewE_ok hok
  have hft := fewE_tags ea
  have hff := fewE_fs ea
  obtain ⟨A0, n0, ca0, B0, m0, cb0, rfl, _, _⟩ := hv
  have st := BoxAt.new w (.string ea.s) (.string ea.t) (.slice A0 n0 ca0) (.slice B0 m0 cb0)
  go_enter Try.func5, Try.ntmps5
  go_wp2_with fail
  generalize w.alloc (.cells #[.string ea.s, .string ea.t, .slice A0 n0 ca0, .slice B0 m0 cb0] 25) = w1 at *
  refine (shown_any _).mono ?_
  rintro e w2 ⟨rfl, b2⟩
  have st2 := st.below b2
  obtain ⟨k0, k1, k2, k3⟩ := st2.cells
  clear st b2
  go_wp2_with fail
  refine (few_any _ ea w _ hv0).mono ?_
  rintro e w3 ⟨u1, rfl, hv1, b3⟩
  have st3 := st2.below b3
  clear st2 b3 k0 k1 k2 k3
  have hv2 := hv1
  obtain ⟨C0, p0, cc0, D0, q0, cd0, rfl, rC, rD⟩ := hv1
  have st4 := st3.set0 (.string (fewE ea).s) (.string (fewE ea).t) (.slice C0 p0 cc0) (.slice D0 q0 cd0)
  obtain ⟨k0, k1, k2, k3⟩ := st3.cells
  have z0 := st3.e0.frozen 0
  have z1 := st3.e0.frozen 1
  have z2 := st3.e0.frozen 2
  have z3 := st3.e0.frozen 3
  clear st3
  go_wp2_with fail
  generalize ((((w3.setCell ⟨w.heap.size, 0, none⟩ (.string (fewE ea).s)).setCell ⟨w.heap.size, 1, none⟩ (.string (fewE ea).t)).setCell ⟨w.heap.size, 2, none⟩ (.slice C0 p0 cc0)).setCell ⟨w.heap.size, 3, none⟩ (.slice D0 q0 cd0)) = w4 at *
  clear k0 k1 k2 k3 z0 z1 z2 z3
  have ht : (fewE ea).tags.length ≤ 1000 := by omega
  have hf : (fewE ea).fs.length ≤ 1000 := by omega
  have ht12 : (fewE ea).tags.length ≤ 12 := hft
  generalize fewE ea = fa at *
  clear hft hff
  refine (evNorm_any _ fa w4 (hv2.below st4.bel) hfo ht hf).mono ?_
  rintro e w5 ⟨u5, rfl, hu5, b5⟩
  have st5 := st4.below b5
  have hn5 := hu5
  obtain ⟨T, nT, cT, F, nF, cF, rfl, rT, rF⟩ := hu5
  have HNE := Go.Lib.hid (rfl : normE fa = normE fa)
  have lC := rC.len
  have LC := Go.Lib.hid (RdS.len rC)
  clear st4 b5
  have k0 := st5.e0.c0
  have k1 := st5.e0.c1
  have k2 := st5.e0.c2
  have k3 := st5.e0.c3
  generalize hfn : normE fa = fn at *
  have HFN := Go.Lib.hid hfn
  clear hfn HNE
  go_upto_region 4 with (fail)
  have al : Below w5.heap.size w5 (w5.alloc (.cells #[.string fn.s, .string fn.t, .slice T nT cT, .slice F nF cF] 25)) := (Below.refl _ _).alloc (Nat.le_refl _) _
  have E6 := EvAt.new w5 (.string fn.s) (.string fn.t) (.slice T nT cT) (.slice F nF cF)
  have L6 := E6.lt
  have st6 := st5.below al
  have hn6 := hn5.below al
  have rF6 := RdC.below rF al
  generalize w5.alloc (.cells #[.string fn.s, .string fn.t, .slice T nT cT, .slice F nF cF] 25) = w6 at *
  clear al k0 k1 k2 k3 hn5 rT rF
  have k0 := st6.e0.c0
  have k1 := st6.e0.c1
  have k2 := st6.e0.c2
  have k3 := st6.e0.c3
  have lp := rC.len
  have hp12 : p0 ≤ 12 := by rw [← lp]; exact ht12
  clear lp
  have nb := NBack.new w6 (.string fa.s) (.string fa.t) (.slice D0 q0 cd0)
  go_upto_region 6 with (fail)
  generalize (w6.alloc (.cells #[.string fa.s, .string fa.t, .slice (some ⟨w6.heap.size + 1, 0, none⟩) 0 0, .slice D0 q0 cd0] 25)).alloc (.cells #[] 9) = w7 at *
  have st7 := st6.below nb.bel
  have k0' := st7.e0.c2
  have wp : IntKind.i64.wrap ((p0 : Int) - 1) = (p0 : Int) - 1 := IntWalk.i64_in _ (by omega)
  clear k0 k1 k2 k3
  go_wp2_with fail
  go_loopw [8] (fun i wr => ∃ (z : Int) (r : Nat) (K : Option Addr) (cK : Nat), i = .int .i64 z ∧ z = (r : Int) - 1 ∧ r ≤ p0 ∧ NBack wr w6 (.string fa.s) (.string fa.t) (.slice D0 q0 cd0) K (p0 - r) cK ((fa.tags.drop r).reverse)) (fun i _ => (intOf i + 1).toNat)
  case atStart => exact ⟨_, p0, _, 0, rfl, rfl, Nat.le_refl _, by rw [Nat.sub_self, List.drop_of_length_le (by rw [LC.out]; exact Nat.le_refl _)]; exact nb⟩
  case round =>
    obtain ⟨z, r, K, cK, rfl, hz, hr, hb⟩ := hrel
    cases r with
    | zero =>
      obtain rfl : z = -1 := by omega
      clear hz
      go_wp2_with fail
      --L2
      rw [Nat.sub_zero, List.drop_zero] at hb
      obtain ⟨wo, rfl⟩ : ∃ wo : World, wo = wr := ⟨_, rfl⟩
      have EN := E6.below hb.bel E6.lt
      have RF := RdC.below rF6 hb.bel
      have jn0 := hn6.below hb.bel
      have sto := st6.below hb.bel
      have lF := RdF.len rF6
      have leF := RdC.le rF6
      have LF := Go.Lib.hid lF
      unfold maxLen at leF
      have hup : Up (fn.fs.map (·.1)) := by rw [← HFN.out]; exact normFs_up _
      have HUP := Go.Lib.hid hup
      have LN6 : w5.heap.size < wo.heap.size := EN.lt
      clear hup lF
      go_loopw [9, 10, 11] (fun i _ _ wq => ∃ j : Nat, j ≤ nF ∧ i = .int .i64 j ∧ Below wo.heap.size wo wq) (fun i _ _ _ => nF - (intOf i).toNat)
      case atStart => exact ⟨0, Nat.zero_le _, rfl, Below.refl _ _⟩
      case round =>
        obtain ⟨j, hj, rfl, hq⟩ := hrel
        have En := EN.below hq EN.lt
        have n3 := En.c3
        by_cases hlt : j < nF
        · have n0 := En.c0
          have n1 := En.c1
          have n2 := En.c2
          have jq := jn0.below hq
          obtain ⟨bb, ob, rfl, hbb, kb⟩ := RdF.at_ (RdC.below RF hq) (by omega)
          obtain ⟨y1, y2⟩ := kb j hlt
          have i1 : (j : Int) < nF := by omega
          have hval := value_up HUP.out (fs_mem fn.fs j (by rw [LF.out]; exact hlt))
          clear kb
          generalize fn.fs.getD j (ByteArray.empty, 0) = f at *
          obtain ⟨nm, nz⟩ := f
          simp only at y1 y2 hval
          have HV := Go.Lib.hid hval
          have hne : (nz != nz) = false := by simp
          have C : ∀ w', Below wr.heap.size wr w' → (w'.cell? ⟨w5.heap.size, 0, none⟩ = some (.string fn.s) ∧ w'.cell? ⟨w5.heap.size, 1, none⟩ = some (.string fn.t) ∧ w'.cell? ⟨w5.heap.size, 2, none⟩ = some (.slice T nT cT) ∧ w'.cell? ⟨w5.heap.size, 3, none⟩ = some (.slice (some ⟨bb, ob, none⟩) nF cF) ∧ w'.cell? ⟨bb, ob + j * 2, none⟩ = some (.string nm)) := fun w' hb' => ⟨bcell hb' n0, bcell hb' n1, bcell hb' n2, bcell hb' n3, bcell hb' y1⟩
          have HC := Go.Lib.hid C
          have jd := jq.below (bel_drew (Below.refl _ _))
          clear hval C
          go_wp2_with fail
          go_region_held (fun w' => w'.cell? ⟨w5.heap.size, 0, none⟩ = some (.string fn.s) ∧ w'.cell? ⟨w5.heap.size, 1, none⟩ = some (.string fn.t) ∧ w'.cell? ⟨w5.heap.size, 2, none⟩ = some (.slice T nT cT) ∧ w'.cell? ⟨w5.heap.size, 3, none⟩ = some (.slice (some ⟨bb, ob, none⟩) nF cF) ∧ w'.cell? ⟨bb, ob + j * 2, none⟩ = some (.string nm))
            (first | exact ⟨n0, n1, n2, n3, y1⟩ | exact HC.out _ b8)
            (first | (go_at_call 16; refine (evValue_any _ fn nm _ jd).mono ?_; rintro e w8 ⟨rfl, b7⟩; rw [HV.out]; have b8 := below_chain (bel_drew (Below.refl _ _)) b7; have m3 := bcell b8 n3; have m4 := bcell b8 y2; clear b7))
          all_goals
            go_wp2_with fail
            go_roundw
            case rel => exact ⟨j + 1, by omega, by go_num, below_chain hq b8⟩
            case measure => simp [intOf]; omega
        obtain rfl : nF = j := by omega
        go_wp2_with fail
        have jn := jn0.below hq
        have stq := sto.below hq
        have ebq := (hb.eb).below hq hb.eb.lt
        have ja := hv2.below stq.bel
        have jb : IsEv wr (.agg #[.string fa.s, .string fa.t, .slice K p0 cK, .slice D0 q0 cd0]) ⟨fa.s, fa.t, fa.tags.reverse, fa.fs⟩ := ⟨_, _, _, _, _, _, rfl, RdC.below (OwnC.rd hb.own) hq, RdC.below rD stq.bel⟩
        have s0 : ThreeAt wr.drew wr w.heap.size w5.heap.size w6.heap.size #[.string fa.s, .string fa.t, .slice C0 p0 cc0, .slice D0 q0 cd0] #[.string fn.s, .string fn.t, .slice T nT cT, .slice F nF cF] #[.string fa.s, .string fa.t, .slice K p0 cK, .slice D0 q0 cd0] := ⟨⟨_, _, _, _, rfl, stq.e0⟩, ⟨_, _, _, _, rfl, En⟩, ⟨_, _, _, _, rfl, ebq⟩, bel_drew (Below.refl _ _)⟩
        have BW := stq.bel
        have hno : EvOk fn := by rw [← HFN.out]; exact EvOk.norm hfo
        have hnt : fn.tags.length ≤ 1000 := by rw [← HFN.out]; exact Nat.le_trans (normTags_len _) ht
        have hnf : fn.fs.length ≤ 1000 := by rw [← HFN.out]; exact Nat.le_trans (normFs_len _) hf
        have hbo : EvOk ⟨fa.s, fa.t, fa.tags.reverse, fa.fs⟩ := ⟨hfo.s, hfo.t, fun x hx => hfo.tags x (List.mem_reverse.1 hx), hfo.names, hfo.nums⟩
        have hbt : (⟨fa.s, fa.t, fa.tags.reverse, fa.fs⟩ : Ev).tags.length ≤ 1000 := by show fa.tags.reverse.length ≤ 1000; rw [List.length_reverse]; exact ht
        have hnn : normE fn = fn := by rw [← HFN.out]; exact normE_norm _
        have hnb : normE ⟨fa.s, fa.t, fa.tags.reverse, fa.fs⟩ = fn := by rw [← HFN.out]; exact normE_tags fun x => List.mem_reverse
        have HNN := Go.Lib.hid hnn
        have HNB := Go.Lib.hid hnb
        have hhn : hasB fn.tags x = hasB fa.tags x := by rw [← HFN.out]; exact hasB_norm _ _
        generalize hY : hasB fa.tags x = Y at hhn
        have HHN := Go.Lib.hid hhn
        have HHA := Go.Lib.hid hY
        clear hnn hnb hhn hY n3 En jn0 hq EN RF sto stq ebq LN6 leF
        by_cases h0 : mayE fa = 0
        · have HM := Go.Lib.hid h0
          have hna : sameB fn fa = true := by rw [← HFN.out, normE_may h0]; exact sameB_refl _
          have HNA := Go.Lib.hid hna
          clear h0 hna
          refine wp_region_held_drew (S := (fun w' => w'.cell? ⟨w.heap.size, 0, none⟩ = some (.string fa.s) ∧ w'.cell? ⟨w.heap.size, 1, none⟩ = some (.string fa.t) ∧ w'.cell? ⟨w.heap.size, 2, none⟩ = some (.slice C0 p0 cc0) ∧ w'.cell? ⟨w.heap.size, 3, none⟩ = some (.slice D0 q0 cd0) ∧ w'.cell? ⟨w5.heap.size, 0, none⟩ = some (.string fn.s) ∧ w'.cell? ⟨w5.heap.size, 1, none⟩ = some (.string fn.t) ∧ w'.cell? ⟨w5.heap.size, 2, none⟩ = some (.slice T nT cT) ∧ w'.cell? ⟨w5.heap.size, 3, none⟩ = some (.slice F nF cF) ∧ w'.cell? ⟨w6.heap.size, 0, none⟩ = some (.string fa.s) ∧ w'.cell? ⟨w6.heap.size, 1, none⟩ = some (.string fa.t) ∧ w'.cell? ⟨w6.heap.size, 2, none⟩ = some (.slice K p0 cK) ∧ w'.cell? ⟨w6.heap.size, 3, none⟩ = some (.slice D0 q0 cd0))) (by kernel_rfl) ?_ (fun hH => ?_)
          · exact s0.cells
          refine take_at (i := 0) (d := 68) (v := ?_) rfl rfl (by kernel_rfl) (by kernel_rfl) (by kernel_rfl) (fun _ _ _ h => h) (Or.inl ⟨by rfl, ?hy⟩) (by assumption) ?_
          case hy => (intro wS hSw; (try dsimp only at hSw); first | (go_simp; done) | (go_simp; with_reducible rfl))
          simp only [Act.put, List.setIfInBounds_toArray, List.set_cons_zero, List.set_cons_succ]
          refine take_at (i := 1) (d := 69) (v := ?_) rfl rfl (by kernel_rfl) (by kernel_rfl) (by kernel_rfl) (fun _ _ _ h => h) (Or.inl ⟨by rfl, ?hy⟩) (by assumption) ?_
          case hy => (intro wS hSw; (try dsimp only at hSw); first | (go_simp; done) | (go_simp; with_reducible rfl))
          simp only [Act.put, List.setIfInBounds_toArray, List.set_cons_zero, List.set_cons_succ]
          refine take_at (i := 2) (d := 70) (v := ?_) rfl rfl (by kernel_rfl) (by kernel_rfl) (by kernel_rfl) (fun _ _ _ h => h) (Or.inl ⟨by rfl, ?hy⟩) (by assumption) ?_
          case hy => (intro wS hSw; (try dsimp only at hSw); first | (go_simp; done) | (go_simp; with_reducible rfl))
          simp only [Act.put, List.setIfInBounds_toArray, List.set_cons_zero, List.set_cons_succ]
          refine take_at (i := 4) (d := 72) (v := ?_) rfl rfl (by kernel_rfl) (by kernel_rfl) (by kernel_rfl) (fun _ _ _ h => h) (Or.inl ⟨by rfl, ?hy⟩) (by assumption) ?_
          case hy => (intro wS hSw; (try dsimp only at hSw); first | (go_simp; done) | (go_simp; with_reducible rfl))
          simp only [Act.put, List.setIfInBounds_toArray, List.set_cons_zero, List.set_cons_succ]
          refine wpAnyH_ready (rs := [3]) (by kernel_rfl) (by simp) ?_
          refine AllReadyH.cons rfl (fun K3 hK3 => ?_) AllReadyH.nil
          go_simp
          go_wp2_with (go_at_call 12; refine (evNorm_any _ fn _ (jn.below s0.bel) hno hnt hnf).mono ?_; rintro e v1 ⟨u1, rfl, hu1, bb⟩; rw [HNN.out] at hu1; have s1 := s0.below bb; clear bb)
          refine hK3.out _ _ ?_ (fun hH3 => ?_)
          · exact s1.cells
          clear hK3 K3 hH
          refine wpAnyH_ready (rs := [5]) (by kernel_rfl) (by simp) ?_
          refine AllReadyH.cons rfl (fun K5 hK5 => ?_) AllReadyH.nil
          go_simp
          go_wp2_with (go_at_call 18; refine (evSame_any _ _ fn fn _ hu1 (jn.below s1.bel)).mono ?_; rintro e v2 ⟨rfl, bb⟩; rw [sameB_refl]; have s2 := s1.below bb; clear bb)
          refine hK5.out _ _ ?_ (fun hH5 => ?_)
          · exact s2.cells
          clear hK5 K5 hH3
          refine take_at (i := 6) (d := 74) (v := ?_) rfl rfl (by kernel_rfl) (by kernel_rfl) (by kernel_rfl) (fun _ _ _ h => h) (Or.inl ⟨by rfl, ?hy⟩) (by assumption) ?_
          case hy => (intro wS hSw; (try dsimp only at hSw); first | (go_simp; done) | (go_simp; with_reducible rfl))
          simp only [Act.put, List.setIfInBounds_toArray, List.set_cons_zero, List.set_cons_succ]
          refine take_at (i := 7) (d := 75) (v := ?_) rfl rfl (by kernel_rfl) (by kernel_rfl) (by kernel_rfl) (fun _ _ _ h => h) (Or.inl ⟨by rfl, ?hy⟩) (by assumption) ?_
          case hy => (intro wS hSw; (try dsimp only at hSw); first | (go_simp; done) | (go_simp; with_reducible rfl))
          simp only [Act.put, List.setIfInBounds_toArray, List.set_cons_zero, List.set_cons_succ]
          refine take_at (i := 8) (d := 76) (v := ?_) rfl rfl (by kernel_rfl) (by kernel_rfl) (by kernel_rfl) (fun _ _ _ h => h) (Or.inl ⟨by rfl, ?hy⟩) (by assumption) ?_
          case hy => (intro wS hSw; (try dsimp only at hSw); first | (go_simp; done) | (go_simp; with_reducible rfl))
          simp only [Act.put, List.setIfInBounds_toArray, List.set_cons_zero, List.set_cons_succ]
          refine take_at (i := 10) (d := 78) (v := ?_) rfl rfl (by kernel_rfl) (by kernel_rfl) (by kernel_rfl) (fun _ _ _ h => h) (Or.inl ⟨by rfl, ?hy⟩) (by assumption) ?_
          case hy => (intro wS hSw; (try dsimp only at hSw); first | (go_simp; done) | (go_simp; with_reducible rfl))
          simp only [Act.put, List.setIfInBounds_toArray, List.set_cons_zero, List.set_cons_succ]
          refine wpAnyH_ready (rs := [9]) (by kernel_rfl) (by simp) ?_
          refine AllReadyH.cons rfl (fun K9 hK9 => ?_) AllReadyH.nil
          go_simp
          go_wp2_with (go_at_call 12; refine (evNorm_any _ ⟨fa.s, fa.t, fa.tags.reverse, fa.fs⟩ _ (jb.below s2.bel) hbo hbt hf).mono ?_; rintro e v3 ⟨u3, rfl, hu3, bb⟩; rw [HNB.out] at hu3; have s3 := s2.below bb; clear bb)
          refine hK9.out _ _ ?_ (fun hH9 => ?_)
          · exact s3.cells
          clear hK9 K9 hH5
          refine wpAnyH_ready (rs := [11]) (by kernel_rfl) (by simp) ?_
          refine AllReadyH.cons rfl (fun K11 hK11 => ?_) AllReadyH.nil
          go_simp
          go_wp2_with (go_at_call 18; refine (evSame_any _ _ fn fn _ hu3 (jn.below s3.bel)).mono ?_; rintro e v4 ⟨rfl, bb⟩; rw [sameB_refl]; have s4 := s3.below bb; clear bb)
          refine hK11.out _ _ ?_ (fun hH11 => ?_)
          · exact s4.cells
          clear hK11 K11 hH9
          refine take_at (i := 12) (d := 80) (v := ?_) rfl rfl (by kernel_rfl) (by kernel_rfl) (by kernel_rfl) (fun _ _ _ h => h) (Or.inl ⟨by rfl, ?hy⟩) (by assumption) ?_
          case hy => (intro wS hSw; (try dsimp only at hSw); first | (go_simp; done) | (go_simp; with_reducible rfl))
          simp only [Act.put, List.setIfInBounds_toArray, List.set_cons_zero, List.set_cons_succ]
          refine take_at (i := 13) (d := 81) (v := ?_) rfl rfl (by kernel_rfl) (by kernel_rfl) (by kernel_rfl) (fun _ _ _ h => h) (Or.inl ⟨by rfl, ?hy⟩) (by assumption) ?_
          case hy => (intro wS hSw; (try dsimp only at hSw); first | (go_simp; done) | (go_simp; with_reducible rfl))
          simp only [Act.put, List.setIfInBounds_toArray, List.set_cons_zero, List.set_cons_succ]
          refine take_at (i := 14) (d := 82) (v := ?_) rfl rfl (by kernel_rfl) (by kernel_rfl) (by kernel_rfl) (fun _ _ _ h => h) (Or.inl ⟨by rfl, ?hy⟩) (by assumption) ?_
          case hy => (intro wS hSw; (try dsimp only at hSw); first | (go_simp; done) | (go_simp; with_reducible rfl))
          simp only [Act.put, List.setIfInBounds_toArray, List.set_cons_zero, List.set_cons_succ]
          refine take_at (i := 15) (d := 83) (v := ?_) rfl rfl (by kernel_rfl) (by kernel_rfl) (by kernel_rfl) (fun _ _ _ h => h) (Or.inl ⟨by rfl, ?hy⟩) (by assumption) ?_
          case hy => (intro wS hSw; (try dsimp only at hSw); first | (go_simp; done) | (go_simp; with_reducible rfl))
          simp only [Act.put, List.setIfInBounds_toArray, List.set_cons_zero, List.set_cons_succ]
          refine take_at (i := 17) (d := 85) (v := ?_) rfl rfl (by kernel_rfl) (by kernel_rfl) (by kernel_rfl) (fun _ _ _ h => h) (Or.inl ⟨by rfl, ?hy⟩) (by assumption) ?_
          case hy => (intro wS hSw; (try dsimp only at hSw); first | (go_simp; done) | (go_simp; with_reducible rfl))
          simp only [Act.put, List.setIfInBounds_toArray, List.set_cons_zero, List.set_cons_succ]
          refine take_at (i := 18) (d := 86) (v := ?_) rfl rfl (by kernel_rfl) (by kernel_rfl) (by kernel_rfl) (fun _ _ _ h => h) (Or.inl ⟨by rfl, ?hy⟩) (by assumption) ?_
          case hy => (intro wS hSw; (try dsimp only at hSw); first | (go_simp; done) | (go_simp; with_reducible rfl))
          simp only [Act.put, List.setIfInBounds_toArray, List.set_cons_zero, List.set_cons_succ]
          refine wpAnyH_ready (rs := [16]) (by kernel_rfl) (by simp) ?_
          refine AllReadyH.cons rfl (fun K16 hK16 => ?_) AllReadyH.nil
          go_simp
          go_wp2_with (go_at_call 19; refine (evHas_any _ fn x _ (jn.below s4.bel)).mono ?_; rintro e v5 ⟨rfl, bb⟩; rw [HHN.out]; have s5 := s4.below bb; clear bb)
          refine hK16.out _ _ ?_ (fun hH16 => ?_)
          · exact s5.cells
          clear hK16 K16 hH11
          refine wpAnyH_ready (rs := [19]) (by kernel_rfl) (by simp) ?_
          refine AllReadyH.cons rfl (fun K19 hK19 => ?_) AllReadyH.nil
          go_simp
          go_wp2_with (go_at_call 19; refine (evHas_any _ fa x _ (ja.below s5.bel)).mono ?_; rintro e v6 ⟨rfl, bb⟩; rw [HHA.out]; have s6 := s5.below bb; clear bb)
          refine hK19.out _ _ ?_ (fun hH19 => ?_)
          · exact s6.cells
          clear hK19 K19 hH16
          refine take_at (i := 20) (d := 88) (v := ?_) rfl rfl (by kernel_rfl) (by kernel_rfl) (by kernel_rfl) (fun _ _ _ h => h) (Or.inl ⟨by rfl, ?hy⟩) (by assumption) ?_
          case hy => (intro wS hSw; (try dsimp only at hSw); first | (go_simp; done) | (go_simp; with_reducible rfl))
          simp only [Act.put, List.setIfInBounds_toArray, List.set_cons_zero, List.set_cons_succ]
          refine take_at (i := 21) (d := 89) (v := ?_) rfl rfl (by kernel_rfl) (by kernel_rfl) (by kernel_rfl) (fun _ _ _ h => h) (Or.inl ⟨by rfl, ?hy⟩) (by assumption) ?_
          case hy => (intro wS hSw; (try dsimp only at hSw); first | (go_simp; done) | (go_simp; with_reducible rfl))
          simp only [Act.put, List.setIfInBounds_toArray, List.set_cons_zero, List.set_cons_succ]
          refine take_at (i := 22) (d := 90) (v := ?_) rfl rfl (by kernel_rfl) (by kernel_rfl) (by kernel_rfl) (fun _ _ _ h => h) (Or.inl ⟨by rfl, ?hy⟩) (by assumption) ?_
          case hy => (intro wS hSw; (try dsimp only at hSw); first | (go_simp; done) | (go_simp; with_reducible rfl))
          simp only [Act.put, List.setIfInBounds_toArray, List.set_cons_zero, List.set_cons_succ]
          refine take_at (i := 23) (d := 91) (v := ?_) rfl rfl (by kernel_rfl) (by kernel_rfl) (by kernel_rfl) (fun _ _ _ h => h) (Or.inl ⟨by rfl, ?hy⟩) (by assumption) ?_
          case hy => (intro wS hSw; (try dsimp only at hSw); first | (go_simp; done) | (go_simp; with_reducible rfl))
          simp only [Act.put, List.setIfInBounds_toArray, List.set_cons_zero, List.set_cons_succ]
          refine wpAnyH_ready (rs := [24]) (by kernel_rfl) (by simp) ?_
          refine AllReadyH.cons rfl (fun K24 hK24 => ?_) AllReadyH.nil
          go_simp
          go_wp2_with (go_at_call 14; refine (evMay_any _ fa _ (ja.below s6.bel) hfo).mono ?_; rintro e v7 ⟨rfl, bb⟩; rw [HM.out]; have s7 := s6.below bb; clear bb)
          refine hK24.out _ _ ?_ (fun hH24 => ?_)
          · exact s7.cells
          clear hK24 K24 hH19
          refine take_at (i := 25) (d := 93) (v := ?_) rfl rfl (by kernel_rfl) (by kernel_rfl) (by kernel_rfl) (fun _ _ _ h => h) (Or.inl ⟨by rfl, ?hy⟩) (by assumption) ?_
          case hy => (intro wS hSw; (try dsimp only at hSw); first | (go_simp; done) | (go_simp; with_reducible rfl))
          simp only [Act.put, List.setIfInBounds_toArray, List.set_cons_zero, List.set_cons_succ]
          refine take_at (i := 26) (d := 94) (v := ?_) rfl rfl (by kernel_rfl) (by kernel_rfl) (by kernel_rfl) (fun _ _ _ h => h) (Or.inl ⟨by rfl, ?hy⟩) (by assumption) ?_
          case hy => (intro wS hSw; (try dsimp only at hSw); first | (go_simp; done) | (go_simp; with_reducible rfl))
          simp only [Act.put, List.setIfInBounds_toArray, List.set_cons_zero, List.set_cons_succ]
          refine take_at (i := 27) (d := 95) (v := ?_) rfl rfl (by kernel_rfl) (by kernel_rfl) (by kernel_rfl) (fun _ _ _ h => h) (Or.inl ⟨by rfl, ?hy⟩) (by assumption) ?_
          case hy => (intro wS hSw; (try dsimp only at hSw); first | (go_simp; done) | (go_simp; with_reducible rfl))
          simp only [Act.put, List.setIfInBounds_toArray, List.set_cons_zero, List.set_cons_succ]
          refine take_at (i := 28) (d := 96) (v := ?_) rfl rfl (by kernel_rfl) (by kernel_rfl) (by kernel_rfl) (fun _ _ _ h => h) (Or.inl ⟨by rfl, ?hy⟩) (by assumption) ?_
          case hy => (intro wS hSw; (try dsimp only at hSw); first | (go_simp; done) | (go_simp; with_reducible rfl))
          simp only [Act.put, List.setIfInBounds_toArray, List.set_cons_zero, List.set_cons_succ]
          refine wpAnyH_ready (rs := [29]) (by kernel_rfl) (by simp) ?_
          refine AllReadyH.cons rfl (fun K29 hK29 => ?_) AllReadyH.nil
          go_simp
          go_wp2_with (go_at_call 18; refine (evSame_any _ _ fn fa _ (jn.below s7.bel) (ja.below s7.bel)).mono ?_; rintro e v8 ⟨rfl, bb⟩; rw [HNA.out]; have s8 := s7.below bb; clear bb)
          refine hK29.out _ _ ?_ (fun hH29 => ?_)
          · exact s8.cells
          clear hK29 K29 hH24
          refine take_at (i := 30) (d := 98) (v := ?_) rfl rfl (by kernel_rfl) (by kernel_rfl) (by kernel_rfl) (fun _ _ _ h => h) (Or.inl ⟨by rfl, ?hy⟩) (by assumption) ?_
          case hy => (intro wS hSw; (try dsimp only at hSw); first | (go_simp; done) | (go_simp; with_reducible rfl))
          simp only [Act.put, List.setIfInBounds_toArray, List.set_cons_zero, List.set_cons_succ]
          refine take_at (i := 31) (d := 99) (v := ?_) rfl rfl (by kernel_rfl) (by kernel_rfl) (by kernel_rfl) (fun _ _ _ h => h) (Or.inl ⟨by rfl, ?hy⟩) (by assumption) ?_
          case hy => (intro wS hSw; (try dsimp only at hSw); first | (go_simp; done) | (go_simp; with_reducible rfl))
          simp only [Act.put, List.setIfInBounds_toArray, List.set_cons_zero, List.set_cons_succ]
          refine take_at (i := 32) (d := 100) (v := ?_) rfl rfl (by kernel_rfl) (by kernel_rfl) (by kernel_rfl) (fun _ _ _ h => h) (Or.inl ⟨by rfl, ?hy⟩) (by assumption) ?_
          case hy => (intro wS hSw; (try dsimp only at hSw); first | (go_simp; done) | (go_simp; with_reducible rfl))
          simp only [Act.put, List.setIfInBounds_toArray, List.set_cons_zero, List.set_cons_succ]
          refine take_at (i := 33) (d := 101) (v := ?_) rfl rfl (by kernel_rfl) (by kernel_rfl) (by kernel_rfl) (fun _ _ _ h => h) (Or.inl ⟨by rfl, ?hy⟩) (by assumption) ?_
          case hy => (intro wS hSw; (try dsimp only at hSw); first | (go_simp; done) | (go_simp; with_reducible rfl))
          simp only [Act.put, List.setIfInBounds_toArray, List.set_cons_zero, List.set_cons_succ]
          refine wpAnyH_ready (rs := [34]) (by kernel_rfl) (by simp) ?_
          refine AllReadyH.cons rfl (fun K34 hK34 => ?_) AllReadyH.nil
          go_simp
          go_wp2_with (go_at_call 14; refine (evMay_any _ fa _ (ja.below s8.bel) hfo).mono ?_; rintro e v9 ⟨rfl, bb⟩; rw [HM.out]; have s9 := s8.below bb; clear bb)
          refine hK34.out _ _ ?_ (fun hH34 => ?_)
          · exact s9.cells
          clear hK34 K34 hH29
          refine take_at (i := 35) (d := 103) (v := ?_) rfl rfl (by kernel_rfl) (by kernel_rfl) (by kernel_rfl) (fun _ _ _ h => h) (Or.inl ⟨by rfl, ?hy⟩) (by assumption) ?_
          case hy => (intro wS hSw; (try dsimp only at hSw); first | (go_simp; done) | (go_simp; with_reducible rfl))
          simp only [Act.put, List.setIfInBounds_toArray, List.set_cons_zero, List.set_cons_succ]
          refine take_at (i := 36) (d := 104) (v := ?_) rfl rfl (by kernel_rfl) (by kernel_rfl) (by kernel_rfl) (fun _ _ _ h => h) (Or.inl ⟨by rfl, ?hy⟩) (by assumption) ?_
          case hy => (intro wS hSw; (try dsimp only at hSw); first | (go_simp; done) | (go_simp; with_reducible rfl))
          simp only [Act.put, List.setIfInBounds_toArray, List.set_cons_zero, List.set_cons_succ]
          refine take_at (i := 37) (d := 105) (v := undef) rfl rfl (by kernel_rfl) (by kernel_rfl) (by kernel_rfl) (fun _ _ _ h => h) (Or.inr ⟨by rfl, rfl⟩) (by assumption) ?_
          simp only [Act.put, List.setIfInBounds_toArray, List.set_cons_zero, List.set_cons_succ]
          refine take_at (i := 38) (d := 106) (v := undef) rfl rfl (by kernel_rfl) (by kernel_rfl) (by kernel_rfl) (fun _ _ _ h => h) (Or.inr ⟨by rfl, rfl⟩) (by assumption) ?_
          simp only [Act.put, List.setIfInBounds_toArray, List.set_cons_zero, List.set_cons_succ]
          refine take_at (i := 39) (d := 107) (v := undef) rfl rfl (by kernel_rfl) (by kernel_rfl) (by kernel_rfl) (fun _ _ _ h => h) (Or.inr ⟨by rfl, rfl⟩) (by assumption) ?_
          simp only [Act.put, List.setIfInBounds_toArray, List.set_cons_zero, List.set_cons_succ]
          refine take_at (i := 40) (d := 108) (v := ?_) rfl rfl (by kernel_rfl) (by kernel_rfl) (by kernel_rfl) (fun _ _ _ h => h) (Or.inl ⟨by rfl, ?hy⟩) (by assumption) ?_
          case hy => (intro wS hSw; (try dsimp only at hSw); first | (go_simp; done) | (go_simp; with_reducible rfl))
          simp only [Act.put, List.setIfInBounds_toArray, List.set_cons_zero, List.set_cons_succ]
          refine take_at (i := 41) (d := 109) (v := ?_) rfl rfl (by kernel_rfl) (by kernel_rfl) (by kernel_rfl) (fun _ _ _ h => h) (Or.inl ⟨by rfl, ?hy⟩) (by assumption) ?_
          case hy => (intro wS hSw; (try dsimp only at hSw); first | (go_simp; done) | (go_simp; with_reducible rfl))
          simp only [Act.put, List.setIfInBounds_toArray, List.set_cons_zero, List.set_cons_succ]
          refine take_at (i := 42) (d := 110) (v := undef) rfl rfl (by kernel_rfl) (by kernel_rfl) (by kernel_rfl) (fun _ _ _ h => h) (Or.inr ⟨by rfl, rfl⟩) (by assumption) ?_
          simp only [Act.put, List.setIfInBounds_toArray, List.set_cons_zero, List.set_cons_succ]
          refine take_at (i := 43) (d := 111) (v := undef) rfl rfl (by kernel_rfl) (by kernel_rfl) (by kernel_rfl) (fun _ _ _ h => h) (Or.inr ⟨by rfl, rfl⟩) (by assumption) ?_
          simp only [Act.put, List.setIfInBounds_toArray, List.set_cons_zero, List.set_cons_succ]
          refine take_at (i := 44) (d := 112) (v := undef) rfl rfl (by kernel_rfl) (by kernel_rfl) (by kernel_rfl) (fun _ _ _ h => h) (Or.inr ⟨by rfl, rfl⟩) (by assumption) ?_
          simp only [Act.put, List.setIfInBounds_toArray, List.set_cons_zero, List.set_cons_succ]
          refine take_at (i := 45) (d := 113) (v := ?_) rfl rfl (by kernel_rfl) (by kernel_rfl) (by kernel_rfl) (fun _ _ _ h => h) (Or.inl ⟨by rfl, ?hy⟩) (by assumption) ?_
          case hy => (intro wS hSw; (try dsimp only at hSw); first | (go_simp; done) | (go_simp; with_reducible rfl))
          simp only [Act.put, List.setIfInBounds_toArray, List.set_cons_zero, List.set_cons_succ]
          refine take_at (i := 46) (d := 114) (v := ?_) rfl rfl (by kernel_rfl) (by kernel_rfl) (by kernel_rfl) (fun _ _ _ h => h) (Or.inl ⟨by rfl, ?hy⟩) (by assumption) ?_
          case hy => (intro wS hSw; (try dsimp only at hSw); first | (go_simp; done) | (go_simp; with_reducible rfl))
          simp only [Act.put, List.setIfInBounds_toArray, List.set_cons_zero, List.set_cons_succ]
          refine take_at (i := 47) (d := 4) (v := ?_) rfl rfl (by kernel_rfl) (by kernel_rfl) (by kernel_rfl) (fun _ _ _ h => h) (Or.inl ⟨by rfl, ?hy⟩) (by assumption) ?_
          case hy => (intro wS hSw; (try dsimp only at hSw); first | (go_simp; done) | (go_simp; with_reducible rfl))
          simp only [Act.put, List.setIfInBounds_toArray, List.set_cons_zero, List.set_cons_succ]
          refine wpAnyH_done (by kernel_rfl) ?_ _
          go_wp2_with fail
          go_ret
          exact ⟨by simp, below_chain BW s9.bel⟩
        · by_cases h1 : mayE fa = 1
          · have HM := Go.Lib.hid h1
            rcases mayE_norm h1 with h2 | h2
            · rw [HFN.out] at h2
              have HMN := Go.Lib.hid h2
              clear h0 h1 h2
              refine wp_region_held_drew (S := (fun w' => w'.cell? ⟨w.heap.size, 0, none⟩ = some (.string fa.s) ∧ w'.cell? ⟨w.heap.size, 1, none⟩ = some (.string fa.t) ∧ w'.cell? ⟨w.heap.size, 2, none⟩ = some (.slice C0 p0 cc0) ∧ w'.cell? ⟨w.heap.size, 3, none⟩ = some (.slice D0 q0 cd0) ∧ w'.cell? ⟨w5.heap.size, 0, none⟩ = some (.string fn.s) ∧ w'.cell? ⟨w5.heap.size, 1, none⟩ = some (.string fn.t) ∧ w'.cell? ⟨w5.heap.size, 2, none⟩ = some (.slice T nT cT) ∧ w'.cell? ⟨w5.heap.size, 3, none⟩ = some (.slice F nF cF) ∧ w'.cell? ⟨w6.heap.size, 0, none⟩ = some (.string fa.s) ∧ w'.cell? ⟨w6.heap.size, 1, none⟩ = some (.string fa.t) ∧ w'.cell? ⟨w6.heap.size, 2, none⟩ = some (.slice K p0 cK) ∧ w'.cell? ⟨w6.heap.size, 3, none⟩ = some (.slice D0 q0 cd0))) (by kernel_rfl) ?_ (fun hH => ?_)
              · exact s0.cells
              refine take_at (i := 0) (d := 68) (v := ?_) rfl rfl (by kernel_rfl) (by kernel_rfl) (by kernel_rfl) (fun _ _ _ h => h) (Or.inl ⟨by rfl, ?hy⟩) (by assumption) ?_
              case hy => (intro wS hSw; (try dsimp only at hSw); first | (go_simp; done) | (go_simp; with_reducible rfl))
              simp only [Act.put, List.setIfInBounds_toArray, List.set_cons_zero, List.set_cons_succ]
              refine take_at (i := 1) (d := 69) (v := ?_) rfl rfl (by kernel_rfl) (by kernel_rfl) (by kernel_rfl) (fun _ _ _ h => h) (Or.inl ⟨by rfl, ?hy⟩) (by assumption) ?_
              case hy => (intro wS hSw; (try dsimp only at hSw); first | (go_simp; done) | (go_simp; with_reducible rfl))
              simp only [Act.put, List.setIfInBounds_toArray, List.set_cons_zero, List.set_cons_succ]
              refine take_at (i := 2) (d := 70) (v := ?_) rfl rfl (by kernel_rfl) (by kernel_rfl) (by kernel_rfl) (fun _ _ _ h => h) (Or.inl ⟨by rfl, ?hy⟩) (by assumption) ?_
              case hy => (intro wS hSw; (try dsimp only at hSw); first | (go_simp; done) | (go_simp; with_reducible rfl))
              simp only [Act.put, List.setIfInBounds_toArray, List.set_cons_zero, List.set_cons_succ]
              refine take_at (i := 4) (d := 72) (v := ?_) rfl rfl (by kernel_rfl) (by kernel_rfl) (by kernel_rfl) (fun _ _ _ h => h) (Or.inl ⟨by rfl, ?hy⟩) (by assumption) ?_
              case hy => (intro wS hSw; (try dsimp only at hSw); first | (go_simp; done) | (go_simp; with_reducible rfl))
              simp only [Act.put, List.setIfInBounds_toArray, List.set_cons_zero, List.set_cons_succ]
              refine wpAnyH_ready (rs := [3]) (by kernel_rfl) (by simp) ?_
              refine AllReadyH.cons rfl (fun K3 hK3 => ?_) AllReadyH.nil
              go_simp
              go_wp2_with (go_at_call 12; refine (evNorm_any _ fn _ (jn.below s0.bel) hno hnt hnf).mono ?_; rintro e v1 ⟨u1, rfl, hu1, bb⟩; rw [HNN.out] at hu1; have s1 := s0.below bb; clear bb)
              refine hK3.out _ _ ?_ (fun hH3 => ?_)
              · exact s1.cells
              clear hK3 K3 hH
              refine wpAnyH_ready (rs := [5]) (by kernel_rfl) (by simp) ?_
              refine AllReadyH.cons rfl (fun K5 hK5 => ?_) AllReadyH.nil
              go_simp
              go_wp2_with (go_at_call 18; refine (evSame_any _ _ fn fn _ hu1 (jn.below s1.bel)).mono ?_; rintro e v2 ⟨rfl, bb⟩; rw [sameB_refl]; have s2 := s1.below bb; clear bb)
              refine hK5.out _ _ ?_ (fun hH5 => ?_)
              · exact s2.cells
              clear hK5 K5 hH3
              refine take_at (i := 6) (d := 74) (v := ?_) rfl rfl (by kernel_rfl) (by kernel_rfl) (by kernel_rfl) (fun _ _ _ h => h) (Or.inl ⟨by rfl, ?hy⟩) (by assumption) ?_
              case hy => (intro wS hSw; (try dsimp only at hSw); first | (go_simp; done) | (go_simp; with_reducible rfl))
              simp only [Act.put, List.setIfInBounds_toArray, List.set_cons_zero, List.set_cons_succ]
              refine take_at (i := 7) (d := 75) (v := ?_) rfl rfl (by kernel_rfl) (by kernel_rfl) (by kernel_rfl) (fun _ _ _ h => h) (Or.inl ⟨by rfl, ?hy⟩) (by assumption) ?_
              case hy => (intro wS hSw; (try dsimp only at hSw); first | (go_simp; done) | (go_simp; with_reducible rfl))
              simp only [Act.put, List.setIfInBounds_toArray, List.set_cons_zero, List.set_cons_succ]
              refine take_at (i := 8) (d := 76) (v := ?_) rfl rfl (by kernel_rfl) (by kernel_rfl) (by kernel_rfl) (fun _ _ _ h => h) (Or.inl ⟨by rfl, ?hy⟩) (by assumption) ?_
              case hy => (intro wS hSw; (try dsimp only at hSw); first | (go_simp; done) | (go_simp; with_reducible rfl))
              simp only [Act.put, List.setIfInBounds_toArray, List.set_cons_zero, List.set_cons_succ]
              refine take_at (i := 10) (d := 78) (v := ?_) rfl rfl (by kernel_rfl) (by kernel_rfl) (by kernel_rfl) (fun _ _ _ h => h) (Or.inl ⟨by rfl, ?hy⟩) (by assumption) ?_
              case hy => (intro wS hSw; (try dsimp only at hSw); first | (go_simp; done) | (go_simp; with_reducible rfl))
              simp only [Act.put, List.setIfInBounds_toArray, List.set_cons_zero, List.set_cons_succ]
              refine wpAnyH_ready (rs := [9]) (by kernel_rfl) (by simp) ?_
              refine AllReadyH.cons rfl (fun K9 hK9 => ?_) AllReadyH.nil
              go_simp
              go_wp2_with (go_at_call 12; refine (evNorm_any _ ⟨fa.s, fa.t, fa.tags.reverse, fa.fs⟩ _ (jb.below s2.bel) hbo hbt hf).mono ?_; rintro e v3 ⟨u3, rfl, hu3, bb⟩; rw [HNB.out] at hu3; have s3 := s2.below bb; clear bb)
              refine hK9.out _ _ ?_ (fun hH9 => ?_)
              · exact s3.cells
              clear hK9 K9 hH5
              refine wpAnyH_ready (rs := [11]) (by kernel_rfl) (by simp) ?_
              refine AllReadyH.cons rfl (fun K11 hK11 => ?_) AllReadyH.nil
              go_simp
              go_wp2_with (go_at_call 18; refine (evSame_any _ _ fn fn _ hu3 (jn.below s3.bel)).mono ?_; rintro e v4 ⟨rfl, bb⟩; rw [sameB_refl]; have s4 := s3.below bb; clear bb)
              refine hK11.out _ _ ?_ (fun hH11 => ?_)
              · exact s4.cells
              clear hK11 K11 hH9
              refine take_at (i := 12) (d := 80) (v := ?_) rfl rfl (by kernel_rfl) (by kernel_rfl) (by kernel_rfl) (fun _ _ _ h => h) (Or.inl ⟨by rfl, ?hy⟩) (by assumption) ?_
              case hy => (intro wS hSw; (try dsimp only at hSw); first | (go_simp; done) | (go_simp; with_reducible rfl))
              simp only [Act.put, List.setIfInBounds_toArray, List.set_cons_zero, List.set_cons_succ]
              refine take_at (i := 13) (d := 81) (v := ?_) rfl rfl (by kernel_rfl) (by kernel_rfl) (by kernel_rfl) (fun _ _ _ h => h) (Or.inl ⟨by rfl, ?hy⟩) (by assumption) ?_
              case hy => (intro wS hSw; (try dsimp only at hSw); first | (go_simp; done) | (go_simp; with_reducible rfl))
              simp only [Act.put, List.setIfInBounds_toArray, List.set_cons_zero, List.set_cons_succ]
              refine take_at (i := 14) (d := 82) (v := ?_) rfl rfl (by kernel_rfl) (by kernel_rfl) (by kernel_rfl) (fun _ _ _ h => h) (Or.inl ⟨by rfl, ?hy⟩) (by assumption) ?_
              case hy => (intro wS hSw; (try dsimp only at hSw); first | (go_simp; done) | (go_simp; with_reducible rfl))
              simp only [Act.put, List.setIfInBounds_toArray, List.set_cons_zero, List.set_cons_succ]
              refine take_at (i := 15) (d := 83) (v := ?_) rfl rfl (by kernel_rfl) (by kernel_rfl) (by kernel_rfl) (fun _ _ _ h => h) (Or.inl ⟨by rfl, ?hy⟩) (by assumption) ?_
              case hy => (intro wS hSw; (try dsimp only at hSw); first | (go_simp; done) | (go_simp; with_reducible rfl))
              simp only [Act.put, List.setIfInBounds_toArray, List.set_cons_zero, List.set_cons_succ]
              refine take_at (i := 17) (d := 85) (v := ?_) rfl rfl (by kernel_rfl) (by kernel_rfl) (by kernel_rfl) (fun _ _ _ h => h) (Or.inl ⟨by rfl, ?hy⟩) (by assumption) ?_
              case hy => (intro wS hSw; (try dsimp only at hSw); first | (go_simp; done) | (go_simp; with_reducible rfl))
              simp only [Act.put, List.setIfInBounds_toArray, List.set_cons_zero, List.set_cons_succ]
              refine take_at (i := 18) (d := 86) (v := ?_) rfl rfl (by kernel_rfl) (by kernel_rfl) (by kernel_rfl) (fun _ _ _ h => h) (Or.inl ⟨by rfl, ?hy⟩) (by assumption) ?_
              case hy => (intro wS hSw; (try dsimp only at hSw); first | (go_simp; done) | (go_simp; with_reducible rfl))
              simp only [Act.put, List.setIfInBounds_toArray, List.set_cons_zero, List.set_cons_succ]
              refine wpAnyH_ready (rs := [16]) (by kernel_rfl) (by simp) ?_
              refine AllReadyH.cons rfl (fun K16 hK16 => ?_) AllReadyH.nil
              go_simp
              go_wp2_with (go_at_call 19; refine (evHas_any _ fn x _ (jn.below s4.bel)).mono ?_; rintro e v5 ⟨rfl, bb⟩; rw [HHN.out]; have s5 := s4.below bb; clear bb)
              refine hK16.out _ _ ?_ (fun hH16 => ?_)
              · exact s5.cells
              clear hK16 K16 hH11
              refine wpAnyH_ready (rs := [19]) (by kernel_rfl) (by simp) ?_
              refine AllReadyH.cons rfl (fun K19 hK19 => ?_) AllReadyH.nil
              go_simp
              go_wp2_with (go_at_call 19; refine (evHas_any _ fa x _ (ja.below s5.bel)).mono ?_; rintro e v6 ⟨rfl, bb⟩; rw [HHA.out]; have s6 := s5.below bb; clear bb)
              refine hK19.out _ _ ?_ (fun hH19 => ?_)
              · exact s6.cells
              clear hK19 K19 hH16
              refine take_at (i := 20) (d := 88) (v := ?_) rfl rfl (by kernel_rfl) (by kernel_rfl) (by kernel_rfl) (fun _ _ _ h => h) (Or.inl ⟨by rfl, ?hy⟩) (by assumption) ?_
              case hy => (intro wS hSw; (try dsimp only at hSw); first | (go_simp; done) | (go_simp; with_reducible rfl))
              simp only [Act.put, List.setIfInBounds_toArray, List.set_cons_zero, List.set_cons_succ]
              refine take_at (i := 21) (d := 89) (v := ?_) rfl rfl (by kernel_rfl) (by kernel_rfl) (by kernel_rfl) (fun _ _ _ h => h) (Or.inl ⟨by rfl, ?hy⟩) (by assumption) ?_
              case hy => (intro wS hSw; (try dsimp only at hSw); first | (go_simp; done) | (go_simp; with_reducible rfl))
              simp only [Act.put, List.setIfInBounds_toArray, List.set_cons_zero, List.set_cons_succ]
              refine take_at (i := 22) (d := 90) (v := ?_) rfl rfl (by kernel_rfl) (by kernel_rfl) (by kernel_rfl) (fun _ _ _ h => h) (Or.inl ⟨by rfl, ?hy⟩) (by assumption) ?_
              case hy => (intro wS hSw; (try dsimp only at hSw); first | (go_simp; done) | (go_simp; with_reducible rfl))
              simp only [Act.put, List.setIfInBounds_toArray, List.set_cons_zero, List.set_cons_succ]
              refine take_at (i := 23) (d := 91) (v := ?_) rfl rfl (by kernel_rfl) (by kernel_rfl) (by kernel_rfl) (fun _ _ _ h => h) (Or.inl ⟨by rfl, ?hy⟩) (by assumption) ?_
              case hy => (intro wS hSw; (try dsimp only at hSw); first | (go_simp; done) | (go_simp; with_reducible rfl))
              simp only [Act.put, List.setIfInBounds_toArray, List.set_cons_zero, List.set_cons_succ]
              refine wpAnyH_ready (rs := [24]) (by kernel_rfl) (by simp) ?_
              refine AllReadyH.cons rfl (fun K24 hK24 => ?_) AllReadyH.nil
              go_simp
              go_wp2_with (go_at_call 14; refine (evMay_any _ fa _ (ja.below s6.bel) hfo).mono ?_; rintro e v7 ⟨rfl, bb⟩; rw [HM.out]; have s7 := s6.below bb; clear bb)
              refine hK24.out _ _ ?_ (fun hH24 => ?_)
              · exact s7.cells
              clear hK24 K24 hH19
              refine take_at (i := 25) (d := 93) (v := ?_) rfl rfl (by kernel_rfl) (by kernel_rfl) (by kernel_rfl) (fun _ _ _ h => h) (Or.inl ⟨by rfl, ?hy⟩) (by assumption) ?_
              case hy => (intro wS hSw; (try dsimp only at hSw); first | (go_simp; done) | (go_simp; with_reducible rfl))
              simp only [Act.put, List.setIfInBounds_toArray, List.set_cons_zero, List.set_cons_succ]
              refine take_at (i := 26) (d := 94) (v := ?_) rfl rfl (by kernel_rfl) (by kernel_rfl) (by kernel_rfl) (fun _ _ _ h => h) (Or.inl ⟨by rfl, ?hy⟩) (by assumption) ?_
              case hy => (intro wS hSw; (try dsimp only at hSw); first | (go_simp; done) | (go_simp; with_reducible rfl))
              simp only [Act.put, List.setIfInBounds_toArray, List.set_cons_zero, List.set_cons_succ]
              refine take_at (i := 27) (d := 95) (v := undef) rfl rfl (by kernel_rfl) (by kernel_rfl) (by kernel_rfl) (fun _ _ _ h => h) (Or.inr ⟨by rfl, rfl⟩) (by assumption) ?_
              simp only [Act.put, List.setIfInBounds_toArray, List.set_cons_zero, List.set_cons_succ]
              refine take_at (i := 28) (d := 96) (v := undef) rfl rfl (by kernel_rfl) (by kernel_rfl) (by kernel_rfl) (fun _ _ _ h => h) (Or.inr ⟨by rfl, rfl⟩) (by assumption) ?_
              simp only [Act.put, List.setIfInBounds_toArray, List.set_cons_zero, List.set_cons_succ]
              refine take_at (i := 29) (d := 97) (v := undef) rfl rfl (by kernel_rfl) (by kernel_rfl) (by kernel_rfl) (fun _ _ _ h => h) (Or.inr ⟨by rfl, rfl⟩) (by assumption) ?_
              simp only [Act.put, List.setIfInBounds_toArray, List.set_cons_zero, List.set_cons_succ]
              refine take_at (i := 30) (d := 98) (v := ?_) rfl rfl (by kernel_rfl) (by kernel_rfl) (by kernel_rfl) (fun _ _ _ h => h) (Or.inl ⟨by rfl, ?hy⟩) (by assumption) ?_
              case hy => (intro wS hSw; (try dsimp only at hSw); first | (go_simp; done) | (go_simp; with_reducible rfl))
              simp only [Act.put, List.setIfInBounds_toArray, List.set_cons_zero, List.set_cons_succ]
              refine take_at (i := 31) (d := 99) (v := ?_) rfl rfl (by kernel_rfl) (by kernel_rfl) (by kernel_rfl) (fun _ _ _ h => h) (Or.inl ⟨by rfl, ?hy⟩) (by assumption) ?_
              case hy => (intro wS hSw; (try dsimp only at hSw); first | (go_simp; done) | (go_simp; with_reducible rfl))
              simp only [Act.put, List.setIfInBounds_toArray, List.set_cons_zero, List.set_cons_succ]
              refine take_at (i := 32) (d := 100) (v := ?_) rfl rfl (by kernel_rfl) (by kernel_rfl) (by kernel_rfl) (fun _ _ _ h => h) (Or.inl ⟨by rfl, ?hy⟩) (by assumption) ?_
              case hy => (intro wS hSw; (try dsimp only at hSw); first | (go_simp; done) | (go_simp; with_reducible rfl))
              simp only [Act.put, List.setIfInBounds_toArray, List.set_cons_zero, List.set_cons_succ]
              refine take_at (i := 33) (d := 101) (v := ?_) rfl rfl (by kernel_rfl) (by kernel_rfl) (by kernel_rfl) (fun _ _ _ h => h) (Or.inl ⟨by rfl, ?hy⟩) (by assumption) ?_
              case hy => (intro wS hSw; (try dsimp only at hSw); first | (go_simp; done) | (go_simp; with_reducible rfl))
              simp only [Act.put, List.setIfInBounds_toArray, List.set_cons_zero, List.set_cons_succ]
              refine wpAnyH_ready (rs := [34]) (by kernel_rfl) (by simp) ?_
              refine AllReadyH.cons rfl (fun K34 hK34 => ?_) AllReadyH.nil
              go_simp
              go_wp2_with (go_at_call 14; refine (evMay_any _ fa _ (ja.below s7.bel) hfo).mono ?_; rintro e v8 ⟨rfl, bb⟩; rw [HM.out]; have s8 := s7.below bb; clear bb)
              refine hK34.out _ _ ?_ (fun hH34 => ?_)
              · exact s8.cells
              clear hK34 K34 hH24
              refine take_at (i := 35) (d := 103) (v := ?_) rfl rfl (by kernel_rfl) (by kernel_rfl) (by kernel_rfl) (fun _ _ _ h => h) (Or.inl ⟨by rfl, ?hy⟩) (by assumption) ?_
              case hy => (intro wS hSw; (try dsimp only at hSw); first | (go_simp; done) | (go_simp; with_reducible rfl))
              simp only [Act.put, List.setIfInBounds_toArray, List.set_cons_zero, List.set_cons_succ]
              refine take_at (i := 36) (d := 104) (v := ?_) rfl rfl (by kernel_rfl) (by kernel_rfl) (by kernel_rfl) (fun _ _ _ h => h) (Or.inl ⟨by rfl, ?hy⟩) (by assumption) ?_
              case hy => (intro wS hSw; (try dsimp only at hSw); first | (go_simp; done) | (go_simp; with_reducible rfl))
              simp only [Act.put, List.setIfInBounds_toArray, List.set_cons_zero, List.set_cons_succ]
              refine take_at (i := 37) (d := 105) (v := ?_) rfl rfl (by kernel_rfl) (by kernel_rfl) (by kernel_rfl) (fun _ _ _ h => h) (Or.inl ⟨by rfl, ?hy⟩) (by assumption) ?_
              case hy => (intro wS hSw; (try dsimp only at hSw); first | (go_simp; done) | (go_simp; with_reducible rfl))
              simp only [Act.put, List.setIfInBounds_toArray, List.set_cons_zero, List.set_cons_succ]
              refine wpAnyH_ready (rs := [38]) (by kernel_rfl) (by simp) ?_
              refine AllReadyH.cons rfl (fun K38 hK38 => ?_) AllReadyH.nil
              go_simp
              go_wp2_with (go_at_call 14; refine (evMay_any _ fn _ (jn.below s8.bel) hno).mono ?_; rintro e v9 ⟨rfl, bb⟩; rw [HMN.out]; have s9 := s8.below bb; clear bb)
              refine hK38.out _ _ ?_ (fun hH38 => ?_)
              · exact s9.cells
              clear hK38 K38 hH34
              refine take_at (i := 39) (d := 107) (v := ?_) rfl rfl (by kernel_rfl) (by kernel_rfl) (by kernel_rfl) (fun _ _ _ h => h) (Or.inl ⟨by rfl, ?hy⟩) (by assumption) ?_
              case hy => (intro wS hSw; (try dsimp only at hSw); first | (go_simp; done) | (go_simp; with_reducible rfl))
              simp only [Act.put, List.setIfInBounds_toArray, List.set_cons_zero, List.set_cons_succ]
              refine take_at (i := 40) (d := 108) (v := ?_) rfl rfl (by kernel_rfl) (by kernel_rfl) (by kernel_rfl) (fun _ _ _ h => h) (Or.inl ⟨by rfl, ?hy⟩) (by assumption) ?_
              case hy => (intro wS hSw; (try dsimp only at hSw); first | (go_simp; done) | (go_simp; with_reducible rfl))
              simp only [Act.put, List.setIfInBounds_toArray, List.set_cons_zero, List.set_cons_succ]
              refine take_at (i := 41) (d := 109) (v := ?_) rfl rfl (by kernel_rfl) (by kernel_rfl) (by kernel_rfl) (fun _ _ _ h => h) (Or.inl ⟨by rfl, ?hy⟩) (by assumption) ?_
              case hy => (intro wS hSw; (try dsimp only at hSw); first | (go_simp; done) | (go_simp; with_reducible rfl))
              simp only [Act.put, List.setIfInBounds_toArray, List.set_cons_zero, List.set_cons_succ]
              refine take_at (i := 42) (d := 110) (v := undef) rfl rfl (by kernel_rfl) (by kernel_rfl) (by kernel_rfl) (fun _ _ _ h => h) (Or.inr ⟨by rfl, rfl⟩) (by assumption) ?_
              simp only [Act.put, List.setIfInBounds_toArray, List.set_cons_zero, List.set_cons_succ]
              refine take_at (i := 43) (d := 111) (v := undef) rfl rfl (by kernel_rfl) (by kernel_rfl) (by kernel_rfl) (fun _ _ _ h => h) (Or.inr ⟨by rfl, rfl⟩) (by assumption) ?_
              simp only [Act.put, List.setIfInBounds_toArray, List.set_cons_zero, List.set_cons_succ]
              refine take_at (i := 44) (d := 112) (v := undef) rfl rfl (by kernel_rfl) (by kernel_rfl) (by kernel_rfl) (fun _ _ _ h => h) (Or.inr ⟨by rfl, rfl⟩) (by assumption) ?_
              simp only [Act.put, List.setIfInBounds_toArray, List.set_cons_zero, List.set_cons_succ]
              refine take_at (i := 45) (d := 113) (v := ?_) rfl rfl (by kernel_rfl) (by kernel_rfl) (by kernel_rfl) (fun _ _ _ h => h) (Or.inl ⟨by rfl, ?hy⟩) (by assumption) ?_
              case hy => (intro wS hSw; (try dsimp only at hSw); first | (go_simp; done) | (go_simp; with_reducible rfl))
              simp only [Act.put, List.setIfInBounds_toArray, List.set_cons_zero, List.set_cons_succ]
              refine take_at (i := 46) (d := 114) (v := ?_) rfl rfl (by kernel_rfl) (by kernel_rfl) (by kernel_rfl) (fun _ _ _ h => h) (Or.inl ⟨by rfl, ?hy⟩) (by assumption) ?_
              case hy => (intro wS hSw; (try dsimp only at hSw); first | (go_simp; done) | (go_simp; with_reducible rfl))
              simp only [Act.put, List.setIfInBounds_toArray, List.set_cons_zero, List.set_cons_succ]
              refine take_at (i := 47) (d := 4) (v := ?_) rfl rfl (by kernel_rfl) (by kernel_rfl) (by kernel_rfl) (fun _ _ _ h => h) (Or.inl ⟨by rfl, ?hy⟩) (by assumption) ?_
              case hy => (intro wS hSw; (try dsimp only at hSw); first | (go_simp; done) | (go_simp; with_reducible rfl))
              simp only [Act.put, List.setIfInBounds_toArray, List.set_cons_zero, List.set_cons_succ]
              refine wpAnyH_done (by kernel_rfl) ?_ _
              go_wp2_with fail
              go_ret
              exact ⟨by simp, below_chain BW s9.bel⟩
            · rw [HFN.out] at h2
              have HMN := Go.Lib.hid h2
              clear h0 h1 h2
              refine wp_region_held_drew (S := (fun w' => w'.cell? ⟨w.heap.size, 0, none⟩ = some (.string fa.s) ∧ w'.cell? ⟨w.heap.size, 1, none⟩ = some (.string fa.t) ∧ w'.cell? ⟨w.heap.size, 2, none⟩ = some (.slice C0 p0 cc0) ∧ w'.cell? ⟨w.heap.size, 3, none⟩ = some (.slice D0 q0 cd0) ∧ w'.cell? ⟨w5.heap.size, 0, none⟩ = some (.string fn.s) ∧ w'.cell? ⟨w5.heap.size, 1, none⟩ = some (.string fn.t) ∧ w'.cell? ⟨w5.heap.size, 2, none⟩ = some (.slice T nT cT) ∧ w'.cell? ⟨w5.heap.size, 3, none⟩ = some (.slice F nF cF) ∧ w'.cell? ⟨w6.heap.size, 0, none⟩ = some (.string fa.s) ∧ w'.cell? ⟨w6.heap.size, 1, none⟩ = some (.string fa.t) ∧ w'.cell? ⟨w6.heap.size, 2, none⟩ = some (.slice K p0 cK) ∧ w'.cell? ⟨w6.heap.size, 3, none⟩ = some (.slice D0 q0 cd0))) (by kernel_rfl) ?_ (fun hH => ?_)
              · exact s0.cells
              refine take_at (i := 0) (d := 68) (v := ?_) rfl rfl (by kernel_rfl) (by kernel_rfl) (by kernel_rfl) (fun _ _ _ h => h) (Or.inl ⟨by rfl, ?hy⟩) (by assumption) ?_
              case hy => (intro wS hSw; (try dsimp only at hSw); first | (go_simp; done) | (go_simp; with_reducible rfl))
              simp only [Act.put, List.setIfInBounds_toArray, List.set_cons_zero, List.set_cons_succ]
              refine take_at (i := 1) (d := 69) (v := ?_) rfl rfl (by kernel_rfl) (by kernel_rfl) (by kernel_rfl) (fun _ _ _ h => h) (Or.inl ⟨by rfl, ?hy⟩) (by assumption) ?_
              case hy => (intro wS hSw; (try dsimp only at hSw); first | (go_simp; done) | (go_simp; with_reducible rfl))
              simp only [Act.put, List.setIfInBounds_toArray, List.set_cons_zero, List.set_cons_succ]
              refine take_at (i := 2) (d := 70) (v := ?_) rfl rfl (by kernel_rfl) (by kernel_rfl) (by kernel_rfl) (fun _ _ _ h => h) (Or.inl ⟨by rfl, ?hy⟩) (by assumption) ?_
              case hy => (intro wS hSw; (try dsimp only at hSw); first | (go_simp; done) | (go_simp; with_reducible rfl))
              simp only [Act.put, List.setIfInBounds_toArray, List.set_cons_zero, List.set_cons_succ]
              refine take_at (i := 4) (d := 72) (v := ?_) rfl rfl (by kernel_rfl) (by kernel_rfl) (by kernel_rfl) (fun _ _ _ h => h) (Or.inl ⟨by rfl, ?hy⟩) (by assumption) ?_
              case hy => (intro wS hSw; (try dsimp only at hSw); first | (go_simp; done) | (go_simp; with_reducible rfl))
              simp only [Act.put, List.setIfInBounds_toArray, List.set_cons_zero, List.set_cons_succ]
              refine wpAnyH_ready (rs := [3]) (by kernel_rfl) (by simp) ?_
              refine AllReadyH.cons rfl (fun K3 hK3 => ?_) AllReadyH.nil
              go_simp
              go_wp2_with (go_at_call 12; refine (evNorm_any _ fn _ (jn.below s0.bel) hno hnt hnf).mono ?_; rintro e v1 ⟨u1, rfl, hu1, bb⟩; rw [HNN.out] at hu1; have s1 := s0.below bb; clear bb)
              refine hK3.out _ _ ?_ (fun hH3 => ?_)
              · exact s1.cells
              clear hK3 K3 hH
              refine wpAnyH_ready (rs := [5]) (by kernel_rfl) (by simp) ?_
              refine AllReadyH.cons rfl (fun K5 hK5 => ?_) AllReadyH.nil
              go_simp
              go_wp2_with (go_at_call 18; refine (evSame_any _ _ fn fn _ hu1 (jn.below s1.bel)).mono ?_; rintro e v2 ⟨rfl, bb⟩; rw [sameB_refl]; have s2 := s1.below bb; clear bb)
              refine hK5.out _ _ ?_ (fun hH5 => ?_)
              · exact s2.cells
              clear hK5 K5 hH3
              refine take_at (i := 6) (d := 74) (v := ?_) rfl rfl (by kernel_rfl) (by kernel_rfl) (by kernel_rfl) (fun _ _ _ h => h) (Or.inl ⟨by rfl, ?hy⟩) (by assumption) ?_
              case hy => (intro wS hSw; (try dsimp only at hSw); first | (go_simp; done) | (go_simp; with_reducible rfl))
              simp only [Act.put, List.setIfInBounds_toArray, List.set_cons_zero, List.set_cons_succ]
              refine take_at (i := 7) (d := 75) (v := ?_) rfl rfl (by kernel_rfl) (by kernel_rfl) (by kernel_rfl) (fun _ _ _ h => h) (Or.inl ⟨by rfl, ?hy⟩) (by assumption) ?_
              case hy => (intro wS hSw; (try dsimp only at hSw); first | (go_simp; done) | (go_simp; with_reducible rfl))
              simp only [Act.put, List.setIfInBounds_toArray, List.set_cons_zero, List.set_cons_succ]
              refine take_at (i := 8) (d := 76) (v := ?_) rfl rfl (by kernel_rfl) (by kernel_rfl) (by kernel_rfl) (fun _ _ _ h => h) (Or.inl ⟨by rfl, ?hy⟩) (by assumption) ?_
              case hy => (intro wS hSw; (try dsimp only at hSw); first | (go_simp; done) | (go_simp; with_reducible rfl))
              simp only [Act.put, List.setIfInBounds_toArray, List.set_cons_zero, List.set_cons_succ]
              refine take_at (i := 10) (d := 78) (v := ?_) rfl rfl (by kernel_rfl) (by kernel_rfl) (by kernel_rfl) (fun _ _ _ h => h) (Or.inl ⟨by rfl, ?hy⟩) (by assumption) ?_
              case hy => (intro wS hSw; (try dsimp only at hSw); first | (go_simp; done) | (go_simp; with_reducible rfl))
              simp only [Act.put, List.setIfInBounds_toArray, List.set_cons_zero, List.set_cons_succ]
              refine wpAnyH_ready (rs := [9]) (by kernel_rfl) (by simp) ?_
              refine AllReadyH.cons rfl (fun K9 hK9 => ?_) AllReadyH.nil
              go_simp
              go_wp2_with (go_at_call 12; refine (evNorm_any _ ⟨fa.s, fa.t, fa.tags.reverse, fa.fs⟩ _ (jb.below s2.bel) hbo hbt hf).mono ?_; rintro e v3 ⟨u3, rfl, hu3, bb⟩; rw [HNB.out] at hu3; have s3 := s2.below bb; clear bb)
              refine hK9.out _ _ ?_ (fun hH9 => ?_)
              · exact s3.cells
              clear hK9 K9 hH5
              refine wpAnyH_ready (rs := [11]) (by kernel_rfl) (by simp) ?_
              refine AllReadyH.cons rfl (fun K11 hK11 => ?_) AllReadyH.nil
              go_simp
              go_wp2_with (go_at_call 18; refine (evSame_any _ _ fn fn _ hu3 (jn.below s3.bel)).mono ?_; rintro e v4 ⟨rfl, bb⟩; rw [sameB_refl]; have s4 := s3.below bb; clear bb)
              refine hK11.out _ _ ?_ (fun hH11 => ?_)
              · exact s4.cells
              clear hK11 K11 hH9
              refine take_at (i := 12) (d := 80) (v := ?_) rfl rfl (by kernel_rfl) (by kernel_rfl) (by kernel_rfl) (fun _ _ _ h => h) (Or.inl ⟨by rfl, ?hy⟩) (by assumption) ?_
              case hy => (intro wS hSw; (try dsimp only at hSw); first | (go_simp; done) | (go_simp; with_reducible rfl))
              simp only [Act.put, List.setIfInBounds_toArray, List.set_cons_zero, List.set_cons_succ]
              refine take_at (i := 13) (d := 81) (v := ?_) rfl rfl (by kernel_rfl) (by kernel_rfl) (by kernel_rfl) (fun _ _ _ h => h) (Or.inl ⟨by rfl, ?hy⟩) (by assumption) ?_
              case hy => (intro wS hSw; (try dsimp only at hSw); first | (go_simp; done) | (go_simp; with_reducible rfl))
              simp only [Act.put, List.setIfInBounds_toArray, List.set_cons_zero, List.set_cons_succ]
              refine take_at (i := 14) (d := 82) (v := ?_) rfl rfl (by kernel_rfl) (by kernel_rfl) (by kernel_rfl) (fun _ _ _ h => h) (Or.inl ⟨by rfl, ?hy⟩) (by assumption) ?_
              case hy => (intro wS hSw; (try dsimp only at hSw); first | (go_simp; done) | (go_simp; with_reducible rfl))
              simp only [Act.put, List.setIfInBounds_toArray, List.set_cons_zero, List.set_cons_succ]
              refine take_at (i := 15) (d := 83) (v := ?_) rfl rfl (by kernel_rfl) (by kernel_rfl) (by kernel_rfl) (fun _ _ _ h => h) (Or.inl ⟨by rfl, ?hy⟩) (by assumption) ?_
              case hy => (intro wS hSw; (try dsimp only at hSw); first | (go_simp; done) | (go_simp; with_reducible rfl))
              simp only [Act.put, List.setIfInBounds_toArray, List.set_cons_zero, List.set_cons_succ]
              refine take_at (i := 17) (d := 85) (v := ?_) rfl rfl (by kernel_rfl) (by kernel_rfl) (by kernel_rfl) (fun _ _ _ h => h) (Or.inl ⟨by rfl, ?hy⟩) (by assumption) ?_
              case hy => (intro wS hSw; (try dsimp only at hSw); first | (go_simp; done) | (go_simp; with_reducible rfl))
              simp only [Act.put, List.setIfInBounds_toArray, List.set_cons_zero, List.set_cons_succ]
              refine take_at (i := 18) (d := 86) (v := ?_) rfl rfl (by kernel_rfl) (by kernel_rfl) (by kernel_rfl) (fun _ _ _ h => h) (Or.inl ⟨by rfl, ?hy⟩) (by assumption) ?_
              case hy => (intro wS hSw; (try dsimp only at hSw); first | (go_simp; done) | (go_simp; with_reducible rfl))
              simp only [Act.put, List.setIfInBounds_toArray, List.set_cons_zero, List.set_cons_succ]
              refine wpAnyH_ready (rs := [16]) (by kernel_rfl) (by simp) ?_
              refine AllReadyH.cons rfl (fun K16 hK16 => ?_) AllReadyH.nil
              go_simp
              go_wp2_with (go_at_call 19; refine (evHas_any _ fn x _ (jn.below s4.bel)).mono ?_; rintro e v5 ⟨rfl, bb⟩; rw [HHN.out]; have s5 := s4.below bb; clear bb)
              refine hK16.out _ _ ?_ (fun hH16 => ?_)
              · exact s5.cells
              clear hK16 K16 hH11
              refine wpAnyH_ready (rs := [19]) (by kernel_rfl) (by simp) ?_
              refine AllReadyH.cons rfl (fun K19 hK19 => ?_) AllReadyH.nil
              go_simp
              go_wp2_with (go_at_call 19; refine (evHas_any _ fa x _ (ja.below s5.bel)).mono ?_; rintro e v6 ⟨rfl, bb⟩; rw [HHA.out]; have s6 := s5.below bb; clear bb)
              refine hK19.out _ _ ?_ (fun hH19 => ?_)
              · exact s6.cells
              clear hK19 K19 hH16
              refine take_at (i := 20) (d := 88) (v := ?_) rfl rfl (by kernel_rfl) (by kernel_rfl) (by kernel_rfl) (fun _ _ _ h => h) (Or.inl ⟨by rfl, ?hy⟩) (by assumption) ?_
              case hy => (intro wS hSw; (try dsimp only at hSw); first | (go_simp; done) | (go_simp; with_reducible rfl))
              simp only [Act.put, List.setIfInBounds_toArray, List.set_cons_zero, List.set_cons_succ]
              refine take_at (i := 21) (d := 89) (v := ?_) rfl rfl (by kernel_rfl) (by kernel_rfl) (by kernel_rfl) (fun _ _ _ h => h) (Or.inl ⟨by rfl, ?hy⟩) (by assumption) ?_
              case hy => (intro wS hSw; (try dsimp only at hSw); first | (go_simp; done) | (go_simp; with_reducible rfl))
              simp only [Act.put, List.setIfInBounds_toArray, List.set_cons_zero, List.set_cons_succ]
              refine take_at (i := 22) (d := 90) (v := ?_) rfl rfl (by kernel_rfl) (by kernel_rfl) (by kernel_rfl) (fun _ _ _ h => h) (Or.inl ⟨by rfl, ?hy⟩) (by assumption) ?_
              case hy => (intro wS hSw; (try dsimp only at hSw); first | (go_simp; done) | (go_simp; with_reducible rfl))
              simp only [Act.put, List.setIfInBounds_toArray, List.set_cons_zero, List.set_cons_succ]
              refine take_at (i := 23) (d := 91) (v := ?_) rfl rfl (by kernel_rfl) (by kernel_rfl) (by kernel_rfl) (fun _ _ _ h => h) (Or.inl ⟨by rfl, ?hy⟩) (by assumption) ?_
              case hy => (intro wS hSw; (try dsimp only at hSw); first | (go_simp; done) | (go_simp; with_reducible rfl))
              simp only [Act.put, List.setIfInBounds_toArray, List.set_cons_zero, List.set_cons_succ]
              refine wpAnyH_ready (rs := [24]) (by kernel_rfl) (by simp) ?_
              refine AllReadyH.cons rfl (fun K24 hK24 => ?_) AllReadyH.nil
              go_simp
              go_wp2_with (go_at_call 14; refine (evMay_any _ fa _ (ja.below s6.bel) hfo).mono ?_; rintro e v7 ⟨rfl, bb⟩; rw [HM.out]; have s7 := s6.below bb; clear bb)
              refine hK24.out _ _ ?_ (fun hH24 => ?_)
              · exact s7.cells
              clear hK24 K24 hH19
              refine take_at (i := 25) (d := 93) (v := ?_) rfl rfl (by kernel_rfl) (by kernel_rfl) (by kernel_rfl) (fun _ _ _ h => h) (Or.inl ⟨by rfl, ?hy⟩) (by assumption) ?_
              case hy => (intro wS hSw; (try dsimp only at hSw); first | (go_simp; done) | (go_simp; with_reducible rfl))
              simp only [Act.put, List.setIfInBounds_toArray, List.set_cons_zero, List.set_cons_succ]
              refine take_at (i := 26) (d := 94) (v := ?_) rfl rfl (by kernel_rfl) (by kernel_rfl) (by kernel_rfl) (fun _ _ _ h => h) (Or.inl ⟨by rfl, ?hy⟩) (by assumption) ?_
              case hy => (intro wS hSw; (try dsimp only at hSw); first | (go_simp; done) | (go_simp; with_reducible rfl))
              simp only [Act.put, List.setIfInBounds_toArray, List.set_cons_zero, List.set_cons_succ]
              refine take_at (i := 27) (d := 95) (v := undef) rfl rfl (by kernel_rfl) (by kernel_rfl) (by kernel_rfl) (fun _ _ _ h => h) (Or.inr ⟨by rfl, rfl⟩) (by assumption) ?_
              simp only [Act.put, List.setIfInBounds_toArray, List.set_cons_zero, List.set_cons_succ]
              refine take_at (i := 28) (d := 96) (v := undef) rfl rfl (by kernel_rfl) (by kernel_rfl) (by kernel_rfl) (fun _ _ _ h => h) (Or.inr ⟨by rfl, rfl⟩) (by assumption) ?_
              simp only [Act.put, List.setIfInBounds_toArray, List.set_cons_zero, List.set_cons_succ]
              refine take_at (i := 29) (d := 97) (v := undef) rfl rfl (by kernel_rfl) (by kernel_rfl) (by kernel_rfl) (fun _ _ _ h => h) (Or.inr ⟨by rfl, rfl⟩) (by assumption) ?_
              simp only [Act.put, List.setIfInBounds_toArray, List.set_cons_zero, List.set_cons_succ]
              refine take_at (i := 30) (d := 98) (v := ?_) rfl rfl (by kernel_rfl) (by kernel_rfl) (by kernel_rfl) (fun _ _ _ h => h) (Or.inl ⟨by rfl, ?hy⟩) (by assumption) ?_
              case hy => (intro wS hSw; (try dsimp only at hSw); first | (go_simp; done) | (go_simp; with_reducible rfl))
              simp only [Act.put, List.setIfInBounds_toArray, List.set_cons_zero, List.set_cons_succ]
              refine take_at (i := 31) (d := 99) (v := ?_) rfl rfl (by kernel_rfl) (by kernel_rfl) (by kernel_rfl) (fun _ _ _ h => h) (Or.inl ⟨by rfl, ?hy⟩) (by assumption) ?_
              case hy => (intro wS hSw; (try dsimp only at hSw); first | (go_simp; done) | (go_simp; with_reducible rfl))
              simp only [Act.put, List.setIfInBounds_toArray, List.set_cons_zero, List.set_cons_succ]
              refine take_at (i := 32) (d := 100) (v := ?_) rfl rfl (by kernel_rfl) (by kernel_rfl) (by kernel_rfl) (fun _ _ _ h => h) (Or.inl ⟨by rfl, ?hy⟩) (by assumption) ?_
              case hy => (intro wS hSw; (try dsimp only at hSw); first | (go_simp; done) | (go_simp; with_reducible rfl))
              simp only [Act.put, List.setIfInBounds_toArray, List.set_cons_zero, List.set_cons_succ]
              refine take_at (i := 33) (d := 101) (v := ?_) rfl rfl (by kernel_rfl) (by kernel_rfl) (by kernel_rfl) (fun _ _ _ h => h) (Or.inl ⟨by rfl, ?hy⟩) (by assumption) ?_
              case hy => (intro wS hSw; (try dsimp only at hSw); first | (go_simp; done) | (go_simp; with_reducible rfl))
              simp only [Act.put, List.setIfInBounds_toArray, List.set_cons_zero, List.set_cons_succ]
              refine wpAnyH_ready (rs := [34]) (by kernel_rfl) (by simp) ?_
              refine AllReadyH.cons rfl (fun K34 hK34 => ?_) AllReadyH.nil
              go_simp
              go_wp2_with (go_at_call 14; refine (evMay_any _ fa _ (ja.below s7.bel) hfo).mono ?_; rintro e v8 ⟨rfl, bb⟩; rw [HM.out]; have s8 := s7.below bb; clear bb)
              refine hK34.out _ _ ?_ (fun hH34 => ?_)
              · exact s8.cells
              clear hK34 K34 hH24
              refine take_at (i := 35) (d := 103) (v := ?_) rfl rfl (by kernel_rfl) (by kernel_rfl) (by kernel_rfl) (fun _ _ _ h => h) (Or.inl ⟨by rfl, ?hy⟩) (by assumption) ?_
              case hy => (intro wS hSw; (try dsimp only at hSw); first | (go_simp; done) | (go_simp; with_reducible rfl))
              simp only [Act.put, List.setIfInBounds_toArray, List.set_cons_zero, List.set_cons_succ]
              refine take_at (i := 36) (d := 104) (v := ?_) rfl rfl (by kernel_rfl) (by kernel_rfl) (by kernel_rfl) (fun _ _ _ h => h) (Or.inl ⟨by rfl, ?hy⟩) (by assumption) ?_
              case hy => (intro wS hSw; (try dsimp only at hSw); first | (go_simp; done) | (go_simp; with_reducible rfl))
              simp only [Act.put, List.setIfInBounds_toArray, List.set_cons_zero, List.set_cons_succ]
              refine take_at (i := 37) (d := 105) (v := ?_) rfl rfl (by kernel_rfl) (by kernel_rfl) (by kernel_rfl) (fun _ _ _ h => h) (Or.inl ⟨by rfl, ?hy⟩) (by assumption) ?_
              case hy => (intro wS hSw; (try dsimp only at hSw); first | (go_simp; done) | (go_simp; with_reducible rfl))
              simp only [Act.put, List.setIfInBounds_toArray, List.set_cons_zero, List.set_cons_succ]
              refine wpAnyH_ready (rs := [38]) (by kernel_rfl) (by simp) ?_
              refine AllReadyH.cons rfl (fun K38 hK38 => ?_) AllReadyH.nil
              go_simp
              go_wp2_with (go_at_call 14; refine (evMay_any _ fn _ (jn.below s8.bel) hno).mono ?_; rintro e v9 ⟨rfl, bb⟩; rw [HMN.out]; have s9 := s8.below bb; clear bb)
              refine hK38.out _ _ ?_ (fun hH38 => ?_)
              · exact s9.cells
              clear hK38 K38 hH34
              refine take_at (i := 39) (d := 107) (v := ?_) rfl rfl (by kernel_rfl) (by kernel_rfl) (by kernel_rfl) (fun _ _ _ h => h) (Or.inl ⟨by rfl, ?hy⟩) (by assumption) ?_
              case hy => (intro wS hSw; (try dsimp only at hSw); first | (go_simp; done) | (go_simp; with_reducible rfl))
              simp only [Act.put, List.setIfInBounds_toArray, List.set_cons_zero, List.set_cons_succ]
              refine take_at (i := 40) (d := 108) (v := ?_) rfl rfl (by kernel_rfl) (by kernel_rfl) (by kernel_rfl) (fun _ _ _ h => h) (Or.inl ⟨by rfl, ?hy⟩) (by assumption) ?_
              case hy => (intro wS hSw; (try dsimp only at hSw); first | (go_simp; done) | (go_simp; with_reducible rfl))
              simp only [Act.put, List.setIfInBounds_toArray, List.set_cons_zero, List.set_cons_succ]
              refine take_at (i := 41) (d := 109) (v := ?_) rfl rfl (by kernel_rfl) (by kernel_rfl) (by kernel_rfl) (fun _ _ _ h => h) (Or.inl ⟨by rfl, ?hy⟩) (by assumption) ?_
              case hy => (intro wS hSw; (try dsimp only at hSw); first | (go_simp; done) | (go_simp; with_reducible rfl))
              simp only [Act.put, List.setIfInBounds_toArray, List.set_cons_zero, List.set_cons_succ]
              refine take_at (i := 42) (d := 110) (v := ?_) rfl rfl (by kernel_rfl) (by kernel_rfl) (by kernel_rfl) (fun _ _ _ h => h) (Or.inl ⟨by rfl, ?hy⟩) (by assumption) ?_
              case hy => (intro wS hSw; (try dsimp only at hSw); first | (go_simp; done) | (go_simp; with_reducible rfl))
              simp only [Act.put, List.setIfInBounds_toArray, List.set_cons_zero, List.set_cons_succ]
              refine wpAnyH_ready (rs := [43]) (by kernel_rfl) (by simp) ?_
              refine AllReadyH.cons rfl (fun K43 hK43 => ?_) AllReadyH.nil
              go_simp
              go_wp2_with (go_at_call 14; refine (evMay_any _ fn _ (jn.below s9.bel) hno).mono ?_; rintro e v10 ⟨rfl, bb⟩; rw [HMN.out]; have s10 := s9.below bb; clear bb)
              refine hK43.out _ _ ?_ (fun hH43 => ?_)
              · exact s10.cells
              clear hK43 K43 hH38
              refine take_at (i := 44) (d := 112) (v := ?_) rfl rfl (by kernel_rfl) (by kernel_rfl) (by kernel_rfl) (fun _ _ _ h => h) (Or.inl ⟨by rfl, ?hy⟩) (by assumption) ?_
              case hy => (intro wS hSw; (try dsimp only at hSw); first | (go_simp; done) | (go_simp; with_reducible rfl))
              simp only [Act.put, List.setIfInBounds_toArray, List.set_cons_zero, List.set_cons_succ]
              refine take_at (i := 45) (d := 113) (v := ?_) rfl rfl (by kernel_rfl) (by kernel_rfl) (by kernel_rfl) (fun _ _ _ h => h) (Or.inl ⟨by rfl, ?hy⟩) (by assumption) ?_
              case hy => (intro wS hSw; (try dsimp only at hSw); first | (go_simp; done) | (go_simp; with_reducible rfl))
              simp only [Act.put, List.setIfInBounds_toArray, List.set_cons_zero, List.set_cons_succ]
              refine take_at (i := 46) (d := 114) (v := ?_) rfl rfl (by kernel_rfl) (by kernel_rfl) (by kernel_rfl) (fun _ _ _ h => h) (Or.inl ⟨by rfl, ?hy⟩) (by assumption) ?_
              case hy => (intro wS hSw; (try dsimp only at hSw); first | (go_simp; done) | (go_simp; with_reducible rfl))
              simp only [Act.put, List.setIfInBounds_toArray, List.set_cons_zero, List.set_cons_succ]
              refine take_at (i := 47) (d := 4) (v := ?_) rfl rfl (by kernel_rfl) (by kernel_rfl) (by kernel_rfl) (fun _ _ _ h => h) (Or.inl ⟨by rfl, ?hy⟩) (by assumption) ?_
              case hy => (intro wS hSw; (try dsimp only at hSw); first | (go_simp; done) | (go_simp; with_reducible rfl))
              simp only [Act.put, List.setIfInBounds_toArray, List.set_cons_zero, List.set_cons_succ]
              refine wpAnyH_done (by kernel_rfl) ?_ _
              go_wp2_with fail
              go_ret
              exact ⟨by simp, below_chain BW s10.bel⟩
          · have m0 : (mayE fa != 0) = true := by rw [bne_iff_ne]; exact h0
            have m1 : (mayE fa != 1) = true := by rw [bne_iff_ne]; exact h1
            generalize hM : mayE fa = M at *
            have HM := Go.Lib.hid hM
            clear hM h0 h1
            refine wp_region_held_drew (S := (fun w' => w'.cell? ⟨w.heap.size, 0, none⟩ = some (.string fa.s) ∧ w'.cell? ⟨w.heap.size, 1, none⟩ = some (.string fa.t) ∧ w'.cell? ⟨w.heap.size, 2, none⟩ = some (.slice C0 p0 cc0) ∧ w'.cell? ⟨w.heap.size, 3, none⟩ = some (.slice D0 q0 cd0) ∧ w'.cell? ⟨w5.heap.size, 0, none⟩ = some (.string fn.s) ∧ w'.cell? ⟨w5.heap.size, 1, none⟩ = some (.string fn.t) ∧ w'.cell? ⟨w5.heap.size, 2, none⟩ = some (.slice T nT cT) ∧ w'.cell? ⟨w5.heap.size, 3, none⟩ = some (.slice F nF cF) ∧ w'.cell? ⟨w6.heap.size, 0, none⟩ = some (.string fa.s) ∧ w'.cell? ⟨w6.heap.size, 1, none⟩ = some (.string fa.t) ∧ w'.cell? ⟨w6.heap.size, 2, none⟩ = some (.slice K p0 cK) ∧ w'.cell? ⟨w6.heap.size, 3, none⟩ = some (.slice D0 q0 cd0))) (by kernel_rfl) ?_ (fun hH => ?_)
            · exact s0.cells
            refine take_at (i := 0) (d := 68) (v := ?_) rfl rfl (by kernel_rfl) (by kernel_rfl) (by kernel_rfl) (fun _ _ _ h => h) (Or.inl ⟨by rfl, ?hy⟩) (by assumption) ?_
            case hy => (intro wS hSw; (try dsimp only at hSw); first | (go_simp; done) | (go_simp; with_reducible rfl))
            simp only [Act.put, List.setIfInBounds_toArray, List.set_cons_zero, List.set_cons_succ]
            refine take_at (i := 1) (d := 69) (v := ?_) rfl rfl (by kernel_rfl) (by kernel_rfl) (by kernel_rfl) (fun _ _ _ h => h) (Or.inl ⟨by rfl, ?hy⟩) (by assumption) ?_
            case hy => (intro wS hSw; (try dsimp only at hSw); first | (go_simp; done) | (go_simp; with_reducible rfl))
            simp only [Act.put, List.setIfInBounds_toArray, List.set_cons_zero, List.set_cons_succ]
            refine take_at (i := 2) (d := 70) (v := ?_) rfl rfl (by kernel_rfl) (by kernel_rfl) (by kernel_rfl) (fun _ _ _ h => h) (Or.inl ⟨by rfl, ?hy⟩) (by assumption) ?_
            case hy => (intro wS hSw; (try dsimp only at hSw); first | (go_simp; done) | (go_simp; with_reducible rfl))
            simp only [Act.put, List.setIfInBounds_toArray, List.set_cons_zero, List.set_cons_succ]
            refine take_at (i := 4) (d := 72) (v := ?_) rfl rfl (by kernel_rfl) (by kernel_rfl) (by kernel_rfl) (fun _ _ _ h => h) (Or.inl ⟨by rfl, ?hy⟩) (by assumption) ?_
            case hy => (intro wS hSw; (try dsimp only at hSw); first | (go_simp; done) | (go_simp; with_reducible rfl))
            simp only [Act.put, List.setIfInBounds_toArray, List.set_cons_zero, List.set_cons_succ]
            refine wpAnyH_ready (rs := [3]) (by kernel_rfl) (by simp) ?_
            refine AllReadyH.cons rfl (fun K3 hK3 => ?_) AllReadyH.nil
            go_simp
            go_wp2_with (go_at_call 12; refine (evNorm_any _ fn _ (jn.below s0.bel) hno hnt hnf).mono ?_; rintro e v1 ⟨u1, rfl, hu1, bb⟩; rw [HNN.out] at hu1; have s1 := s0.below bb; clear bb)
            refine hK3.out _ _ ?_ (fun hH3 => ?_)
            · exact s1.cells
            clear hK3 K3 hH
            refine wpAnyH_ready (rs := [5]) (by kernel_rfl) (by simp) ?_
            refine AllReadyH.cons rfl (fun K5 hK5 => ?_) AllReadyH.nil
            go_simp
            go_wp2_with (go_at_call 18; refine (evSame_any _ _ fn fn _ hu1 (jn.below s1.bel)).mono ?_; rintro e v2 ⟨rfl, bb⟩; rw [sameB_refl]; have s2 := s1.below bb; clear bb)
            refine hK5.out _ _ ?_ (fun hH5 => ?_)
            · exact s2.cells
            clear hK5 K5 hH3
            refine take_at (i := 6) (d := 74) (v := ?_) rfl rfl (by kernel_rfl) (by kernel_rfl) (by kernel_rfl) (fun _ _ _ h => h) (Or.inl ⟨by rfl, ?hy⟩) (by assumption) ?_
            case hy => (intro wS hSw; (try dsimp only at hSw); first | (go_simp; done) | (go_simp; with_reducible rfl))
            simp only [Act.put, List.setIfInBounds_toArray, List.set_cons_zero, List.set_cons_succ]
            refine take_at (i := 7) (d := 75) (v := ?_) rfl rfl (by kernel_rfl) (by kernel_rfl) (by kernel_rfl) (fun _ _ _ h => h) (Or.inl ⟨by rfl, ?hy⟩) (by assumption) ?_
            case hy => (intro wS hSw; (try dsimp only at hSw); first | (go_simp; done) | (go_simp; with_reducible rfl))
            simp only [Act.put, List.setIfInBounds_toArray, List.set_cons_zero, List.set_cons_succ]
            refine take_at (i := 8) (d := 76) (v := ?_) rfl rfl (by kernel_rfl) (by kernel_rfl) (by kernel_rfl) (fun _ _ _ h => h) (Or.inl ⟨by rfl, ?hy⟩) (by assumption) ?_
            case hy => (intro wS hSw; (try dsimp only at hSw); first | (go_simp; done) | (go_simp; with_reducible rfl))
            simp only [Act.put, List.setIfInBounds_toArray, List.set_cons_zero, List.set_cons_succ]
            refine take_at (i := 10) (d := 78) (v := ?_) rfl rfl (by kernel_rfl) (by kernel_rfl) (by kernel_rfl) (fun _ _ _ h => h) (Or.inl ⟨by rfl, ?hy⟩) (by assumption) ?_
            case hy => (intro wS hSw; (try dsimp only at hSw); first | (go_simp; done) | (go_simp; with_reducible rfl))
            simp only [Act.put, List.setIfInBounds_toArray, List.set_cons_zero, List.set_cons_succ]
            refine wpAnyH_ready (rs := [9]) (by kernel_rfl) (by simp) ?_
            refine AllReadyH.cons rfl (fun K9 hK9 => ?_) AllReadyH.nil
            go_simp
            go_wp2_with (go_at_call 12; refine (evNorm_any _ ⟨fa.s, fa.t, fa.tags.reverse, fa.fs⟩ _ (jb.below s2.bel) hbo hbt hf).mono ?_; rintro e v3 ⟨u3, rfl, hu3, bb⟩; rw [HNB.out] at hu3; have s3 := s2.below bb; clear bb)
            refine hK9.out _ _ ?_ (fun hH9 => ?_)
            · exact s3.cells
            clear hK9 K9 hH5
            refine wpAnyH_ready (rs := [11]) (by kernel_rfl) (by simp) ?_
            refine AllReadyH.cons rfl (fun K11 hK11 => ?_) AllReadyH.nil
            go_simp
            go_wp2_with (go_at_call 18; refine (evSame_any _ _ fn fn _ hu3 (jn.below s3.bel)).mono ?_; rintro e v4 ⟨rfl, bb⟩; rw [sameB_refl]; have s4 := s3.below bb; clear bb)
            refine hK11.out _ _ ?_ (fun hH11 => ?_)
            · exact s4.cells
            clear hK11 K11 hH9
            refine take_at (i := 12) (d := 80) (v := ?_) rfl rfl (by kernel_rfl) (by kernel_rfl) (by kernel_rfl) (fun _ _ _ h => h) (Or.inl ⟨by rfl, ?hy⟩) (by assumption) ?_
            case hy => (intro wS hSw; (try dsimp only at hSw); first | (go_simp; done) | (go_simp; with_reducible rfl))
            simp only [Act.put, List.setIfInBounds_toArray, List.set_cons_zero, List.set_cons_succ]
            refine take_at (i := 13) (d := 81) (v := ?_) rfl rfl (by kernel_rfl) (by kernel_rfl) (by kernel_rfl) (fun _ _ _ h => h) (Or.inl ⟨by rfl, ?hy⟩) (by assumption) ?_
            case hy => (intro wS hSw; (try dsimp only at hSw); first | (go_simp; done) | (go_simp; with_reducible rfl))
            simp only [Act.put, List.setIfInBounds_toArray, List.set_cons_zero, List.set_cons_succ]
            refine take_at (i := 14) (d := 82) (v := ?_) rfl rfl (by kernel_rfl) (by kernel_rfl) (by kernel_rfl) (fun _ _ _ h => h) (Or.inl ⟨by rfl, ?hy⟩) (by assumption) ?_
            case hy => (intro wS hSw; (try dsimp only at hSw); first | (go_simp; done) | (go_simp; with_reducible rfl))
            simp only [Act.put, List.setIfInBounds_toArray, List.set_cons_zero, List.set_cons_succ]
            refine take_at (i := 15) (d := 83) (v := ?_) rfl rfl (by kernel_rfl) (by kernel_rfl) (by kernel_rfl) (fun _ _ _ h => h) (Or.inl ⟨by rfl, ?hy⟩) (by assumption) ?_
            case hy => (intro wS hSw; (try dsimp only at hSw); first | (go_simp; done) | (go_simp; with_reducible rfl))
            simp only [Act.put, List.setIfInBounds_toArray, List.set_cons_zero, List.set_cons_succ]
            refine take_at (i := 17) (d := 85) (v := ?_) rfl rfl (by kernel_rfl) (by kernel_rfl) (by kernel_rfl) (fun _ _ _ h => h) (Or.inl ⟨by rfl, ?hy⟩) (by assumption) ?_
            case hy => (intro wS hSw; (try dsimp only at hSw); first | (go_simp; done) | (go_simp; with_reducible rfl))
            simp only [Act.put, List.setIfInBounds_toArray, List.set_cons_zero, List.set_cons_succ]
            refine take_at (i := 18) (d := 86) (v := ?_) rfl rfl (by kernel_rfl) (by kernel_rfl) (by kernel_rfl) (fun _ _ _ h => h) (Or.inl ⟨by rfl, ?hy⟩) (by assumption) ?_
            case hy => (intro wS hSw; (try dsimp only at hSw); first | (go_simp; done) | (go_simp; with_reducible rfl))
            simp only [Act.put, List.setIfInBounds_toArray, List.set_cons_zero, List.set_cons_succ]
            refine wpAnyH_ready (rs := [16]) (by kernel_rfl) (by simp) ?_
            refine AllReadyH.cons rfl (fun K16 hK16 => ?_) AllReadyH.nil
            go_simp
            go_wp2_with (go_at_call 19; refine (evHas_any _ fn x _ (jn.below s4.bel)).mono ?_; rintro e v5 ⟨rfl, bb⟩; rw [HHN.out]; have s5 := s4.below bb; clear bb)
            refine hK16.out _ _ ?_ (fun hH16 => ?_)
            · exact s5.cells
            clear hK16 K16 hH11
            refine wpAnyH_ready (rs := [19]) (by kernel_rfl) (by simp) ?_
            refine AllReadyH.cons rfl (fun K19 hK19 => ?_) AllReadyH.nil
            go_simp
            go_wp2_with (go_at_call 19; refine (evHas_any _ fa x _ (ja.below s5.bel)).mono ?_; rintro e v6 ⟨rfl, bb⟩; rw [HHA.out]; have s6 := s5.below bb; clear bb)
            refine hK19.out _ _ ?_ (fun hH19 => ?_)
            · exact s6.cells
            clear hK19 K19 hH16
            refine take_at (i := 20) (d := 88) (v := ?_) rfl rfl (by kernel_rfl) (by kernel_rfl) (by kernel_rfl) (fun _ _ _ h => h) (Or.inl ⟨by rfl, ?hy⟩) (by assumption) ?_
            case hy => (intro wS hSw; (try dsimp only at hSw); first | (go_simp; done) | (go_simp; with_reducible rfl))
            simp only [Act.put, List.setIfInBounds_toArray, List.set_cons_zero, List.set_cons_succ]
            refine take_at (i := 21) (d := 89) (v := ?_) rfl rfl (by kernel_rfl) (by kernel_rfl) (by kernel_rfl) (fun _ _ _ h => h) (Or.inl ⟨by rfl, ?hy⟩) (by assumption) ?_
            case hy => (intro wS hSw; (try dsimp only at hSw); first | (go_simp; done) | (go_simp; with_reducible rfl))
            simp only [Act.put, List.setIfInBounds_toArray, List.set_cons_zero, List.set_cons_succ]
            refine take_at (i := 22) (d := 90) (v := ?_) rfl rfl (by kernel_rfl) (by kernel_rfl) (by kernel_rfl) (fun _ _ _ h => h) (Or.inl ⟨by rfl, ?hy⟩) (by assumption) ?_
            case hy => (intro wS hSw; (try dsimp only at hSw); first | (go_simp; done) | (go_simp; with_reducible rfl))
            simp only [Act.put, List.setIfInBounds_toArray, List.set_cons_zero, List.set_cons_succ]
            refine take_at (i := 23) (d := 91) (v := ?_) rfl rfl (by kernel_rfl) (by kernel_rfl) (by kernel_rfl) (fun _ _ _ h => h) (Or.inl ⟨by rfl, ?hy⟩) (by assumption) ?_
            case hy => (intro wS hSw; (try dsimp only at hSw); first | (go_simp; done) | (go_simp; with_reducible rfl))
            simp only [Act.put, List.setIfInBounds_toArray, List.set_cons_zero, List.set_cons_succ]
            refine wpAnyH_ready (rs := [24]) (by kernel_rfl) (by simp) ?_
            refine AllReadyH.cons rfl (fun K24 hK24 => ?_) AllReadyH.nil
            go_simp
            go_wp2_with (go_at_call 14; refine (evMay_any _ fa _ (ja.below s6.bel) hfo).mono ?_; rintro e v7 ⟨rfl, bb⟩; rw [HM.out]; have s7 := s6.below bb; clear bb)
            refine hK24.out _ _ ?_ (fun hH24 => ?_)
            · exact s7.cells
            clear hK24 K24 hH19
            refine take_at (i := 25) (d := 93) (v := ?_) rfl rfl (by kernel_rfl) (by kernel_rfl) (by kernel_rfl) (fun _ _ _ h => h) (Or.inl ⟨by rfl, ?hy⟩) (by assumption) ?_
            case hy => (intro wS hSw; (try dsimp only at hSw); first | (go_simp; done) | (go_simp; with_reducible rfl))
            simp only [Act.put, List.setIfInBounds_toArray, List.set_cons_zero, List.set_cons_succ]
            refine take_at (i := 26) (d := 94) (v := ?_) rfl rfl (by kernel_rfl) (by kernel_rfl) (by kernel_rfl) (fun _ _ _ h => h) (Or.inl ⟨by rfl, ?hy⟩) (by assumption) ?_
            case hy => (intro wS hSw; (try dsimp only at hSw); first | (go_simp; done) | (go_simp; with_reducible rfl))
            simp only [Act.put, List.setIfInBounds_toArray, List.set_cons_zero, List.set_cons_succ]
            refine take_at (i := 27) (d := 95) (v := undef) rfl rfl (by kernel_rfl) (by kernel_rfl) (by kernel_rfl) (fun _ _ _ h => h) (Or.inr ⟨by rfl, rfl⟩) (by assumption) ?_
            simp only [Act.put, List.setIfInBounds_toArray, List.set_cons_zero, List.set_cons_succ]
            refine take_at (i := 28) (d := 96) (v := undef) rfl rfl (by kernel_rfl) (by kernel_rfl) (by kernel_rfl) (fun _ _ _ h => h) (Or.inr ⟨by rfl, rfl⟩) (by assumption) ?_
            simp only [Act.put, List.setIfInBounds_toArray, List.set_cons_zero, List.set_cons_succ]
            refine take_at (i := 29) (d := 97) (v := undef) rfl rfl (by kernel_rfl) (by kernel_rfl) (by kernel_rfl) (fun _ _ _ h => h) (Or.inr ⟨by rfl, rfl⟩) (by assumption) ?_
            simp only [Act.put, List.setIfInBounds_toArray, List.set_cons_zero, List.set_cons_succ]
            refine take_at (i := 30) (d := 98) (v := ?_) rfl rfl (by kernel_rfl) (by kernel_rfl) (by kernel_rfl) (fun _ _ _ h => h) (Or.inl ⟨by rfl, ?hy⟩) (by assumption) ?_
            case hy => (intro wS hSw; (try dsimp only at hSw); first | (go_simp; done) | (go_simp; with_reducible rfl))
            simp only [Act.put, List.setIfInBounds_toArray, List.set_cons_zero, List.set_cons_succ]
            refine take_at (i := 31) (d := 99) (v := ?_) rfl rfl (by kernel_rfl) (by kernel_rfl) (by kernel_rfl) (fun _ _ _ h => h) (Or.inl ⟨by rfl, ?hy⟩) (by assumption) ?_
            case hy => (intro wS hSw; (try dsimp only at hSw); first | (go_simp; done) | (go_simp; with_reducible rfl))
            simp only [Act.put, List.setIfInBounds_toArray, List.set_cons_zero, List.set_cons_succ]
            refine take_at (i := 32) (d := 100) (v := ?_) rfl rfl (by kernel_rfl) (by kernel_rfl) (by kernel_rfl) (fun _ _ _ h => h) (Or.inl ⟨by rfl, ?hy⟩) (by assumption) ?_
            case hy => (intro wS hSw; (try dsimp only at hSw); first | (go_simp; done) | (go_simp; with_reducible rfl))
            simp only [Act.put, List.setIfInBounds_toArray, List.set_cons_zero, List.set_cons_succ]
            refine take_at (i := 33) (d := 101) (v := ?_) rfl rfl (by kernel_rfl) (by kernel_rfl) (by kernel_rfl) (fun _ _ _ h => h) (Or.inl ⟨by rfl, ?hy⟩) (by assumption) ?_
            case hy => (intro wS hSw; (try dsimp only at hSw); first | (go_simp; done) | (go_simp; with_reducible rfl))
            simp only [Act.put, List.setIfInBounds_toArray, List.set_cons_zero, List.set_cons_succ]
            refine wpAnyH_ready (rs := [34]) (by kernel_rfl) (by simp) ?_
            refine AllReadyH.cons rfl (fun K34 hK34 => ?_) AllReadyH.nil
            go_simp
            go_wp2_with (go_at_call 14; refine (evMay_any _ fa _ (ja.below s7.bel) hfo).mono ?_; rintro e v8 ⟨rfl, bb⟩; rw [HM.out]; have s8 := s7.below bb; clear bb)
            refine hK34.out _ _ ?_ (fun hH34 => ?_)
            · exact s8.cells
            clear hK34 K34 hH24
            refine take_at (i := 35) (d := 103) (v := ?_) rfl rfl (by kernel_rfl) (by kernel_rfl) (by kernel_rfl) (fun _ _ _ h => h) (Or.inl ⟨by rfl, ?hy⟩) (by assumption) ?_
            case hy => (intro wS hSw; (try dsimp only at hSw); first | (go_simp; done) | (go_simp; with_reducible rfl))
            simp only [Act.put, List.setIfInBounds_toArray, List.set_cons_zero, List.set_cons_succ]
            refine take_at (i := 36) (d := 104) (v := ?_) rfl rfl (by kernel_rfl) (by kernel_rfl) (by kernel_rfl) (fun _ _ _ h => h) (Or.inl ⟨by rfl, ?hy⟩) (by assumption) ?_
            case hy => (intro wS hSw; (try dsimp only at hSw); first | (go_simp; done) | (go_simp; with_reducible rfl))
            simp only [Act.put, List.setIfInBounds_toArray, List.set_cons_zero, List.set_cons_succ]
            refine take_at (i := 37) (d := 105) (v := undef) rfl rfl (by kernel_rfl) (by kernel_rfl) (by kernel_rfl) (fun _ _ _ h => h) (Or.inr ⟨by rfl, rfl⟩) (by assumption) ?_
            simp only [Act.put, List.setIfInBounds_toArray, List.set_cons_zero, List.set_cons_succ]
            refine take_at (i := 38) (d := 106) (v := undef) rfl rfl (by kernel_rfl) (by kernel_rfl) (by kernel_rfl) (fun _ _ _ h => h) (Or.inr ⟨by rfl, rfl⟩) (by assumption) ?_
            simp only [Act.put, List.setIfInBounds_toArray, List.set_cons_zero, List.set_cons_succ]
            refine take_at (i := 39) (d := 107) (v := undef) rfl rfl (by kernel_rfl) (by kernel_rfl) (by kernel_rfl) (fun _ _ _ h => h) (Or.inr ⟨by rfl, rfl⟩) (by assumption) ?_
            simp only [Act.put, List.setIfInBounds_toArray, List.set_cons_zero, List.set_cons_succ]
            refine take_at (i := 40) (d := 108) (v := ?_) rfl rfl (by kernel_rfl) (by kernel_rfl) (by kernel_rfl) (fun _ _ _ h => h) (Or.inl ⟨by rfl, ?hy⟩) (by assumption) ?_
            case hy => (intro wS hSw; (try dsimp only at hSw); first | (go_simp; done) | (go_simp; with_reducible rfl))
            simp only [Act.put, List.setIfInBounds_toArray, List.set_cons_zero, List.set_cons_succ]
            refine take_at (i := 41) (d := 109) (v := ?_) rfl rfl (by kernel_rfl) (by kernel_rfl) (by kernel_rfl) (fun _ _ _ h => h) (Or.inl ⟨by rfl, ?hy⟩) (by assumption) ?_
            case hy => (intro wS hSw; (try dsimp only at hSw); first | (go_simp; done) | (go_simp; with_reducible rfl))
            simp only [Act.put, List.setIfInBounds_toArray, List.set_cons_zero, List.set_cons_succ]
            refine take_at (i := 42) (d := 110) (v := undef) rfl rfl (by kernel_rfl) (by kernel_rfl) (by kernel_rfl) (fun _ _ _ h => h) (Or.inr ⟨by rfl, rfl⟩) (by assumption) ?_
            simp only [Act.put, List.setIfInBounds_toArray, List.set_cons_zero, List.set_cons_succ]
            refine take_at (i := 43) (d := 111) (v := undef) rfl rfl (by kernel_rfl) (by kernel_rfl) (by kernel_rfl) (fun _ _ _ h => h) (Or.inr ⟨by rfl, rfl⟩) (by assumption) ?_
            simp only [Act.put, List.setIfInBounds_toArray, List.set_cons_zero, List.set_cons_succ]
            refine take_at (i := 44) (d := 112) (v := undef) rfl rfl (by kernel_rfl) (by kernel_rfl) (by kernel_rfl) (fun _ _ _ h => h) (Or.inr ⟨by rfl, rfl⟩) (by assumption) ?_
            simp only [Act.put, List.setIfInBounds_toArray, List.set_cons_zero, List.set_cons_succ]
            refine take_at (i := 45) (d := 113) (v := ?_) rfl rfl (by kernel_rfl) (by kernel_rfl) (by kernel_rfl) (fun _ _ _ h => h) (Or.inl ⟨by rfl, ?hy⟩) (by assumption) ?_
            case hy => (intro wS hSw; (try dsimp only at hSw); first | (go_simp; done) | (go_simp; with_reducible rfl))
            simp only [Act.put, List.setIfInBounds_toArray, List.set_cons_zero, List.set_cons_succ]
            refine take_at (i := 46) (d := 114) (v := ?_) rfl rfl (by kernel_rfl) (by kernel_rfl) (by kernel_rfl) (fun _ _ _ h => h) (Or.inl ⟨by rfl, ?hy⟩) (by assumption) ?_
            case hy => (intro wS hSw; (try dsimp only at hSw); first | (go_simp; done) | (go_simp; with_reducible rfl))
            simp only [Act.put, List.setIfInBounds_toArray, List.set_cons_zero, List.set_cons_succ]
            refine take_at (i := 47) (d := 4) (v := ?_) rfl rfl (by kernel_rfl) (by kernel_rfl) (by kernel_rfl) (fun _ _ _ h => h) (Or.inl ⟨by rfl, ?hy⟩) (by assumption) ?_
            case hy => (intro wS hSw; (try dsimp only at hSw); first | (go_simp; done) | (go_simp; with_reducible rfl))
            simp only [Act.put, List.setIfInBounds_toArray, List.set_cons_zero, List.set_cons_succ]
            refine wpAnyH_done (by kernel_rfl) ?_ _
            go_wp2_with fail
            go_ret
            exact ⟨by simp, below_chain BW s8.bel⟩
    | succ j =>
      obtain rfl : z = (j : Int) := by omega
      clear hz
      have stb := st6.below hb.bel
      have l2 := stb.e0.c2
      have m2 := hb.eb.c2
      obtain ⟨ba, oa, rfl, _, ka⟩ := RdS.at_ (RdC.below rC stb.bel) (by omega)
      have ka1 := ka j (by omega)
      have i1 : (j : Int) < p0 := by omega
      have i0 : (0 : Int) ≤ (j : Int) := by omega
      have wj : IntKind.i64.wrap ((j : Int) - 1) = (j : Int) - 1 := IntWalk.i64_in _ (by omega)
      have hd := drop_rev fa.tags j (by rw [LC.out]; omega)
      have hs : p0 - j = p0 - (j + 1) + 1 := by omega
      have HS := Go.Lib.hid hs
      have HDR := Go.Lib.hid hd
      clear ka hs hd
      generalize fa.tags.getD j ByteArray.empty = y at *
      have h63 : p0 - (j + 1) + 1 ≤ maxLen := by unfold maxLen; omega
      have hsz : (p0 - (j + 1) + 1) * 16 ≤ 140737488355328 := by omega
      have al : Below wr.heap.size wr (wr.alloc (.cells #[.string y] 9)).drew := ((Below.refl _ _).alloc (Nat.le_refl _) _).drew
      have o1 := OwnC.below hb.own al
      have d1 : RdC 1 (wr.alloc (.cells #[.string y] 9)).drew (some ⟨wr.heap.size, 0, none⟩) 1 1 (strs [y]) := RdC.drew (RdC.new wr 9 (strs [y]) rfl (by decide))
      have big := Nat.le_trans hb.big al.size
      have ka2 := bcell al ka1
      have l3 := bcell al l2
      have m3 := bcell al m2
      go_wp2_with fail
      go_region_law (refine step_append_cells (by rfl) (.tmp 29) (.tmp 35) 22 rfl 9 (.string ByteArray.empty) 16 Try.underlying22 string_info rfl (by decide) rfl rfl o1 d1 (strs_one [y]) h63 hsz big ?_; intro K8 c8 w8 o8 g8 _; obtain ⟨z8, k8, n8⟩ := hb.next (ks' := (fa.tags.drop j).reverse) (by rw [HDR.out, strs_append]; exact o8) g8)
      all_goals
        go_wp2_with fail
        go_roundw
        case rel => exact ⟨_, j, K8, c8, rfl, rfl, by omega, by rw [HS.out]; exact n8⟩
        case measure => simp [intOf]

section
variable {H : Type} {enc : TypeId × Value → H}
set_option maxRecDepth 100000 in
theorem norm_main (W : World) (base : Nat) (v0 v1 : Value) {d0 d1 : DataW H} {p0 p1 : List MemPlace} (o0 : Value.okWide Try.prog W .any base 25 v0) (o1 : Value.okWide Try.prog W .any base 9 v1)
    (h0 : DataW.Trod enc Try.prog W 0 (fun _ => true) true 25 v0 d0 p0) (h1 : DataW.Trod enc Try.prog W 0 (fun _ => true) true 9 v1 d1 p1) :
    Calls Try.prog 5 #[v0, v1] W fun e W' => e = .returned (.bool true) ∧ Below W.heap.size W W' := by
  obtain ⟨ea, ha, hok⟩ := op_event o0 h0
  obtain ⟨x, rfl, _⟩ := op_string Try.underlying9 o1 h1
  exact norm_walk v0 ea x W ha hok
end

end Go.Proofs.Ytgldheeplhcmcaa.EvLaw
