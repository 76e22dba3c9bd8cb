/-
  Walk of a statement of layer 6: QueryFits.
-/
import Derived.Test.YtfbooapgjhhjmaaQlLawE
import Derived.Test.YtfbooapgjhhjmaaQpApi
namespace Go.Proofs.Ytfbooapgjhhjmaa.QlLaw
open Go.RowKit Go.WideShapes Go.ChangeShapes Go.Proofs.Ytfbooapgjhhjmaa.MemRow Go.Proofs.Ytfbooapgjhhjmaa.Ev Go.Proofs.Ytfbooapgjhhjmaa.NameMath Go.Proofs.Ytfbooapgjhhjmaa.NameWalk Go.Proofs.Ytfbooapgjhhjmaa.EvWalk Go.Proofs.Ytfbooapgjhhjmaa.Qu Go.Proofs.Ytfbooapgjhhjmaa.QuWalk Go.Proofs.Ytfbooapgjhhjmaa.Open

/-- A query's box, and what is older. -/
structure QbAt (wr w : World) (vq : Value) : Prop where
  eq : QAt wr w.heap.size vq
  bel : Below w.heap.size w wr
section
variable {wr w w' : World} {vq : Value}
theorem QbAt.new (w : World) (vq : Value) : QbAt (w.alloc (.cells #[vq] 24)) w vq := ⟨QAt.new w vq, (Below.refl _ _).alloc (Nat.le_refl _) _⟩
theorem QbAt.below (h : QbAt wr w vq) (hb : Below wr.heap.size wr w') : QbAt w' w vq := ⟨h.eq.below hb, below_chain h.bel hb⟩
theorem QbAt.set (h : QbAt wr w vq) (x : Value) : QbAt (wr.setCell ⟨w.heap.size, 0, none⟩ x) w x := ⟨h.eq.set x, h.bel.setCell (Nat.le_refl _) x⟩
end

theorem clsF_one {w : World} : ∀ (q : List Cl) (cs : List Value), ClsR w q cs → ∀ v ∈ cs, v.oneCell' = true
  | [], cs, h, v, hv => by
    obtain rfl : cs = [] := h
    simp at hv
  | _ :: q, cs, ⟨T, nT, cT, Y, nY, cY, cs', e, _, _, h⟩, v, hv => by
    subst e
    simp only [List.mem_cons] at hv
    rcases hv with rfl | rfl | hv
    · rfl
    · rfl
    · exact clsF_one q cs' h v hv
theorem ClsR.take {w : World} : ∀ (q : List Cl) (cs : List Value) (i : Nat), ClsR w q cs → ClsR w (q.take i) (cs.take (i * 2))
  | [], cs, i, h => by
    obtain rfl : cs = [] := h
    simp only [List.take_nil]
    rfl
  | _ :: _, _, 0, _ => by
    simp only [List.take_zero, Nat.zero_mul]
    rfl
  | _ :: q, _, i + 1, ⟨T, nT, cT, Y, nY, cY, cs', rfl, o1, o2, h⟩ => by
    have e2 : (i + 1) * 2 = i * 2 + 1 + 1 := by omega
    rw [e2]
    exact ⟨T, nT, cT, Y, nY, cY, cs'.take (i * 2), rfl, o1, o2, ClsR.take q cs' i h⟩
theorem ClsR.drop {w : World} : ∀ (q : List Cl) (cs : List Value) (i : Nat), ClsR w q cs → ClsR w (q.drop i) (cs.drop (i * 2))
  | [], cs, i, h => by
    obtain rfl : cs = [] := h
    simp only [List.drop_nil]
    rfl
  | _ :: _, _, 0, h => by
    simp only [List.drop_zero, Nat.zero_mul]
    exact h
  | _ :: q, _, i + 1, ⟨_, _, _, _, _, _, cs', rfl, _, _, h⟩ => by
    have e2 : (i + 1) * 2 = i * 2 + 1 + 1 := by omega
    rw [e2]
    exact ClsR.drop q cs' i h
theorem ClsR.append {w : World} : ∀ (q r : List Cl) (cs ds : List Value), ClsR w q cs → ClsR w r ds → ClsR w (q ++ r) (cs ++ ds)
  | [], _, cs, _, h, h2 => by
    obtain rfl : cs = [] := h
    exact h2
  | _ :: q, r, _, ds, ⟨T, nT, cT, Y, nY, cY, cs', rfl, o1, o2, h⟩, h2 => ⟨T, nT, cT, Y, nY, cY, cs' ++ ds, rfl, o1, o2, ClsR.append q r cs' ds h h2⟩
/-- What stands behind a query's literal: its box, its clauses. -/
structure EndAt (w w8 W : World) (g : Nat) (A : Option Addr) (n c : Nat) (l : List Cl) : Prop where
  qa : QAt W g (.slice A n c)
  oq : OwnQ w W w8.heap.size A n c l
  bel : Below w8.heap.size w8 W
theorem EndAt.alloc {w w8 w12 : World} {A : Option Addr} {n c : Nat} {l : List Cl} (o : OwnQ w w12 w8.heap.size A n c l) (b : Below w8.heap.size w8 w12) : EndAt w w8 (w12.alloc (.cells #[.slice A n c] 24)) w12.heap.size A n c l := by
  have al : Below w12.heap.size w12 (w12.alloc (.cells #[.slice A n c] 24)) := (Below.refl _ _).alloc (Nat.le_refl _) _
  exact ⟨QAt.new w12 _, o.below al, below_chain b al⟩
theorem EndAt.set {w w8 w12 : World} {g : Nat} {A : Option Addr} {n c : Nat} {l : List Cl} {x : Value} (q : QAt w12 g x) (o : OwnQ w w12 w8.heap.size A n c l) (b : Below w8.heap.size w8 w12) (hg : w8.heap.size ≤ g) (hne : ∀ a, A = some a → a.block ≠ g) : EndAt w w8 (w12.setCell ⟨g, 0, none⟩ (.slice A n c)) g A n c l := by
  obtain ⟨cs, oc, hl, hc⟩ := o
  exact ⟨q.set _, ⟨cs, OwnC.grown oc (grownSet w12 g 0 _) (fun a ha e => hne a ha (Option.some.inj e)), hl, hc⟩, b.setCell (by show w8.heap.size ≤ g; exact hg) _⟩
/-- A row that has grown lies not at g, which is older and not where it lay. -/
theorem grown_off {A A' : Option Addr} {g sz : Nat} (e : A'.map (·.block) = A.map (·.block) ∨ A'.map (·.block) = some sz) (h : A.map (·.block) ≠ some g) (hg : g ≠ sz) : ∀ a, A' = some a → a.block ≠ g := by
  rintro a rfl he
  simp only [Option.map_some] at e
  rcases e with e | e
  · exact h (by rw [← e, he])
  · injection e with e; omega

theorem row_off {A : Option Addr} {g : Nat} (h : ∀ a, A = some a → a.block ≠ g) : some g ≠ A.map (·.block) := by
  cases A with
  | none => simp
  | some a =>
    intro e
    simp only [Option.map_some] at e
    exact h a rfl (Option.some.inj e).symm

theorem same_false (api : QApi) (v u : Value) (q r : List Cl) (w : World) (hv : IsQ w v q) (hu : IsQ w u r) (hqr : q ≠ r) : Calls Try.prog 17 #[v, u] w fun e w' => e = .returned (.bool false) ∧ Below w.heap.size w w' := by
  refine (api.same v u q r w hv hu).mono ?_
  rintro e w' ⟨R, hR, rfl, b⟩
  cases R with
  | false => exact ⟨rfl, b⟩
  | true => exact absurd (hR.1 rfl) hqr

set_option maxHeartbeats 8000000 in
set_option maxRecDepth 100000 in
theorem fits_walk (api : QApi) (v : Value) (q : List Cl) (at_ : Int) (w : World) (hv : IsQ w v q) (okq : QOk q) (ha : -9223372036854775808 ≤ at_ ∧ at_ ≤ 9223372036854775807) :
    Calls Try.prog 7 #[v, .int .i64 at_] w fun e w' => e = .returned (.bool true) ∧ Below w.heap.size w w' := by
  have hv0 := hv
  obtain ⟨A0, n0, c0, rfl, _⟩ := hv
  have s1 := QbAt.new w (.slice A0 n0 c0)
  go_enter Try.func7, Try.ntmps7
  go_wp2_with fail
  generalize w.alloc (.cells #[.slice A0 n0 c0] 24) = w1 at *
  refine (shownQ_any api _).mono ?_
  rintro e w2 ⟨rfl, b2⟩
  have s2 := s1.below b2
  have k0 := s2.eq.c0
  have hlt2 := s2.eq.lt
  clear s1 b2
  go_wp2_with fail
  refine (fewQ_any _ q w w2 hv0 s2.bel).mono ?_
  rintro e w3 ⟨A3, n3, c3, rfl, o3, b3⟩
  have s3 := s2.below b3
  have k0 := s3.eq.c0
  have z0 := s3.eq.frozen 0
  have s4 := s3.set (.slice A3 n3 c3)
  have o4 := ownQ_set (i := 0) (x := .slice A3 n3 c3) o3 (g := w.heap.size) (by omega)
  clear s2 b3 s3 o3
  go_upto_region 3 with (fail)
  generalize w3.setCell ⟨w.heap.size, 0, none⟩ (.slice A3 n3 c3) = w4 at *
  clear k0 z0
  have hql := fewQ_len q
  have htm := fewQ_terms q
  have hok := fewQ_ok okq
  have LQ := Go.Lib.hid o4.len
  have hn8 : n3 ≤ 8 := by rw [← LQ.out]; exact hql
  generalize fewQ q = fq at *
  have TA1 : Hid (∀ c ∈ fq, c.tags.length ≤ 100 ∧ c.types.length ≤ 100) := Go.Lib.hid fun c hc => by have := htm c hc; omega
  have la1 : Hid (fq.length ≤ 100) := Go.Lib.hid (by omega)
  clear htm hql
  have k0 := s4.eq.c0
  go_wp2_with fail
  refine (api.may _ fq w4 (OwnQ.isq o4 s4.bel) hok).mono ?_
  rintro e w5 ⟨rfl, b5⟩
  generalize hec : mayQ fq = ec
  have HE := Go.Lib.hid hec
  clear hec
  have s5 := s4.below b5
  have o5 := o4.below b5
  clear s4 o4 b5 k0
  have k0 := s5.eq.c0
  go_wp2_with fail
  refine (api.norm _ fq w5 (OwnQ.isq o5 s5.bel) hok la1.out TA1.out).mono ?_
  rintro e w7 ⟨un, rfl, in7, b7⟩
  have s7 := s5.below b7
  have o7 := o5.below b7
  clear s5 o5 b7 k0
  obtain ⟨N, nN, cN, rfl, rN⟩ := in7
  have qa := QAt.new w7 (.slice N nN cN)
  have al : Below w7.heap.size w7 (w7.alloc (.cells #[.slice N nN cN] 24)) := (Below.refl _ _).alloc (Nat.le_refl _) _
  have s8 := s7.below al
  have o8 := o7.below al
  have rN8 := rN.below al
  go_upto_region 5 with (fail)
  generalize w7.alloc (.cells #[.slice N nN cN] 24) = w8 at *
  generalize w7.heap.size = gn at *
  clear s7 o7 rN al
  have k0 := s8.eq.c0
  go_cut [5, 28] (fun hb cb wx => hb = .bool true ∧ w8 = wx ∧ ∃ B : Bool, cb = .bool B ∧ Hid (B = true ↔ ec = 0 ∧ 0 ≤ at_ ∧ at_ < n3))
  case first =>
    by_cases h0 : ec = 0
    · have h1 : (ec == 0) = true := by simp [h0]
      by_cases hA : 0 ≤ at_
      · by_cases hB : at_ < n3
        · have HH : Hid (true = true ↔ ec = 0 ∧ 0 ≤ at_ ∧ at_ < n3) := Go.Lib.hid ⟨fun _ => ⟨h0, hA, hB⟩, fun _ => rfl⟩
          clear h0
          go_wp2_with fail
          go_meet
          exact ⟨rfl, rfl, _, rfl, Go.Lib.hid ⟨fun _ => HH.out.1 trivial, fun _ => rfl⟩⟩
        · have HH : Hid (false = true ↔ ec = 0 ∧ 0 ≤ at_ ∧ at_ < n3) := Go.Lib.hid ⟨(fun h => by cases h), fun h => absurd h.2.2 hB⟩
          clear h0
          go_wp2_with fail
          go_meet
          exact ⟨rfl, rfl, _, rfl, HH⟩
      · have HH : Hid (false = true ↔ ec = 0 ∧ 0 ≤ at_ ∧ at_ < n3) := Go.Lib.hid ⟨(fun h => by cases h), fun h => absurd h.2.1 hA⟩
        clear h0
        go_wp2_with fail
        go_meet
        exact ⟨rfl, rfl, _, rfl, HH⟩
    · have h1 : (ec == 0) = false := by simp [h0]
      have HH : Hid (false = true ↔ ec = 0 ∧ 0 ≤ at_ ∧ at_ < n3) := Go.Lib.hid ⟨(fun h => by cases h), fun h => absurd h.1 h0⟩
      go_wp2_with fail
      go_meet
      exact ⟨rfl, rfl, _, rfl, HH⟩
  case rest =>
    obtain ⟨rfl, rfl, B, rfl, HB⟩ := hcut
    go_upto_if 28 with (fail)
    go_cut [5] (fun hb wx => hb = .bool true ∧ Below w8.heap.size w8 wx)
    case first =>
      cases B with
      | false =>
        go_wp2_with fail
        go_meet
        exact ⟨rfl, Below.refl _ _⟩
      | true =>
        obtain ⟨h0, hA, hB⟩ := HB.out.1 rfl
        obtain ⟨a, rfl⟩ : ∃ a : Nat, at_ = a := ⟨at_.toNat, by omega⟩
        subst h0
        have hB : a < n3 := by omega
        have i3 : IntKind.i64.wrap ((a : Int) + 1) = (a : Int) + 1 := IntWalk.i64_in _ (by omega)
        have LM := Go.Lib.hid (mayQ_less HE.out a)
        have LN := Go.Lib.hid (less_ne_q (q := fq) (i := a) (by rw [LQ.out]; exact hB))
        have okl : Hid (QOk (fq.take a ++ fq.drop (a + 1))) := Go.Lib.hid fun c hc => hok c (mem_without hc)
        have iq := OwnQ.isq o8 s8.bel
        obtain ⟨cs, oc, hcl, hcs⟩ := o8
        obtain ⟨q1, d1⟩ := slice_hi (P := Try.prog) 22 36 Try.underlying22 elem_clauses clause_size (OwnC.rd oc) (m := a) (by omega)
        obtain ⟨A1, q2, d2⟩ := slice_lo (P := Try.prog) 22 36 Try.underlying22 elem_clauses clause_size (OwnC.rd oc) (m := a + 1) (by omega)
        have q2' : ∀ W, (Instr.slice 22 (.slice A3 n3 c3) (some (.int .i64 ((a : Int) + 1))) none none).run Try.prog W = .ok (.slice A1 (n3 - (a + 1)) (c3 - (a + 1))) W := q2
        have t1 := ClsR.take fq cs a hcs
        have t2 := ClsR.drop fq cs (a + 1) hcs
        have al : Below w8.heap.size w8 (w8.alloc (.cells #[] 36)).drew := bel_drew ((Below.refl _ _).alloc (Nat.le_refl _) _)
        have o6 : OwnC 2 (w8.alloc (.cells #[] 36)).drew w8.heap.size 36 (some ⟨w8.heap.size, 0, none⟩) 0 0 [] := OwnC.below (OwnC.empty w8 36 (Nat.le_refl _)) (bel_drew (Below.refl _ _))
        have d6 := RdC.below d1 al
        have k6 := bcell al k0
        have be : Below (w8.alloc (.cells #[] 36)).heap.size (w8.alloc (.cells #[] 36)) ((w8.alloc (.cells #[] 36)).alloc (.cells #[.slice none 0 0] 24)).drew := bel_drew ((Below.refl _ _).alloc (Nat.le_refl _) _)
        have am : Below w8.heap.size w8 ((w8.alloc (.cells #[] 36)).alloc (.cells #[.slice none 0 0] 24)).drew := below_chain ((Below.refl _ _).alloc (Nat.le_refl _) _) be
        have o7 : OwnC 2 ((w8.alloc (.cells #[] 36)).alloc (.cells #[.slice none 0 0] 24)).drew w8.heap.size 36 (some ⟨w8.heap.size, 0, none⟩) 0 0 [] := OwnC.below (OwnC.empty w8 36 (Nat.le_refl _)) be
        have d7 := RdC.below d1 am
        have k7 := bcell am k0
        have bf : Below w8.heap.size w8 (w8.alloc (.cells #[.slice none 0 0] 24)) := (Below.refl _ _).alloc (Nat.le_refl _) _
        have bg : Below (w8.alloc (.cells #[.slice none 0 0] 24)).heap.size (w8.alloc (.cells #[.slice none 0 0] 24)) ((w8.alloc (.cells #[.slice none 0 0] 24)).alloc (.cells #[] 36)).drew := bel_drew ((Below.refl _ _).alloc (Nat.le_refl _) _)
        have an : Below w8.heap.size w8 ((w8.alloc (.cells #[.slice none 0 0] 24)).alloc (.cells #[] 36)).drew := below_chain bf bg
        have o8 : OwnC 2 ((w8.alloc (.cells #[.slice none 0 0] 24)).alloc (.cells #[] 36)).drew w8.heap.size 36 (some ⟨w8.heap.size + 1, 0, none⟩) 0 0 [] := by
          have h := OwnC.below (OwnC.empty (k := 2) (base := w8.heap.size) (w8.alloc (.cells #[.slice none 0 0] 24)) 36 bf.size) (bel_drew (Below.refl _ _))
          simpa using h
        have d8 := RdC.below d1 an
        have k8 := bcell an k0
        have h1a : 0 + a ≤ maxLen := by unfold maxLen; omega
        have h2a : (0 + a) * 48 ≤ 140737488355328 := by omega
        have h1b : 0 + a + (n3 - (a + 1)) ≤ maxLen := by unfold maxLen; omega
        have h2b : (0 + a + (n3 - (a + 1))) * 48 ≤ 140737488355328 := by omega
        have h1c : a + (n3 - (a + 1)) ≤ maxLen := by unfold maxLen; omega
        have h2c : (a + (n3 - (a + 1))) * 48 ≤ 140737488355328 := by omega
        have q7 : QAt ((w8.alloc (.cells #[] 36)).alloc (.cells #[.slice none 0 0] 24)).drew (w8.heap.size + 1) (.slice none 0 0) := by
          have h := QAt.new (w8.alloc (.cells #[] 36)) (.slice none 0 0)
          have e : (w8.alloc (.cells #[] 36)).heap.size = w8.heap.size + 1 := by simp
          rw [e] at h
          exact h
        have q8 : QAt ((w8.alloc (.cells #[.slice none 0 0] 24)).alloc (.cells #[] 36)).drew w8.heap.size (.slice none 0 0) := (QAt.new w8 (.slice none 0 0)).below bg
        have k9 : (w8.alloc (.cells #[.slice none 0 0] 24)).drew.cell? ⟨w.heap.size, 0, none⟩ = some (.slice A3 n3 c3) := bcell (bel_drew bf) k0
        clear be bf bg
        go_upto_region 6 with (fail)
        have hlen : Hid ((fq.take a ++ fq.drop (a + 1)).length = a + (n3 - (a + 1))) := Go.Lib.hid (by rw [List.length_append, List.length_take, List.length_drop, hcl]; omega)
        go_cut [8] (fun p wx => ∃ g A c, p = .pointer (some ⟨g, 0, none⟩) ∧ EndAt w w8 wx g A (a + (n3 - (a + 1))) c (fq.take a ++ fq.drop (a + 1)))
        case first =>
         go_region_law (first
          | (refine step_append_cells (by rfl) (.tmp 34) (.tmp 39) 22 rfl 36 (.agg #[.slice none 0 0, .slice none 0 0]) 48 Try.underlying22 clause_info rfl (by decide) rfl rfl o10' d10 (clsF_one _ _ t2) h1c h2c b10.size ?_; intro A12 c12 w12 o12 g12 e12; have b12 := below_grown_own o10' b10 g12 b10.size; have q12 : OwnQ w w12 w8.heap.size A12 (a + (n3 - (a + 1))) c12 (fq.take a ++ fq.drop (a + 1)) := ⟨_, o12, hlen.out, ClsR.append _ _ _ _ t1 t2⟩; first | (have q13 := qb.grown g12 nb; have z13 := q13.frozen 0; have k13 := q13.c0; have EA := EndAt.set q13 q12 b12 gb (grown_off e12 (Ne.symm nb) lb)) | (have EA := EndAt.alloc q12 b12))
          | (refine step_append_cells (by rfl) (.tmp 34) (.tmp 39) 22 rfl 36 (.agg #[.slice none 0 0, .slice none 0 0]) 48 Try.underlying22 clause_info rfl (by decide) rfl rfl o11' d11 (clsF_one _ _ t2) h1c h2c b11.size ?_; intro A12 c12 w12 o12 g12 e12; have b12 := below_grown_own o11' b11 g12 b11.size; have q12 : OwnQ w w12 w8.heap.size A12 (a + (n3 - (a + 1))) c12 (fq.take a ++ fq.drop (a + 1)) := ⟨_, o12, hlen.out, ClsR.append _ _ _ _ t1 t2⟩; have nb : some w10.heap.size ≠ A10.map (·.block) := row_off (fun x hx => Nat.ne_of_lt (OwnC.lt o10 x hx).2); have q13 := qx.grown g12 nb; have z13 := q13.frozen 0; have k13 := q13.c0; have EA := EndAt.set q13 q12 b12 b10.size (grown_off e12 (Ne.symm nb) (by simp)))
          | (refine step_append_cells (by rfl) (.tmp 29) (.tmp 33) 22 rfl 36 (.agg #[.slice none 0 0, .slice none 0 0]) 48 Try.underlying22 clause_info rfl (by decide) rfl rfl o6 d6 (clsF_one _ _ t1) h1a h2a al.size ?_; intro A10 c10 w10 o10 g10 e10; have b10 := below_grown_own o6 al g10 al.size; have k10 := bcell b10 k0; have d10 := RdC.below d2 b10; have o10' := o10; rw [Nat.zero_add, List.nil_append] at o10'; have bx := (Below.refl w10.heap.size w10).alloc (Nat.le_refl _) (.cells #[.slice none 0 0] 24); have b11 := below_chain b10 bx; have o11' := OwnC.below o10' bx; have d11 := RdC.below d2 b11; have k11 := bcell b11 k0; have qx := QAt.new w10 (.slice none 0 0))
          | (refine step_append_cells (by rfl) (.tmp 29) (.tmp 33) 22 rfl 36 (.agg #[.slice none 0 0, .slice none 0 0]) 48 Try.underlying22 clause_info rfl (by decide) rfl rfl o7 d7 (clsF_one _ _ t1) h1a h2a am.size ?_; intro A10 c10 w10 o10 g10 e10; have b10 := below_grown_own o7 am g10 am.size; have k10 := bcell b10 k0; have d10 := RdC.below d2 b10; have o10' := o10; rw [Nat.zero_add, List.nil_append] at o10'; have qb := q7.grown g10 (by simp); have nb : some (w8.heap.size + 1) ≠ A10.map (·.block) := row_off (grown_off e10 (by simp) (by simp)); have gb : w8.heap.size ≤ w8.heap.size + 1 := Nat.le_succ _; have lb : w8.heap.size + 1 ≠ w10.heap.size := Nat.ne_of_lt qb.lt)
          | (refine step_append_cells (by rfl) (.tmp 29) (.tmp 33) 22 rfl 36 (.agg #[.slice none 0 0, .slice none 0 0]) 48 Try.underlying22 clause_info rfl (by decide) rfl rfl o8 d8 (clsF_one _ _ t1) h1a h2a an.size ?_; intro A10 c10 w10 o10 g10 e10; have b10 := below_grown_own o8 an g10 an.size; have k10 := bcell b10 k0; have d10 := RdC.below d2 b10; have o10' := o10; rw [Nat.zero_add, List.nil_append] at o10'; have qb := q8.grown g10 (by simp); have nb : some w8.heap.size ≠ A10.map (·.block) := row_off (grown_off e10 (by simp) (by simp; omega)); have gb : w8.heap.size ≤ w8.heap.size := Nat.le_refl _; have lb : w8.heap.size ≠ w10.heap.size := Nat.ne_of_lt qb.lt))
         all_goals
          go_wp2_with fail
          go_meet
          exact ⟨_, _, _, rfl, EA⟩
        case rest =>
          obtain ⟨g, A, c, rfl, EA⟩ := hcut
          have sE := s8.below EA.bel
          have kE := EA.qa.c0
          have kF := sE.eq.c0
          have iE := OwnQ.isq EA.oq sE.bel
          have iF := iq.below EA.bel
          have bE := EA.bel
          have LL := LM.out
          clear t1 t2 q1 q2 q2' d1 d2 al o6 d6 k6 am o7 d7 k7 an o8 d8 k8 h1a h2a h1b h2b h1c h2c q7 q8 k9 oc hcs hcl i3 k0 sE EA
          generalize hlq : fq.take a ++ fq.drop (a + 1) = lq at *
          go_wp2_with fail
          refine (api.may _ lq wc iE okl.out).mono ?_
          rintro e wy ⟨rfl, b9⟩
          rw [LL]
          have kE' := bcell b9 kE
          have kF' := bcell b9 kF
          have jE := iE.below b9
          have jF := iF.below b9
          have bF := below_chain bE b9
          clear kE kF iE iF bE b9
          go_wp2_with fail
          refine (same_false api _ _ lq fq wy jE jF LN.out).mono ?_
          rintro e wz ⟨rfl, b10⟩
          have bG := below_chain bF b10
          clear jE jF b10 bF kE' kF'
          go_wp2_with fail
          go_meet
          exact ⟨rfl, bG⟩
    case rest =>
      obtain ⟨rfl, bc⟩ := hcut
      have sR := s8.below bc
      have oR := o8.below bc
      have rNR := rN8.below bc
      have kn := (qa.below bc).c0
      have kq := sR.eq.c0
      have iq := OwnQ.isq oR sR.bel
      have jn : IsQ wc (.agg #[.slice N nN cN]) (normQ fq) := ⟨_, _, _, rfl, rNR⟩
      have okn := normQ_ok hok
      have BR := sR.bel
      clear s8 o8 rN8 qa k0 bc sR oR rNR HB TA1 la1
      by_cases h0 : ec = 0
      · subst h0
        have HN := Go.Lib.hid (normQ_may HE.out)
        clear HE okn
        go_wp2_with (refine (same_true api _ _ (normQ fq) fq wc jn iq HN.out).mono ?_; rintro e wd ⟨rfl, bd⟩; have kq2 := bcell bd kq; have iq2 := iq.below bd; have BD := below_chain BR bd; clear jn iq kq kn bd BR)
        go_wp2_with (refine (same_true api _ _ fq fq wd iq2 iq2 rfl).mono ?_; rintro e we ⟨rfl, be⟩; have BE := below_chain BD be; clear iq2 kq2 be BD)
        go_ret
        exact ⟨rfl, BE⟩
      · by_cases h1 : ec = 1
        · subst h1
          have HM := Go.Lib.hid (mayQ_norm HE.out)
          clear HE h0
          have cm := api.may _ (normQ fq) wc jn okn
          rw [HM.out] at cm
          have CM := Go.Lib.hid cm
          clear cm jn okn
          go_wp2_with (refine (CM.out).mono ?_; rintro e wd ⟨rfl, bd⟩; have kq2 := bcell bd kq; have iq2 := iq.below bd; have BD := below_chain BR bd; clear iq kq kn bd BR CM)
          go_wp2_with (refine (same_true api _ _ fq fq wd iq2 iq2 rfl).mono ?_; rintro e we ⟨rfl, be⟩; have BE := below_chain BD be; clear iq2 kq2 be BD)
          go_ret
          exact ⟨rfl, BE⟩
        · have e0 : (ec != 0) = true := by rw [bne_iff_ne]; exact h0
          have e1 : (ec != 1) = true := by rw [bne_iff_ne]; exact h1
          clear HE h0 h1 jn okn kn
          go_wp2_with (refine (same_true api _ _ fq fq wc iq iq rfl).mono ?_; rintro e we ⟨rfl, be⟩; have BE := below_chain BR be; clear iq kq be BR)
          go_ret
          exact ⟨rfl, BE⟩

section
variable {H : Type} {enc : TypeId × Value → H}
set_option maxRecDepth 100000 in
theorem fits_main (W : World) (base : Nat) (v0 v1 : Value) {d0 d1 : DataW H} {p0 p1 : List MemPlace} (o0 : Value.okWide Try.prog W .any base 24 v0) (o1 : Value.okWide Try.prog W .any base 3 v1)
    (h0 : DataW.Trod enc Try.prog W 0 (fun _ => true) true 24 v0 d0 p0) (h1 : DataW.Trod enc Try.prog W 0 (fun _ => true) true 3 v1 d1 p1) :
    Calls Try.prog 7 #[v0, v1] W fun e W' => e = .returned (.bool true) ∧ Below W.heap.size W W' := by
  obtain ⟨q, hv, okq⟩ := op_query o0 h0
  obtain ⟨n, rfl, hn⟩ := op_i64 Try.underlying3 o1 h1
  exact fits_walk qApi v0 q n W hv okq hn
end

end Go.Proofs.Ytfbooapgjhhjmaa.QlLaw
