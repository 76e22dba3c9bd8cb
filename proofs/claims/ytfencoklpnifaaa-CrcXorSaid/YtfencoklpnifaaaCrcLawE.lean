/-
  Walks of the statements of layer 2: CrcXor.
-/
import Derived.Test.YtfencoklpnifaaaCrcLawC
import Derived.Deep.RegionHeldLaw
import Derived.WalkLawsBesides
import Derived.Deep.DeepCutAuto
namespace Go.Proofs.Ytfencoklpnifaaa.CrcLaw
open Go.RowKit Go.WideShapes Go.ChangeShapes Go.Proofs.Ytfencoklpnifaaa.CrcMath Go.Proofs.Ytfencoklpnifaaa.NumMem Go.Proofs.Ytfencoklpnifaaa.CrcWalk Go.Proofs.Ytfencoklpnifaaa.Open

/-- Two slices lie in two blocks. -/
def Apart (A B : Option Addr) : Prop := ∀ g h, A.map (·.block) = some g → B.map (·.block) = some h → g ≠ h

section
variable {P : Program} {w : World} {base : Nat} {e : TypeId} {A A2 : Option Addr} {n cap n2 cap2 : Nat} {l l2 : List UInt8}

/-- append of one byte onto a row of the call's own, another row beside it. -/
theorem step_append_apart {ops : Array Oper} {o : Oper} {a : Act} {K : Act → World → Prop} {Q : Exit → Act → World → Prop} {E : Prop} (hw : Region.wanted o (yielded ops a.tmps) = true) (s x : Operand) (T : TypeId)
    (ho : o.op = .call { callee := .builtin .append, args := #[s, x], argTypes := #[T, T] }) (hT : P.underlying T = some (.slice e)) (hi : (P.info? e).map (fun i => (i.zero, i.size, i.bytes)) = some (some (.int .u8 0), 1, 1))
    (hs : a.eval s = .slice A n cap) {ad : Addr} {c : Nat} {u : UInt8} (hx : a.eval x = .slice (some ad) 1 c) (hown : Own w base e A n cap l) (hown2 : Own w base e A2 n2 cap2 l2) (hap : Apart A A2)
    (hsrc : w.cell? ad = some (.int .u8 (u.toNat : Int))) (hsz : n + 1 ≤ 140737488355328) (hbase : base ≤ w.heap.size) (w0 : World) (hb : Below base w0 w)
    (h : ∀ A' cap' w', Own w' base e A' (n + 1) cap' (l ++ [u]) → Own w' base e A2 n2 cap2 l2 → Apart A' A2 → Below base w0 w' → K (a.put o.dst (.slice A' (n + 1) cap')) w') : if Region.wanted o (yielded ops a.tmps) = true then Oper.wp P o a w K Q else E := by
  obtain ⟨i, h1, h2, h3, h4⟩ : ∃ i, P.info? e = some i ∧ i.zero = some (.int .u8 0) ∧ i.size = 1 ∧ i.bytes = 1 := by
    cases hq : P.info? e with
    | none => simp [hq] at hi
    | some i => simp [hq] at hi; exact ⟨i, rfl, hi.1, hi.2.1, hi.2.2⟩
  obtain ⟨v', w2, hrun, hwo, hg, _, hbl⟩ := run_append_own_at (P := P) w base T o.type e i (.int .u8 0) 1 1 hT h1 h2 h3 h4 rfl (by omega) _ n _ hown ad 1 c (cellsOf [u]) rfl (fun j v hj => by
      have hj1 := (List.getElem?_eq_some_iff.1 hj).1
      obtain rfl : j = 0 := by simpa [cellsOf] using hj1
      have hsp := World.cell?_spot hsrc
      have e0 : ad.add 0 = ad := by unfold Addr.add; split <;> simp_all
      rw [e0, hsrc]
      simpa [cellsOf] using hj) (cellsOf_one [u]) (by unfold maxLen; omega) (by omega) hbase
  have hlt := World.ownsRow.lt hown
  have hlt2 := World.ownsRow.lt hown2
  have hk : Own w2 base e A2 n2 cap2 l2 := World.ownsRow.kept hown2 hg (by
    cases A with
    | none => cases A2 <;> simp [Value.ownBlock]
    | some p =>
      cases A2 with
      | none => simp [Value.ownBlock]
      | some q => right; simp only [Value.ownBlock]; intro hh; injection hh with hh; exact hap p.block q.block rfl rfl hh.symm)
  have hB : Below base w0 w2 := hb.grown hg hbase (fun g hg => (hlt g hg).1)
  obtain ⟨A', c', rfl⟩ : ∃ A' c', v' = .slice A' (n + 1) c' := by
    rcases hwo.2 with ⟨_, hn⟩ | ⟨g, c2, cur, rfl, _⟩
    · omega
    · exact ⟨_, _, rfl⟩
  have hap' : Apart A' A2 := by
    intro g h hg1 hg2
    cases A' with
    | none => simp at hg1
    | some p =>
      cases A2 with
      | none => simp at hg2
      | some q =>
        simp only [Option.map_some, Option.some.injEq] at hg1 hg2
        subst hg1 hg2
        rcases hbl with hb1 | hb1
        · cases A with
          | none => simp [Value.ownBlock] at hb1
          | some r =>
            simp only [Value.ownBlock, Option.some.injEq] at hb1
            rw [hb1]
            exact hap r.block q.block rfl rfl
        · simp only [Value.ownBlock, Option.some.injEq] at hb1
          have := (hlt2 q.block rfl).2
          omega
  have hown' : Own w2 base e A' (n + 1) c' (l ++ [u]) := by
    unfold Own
    rw [cellsOf_append]
    exact hwo
  rw [if_pos hw]
  unfold Oper.wp execOp
  simp only [ho, resolve, invoke, builtin, Sem.run_bind, Sem.run_pure, Result.andThen_ok, List.map_toArray, List.map_cons, List.map_nil, hs, hx, hrun]
  exact h A' c' w2 hown' hk hap' hB
end

/-- The first bytes of two rows, turned by each other. -/
def mixed (l q : List UInt8) (k : Nat) : List UInt8 := (List.zipWith (· ^^^ ·) l q).take k
theorem mixed_zero (l q : List UInt8) : mixed l q 0 = [] := rfl
theorem mixed_step (l q : List UInt8) (k : Nat) (h1 : k < l.length) (h2 : k < q.length) : mixed l q (k + 1) = mixed l q k ++ [l.getD k 0 ^^^ q.getD k 0] := by
  unfold mixed
  have hz : k < (List.zipWith (· ^^^ ·) l q).length := by rw [List.length_zipWith]; omega
  rw [List.take_succ_eq_append_getElem hz]
  congr 2
  simp [List.getD, List.getElem?_eq_getElem h1, List.getElem?_eq_getElem h2]
theorem mixed_all (l q : List UInt8) (k : Nat) : mixed l q k = List.zipWith (· ^^^ ·) (l.take k) (q.take k) := by
  unfold mixed
  rw [List.take_zipWith]
theorem mixed_sum (l k q : List UInt8) (n : Nat) (h1 : n ≤ l.length) (h2 : n ≤ k.length) (h3 : n ≤ q.length) : sum (l.take n) ^^^ sum (mixed l q n) = sum (k.take n) ^^^ sum (mixed k q n) := by
  rw [mixed_all l q n, mixed_all k q n, sum_change _ _ (by rw [List.length_take, List.length_take]; omega), sum_change _ _ (by rw [List.length_take, List.length_take]; omega)]

theorem run_min4 {P : Program} (ts : Array TypeId) (ty : TypeId) (n m p N : Nat) (h : N = min (min (min n m) p) 200) (w : World) :
    (Builtin.min_ ts ty #[.int .i64 (n : Int), .int .i64 (m : Int), .int .i64 (p : Int), .int .i64 200]).run P w = .ok (.int .i64 (N : Int)) w := by
  subst h
  by_cases h1 : m < n <;> by_cases h2 : p < min n m <;> by_cases h3 : 200 < min (min n m) p <;> simp [Builtin.min_, Builtin.min2] <;> (repeat' split) <;> omega

theorem bcell {W w1 : World} (hb : Below W.heap.size W w1) {b o : Nat} {v : Value} (hc : W.cell? ⟨b, o, none⟩ = some v) : w1.cell? ⟨b, o, none⟩ = some v := (hb.cell (p := ⟨b, o, none⟩) (World.block_lt_of_cell? W _ hc)).trans hc
/-- A byte of a slice that reads. -/
theorem Rd.byte {w : World} {b o n cap : Nat} {l : List UInt8} (h : Rd w (some ⟨b, o, none⟩) n cap l) {i : Nat} (hi : i < n) : w.cell? ⟨b, o + i, none⟩ = some (.int .u8 ((l.getD i 0).toNat : Int)) := by
  obtain ⟨b', o', e, _, hc⟩ := h.at_ (by omega)
  injection e with e
  injection e with e1 e2
  subst e1 e2
  exact hc i hi

/-- What stands at the head of a round. -/
structure MixAt (wr w3 : World) (X Y : Option Addr) (k cx cy : Nat) (lx ly : List UInt8) : Prop where
  ox : Own wr w3.heap.size 5 X k cx lx
  oy : Own wr w3.heap.size 5 Y k cy ly
  ap : Apart X Y
  bel : Below w3.heap.size w3 wr

set_option maxRecDepth 100000 in
set_option maxHeartbeats 8000000 in
theorem xor_walk (A B C : Option Addr) (n m p ca cb cc : Nat) (l k q : List UInt8) (w : World) (hl : Rd w A n ca l) (hk : Rd w B m cb k) (hq : Rd w C p cc q) :
    Calls Try.prog 8 #[.slice A n ca, .slice B m cb, .slice C p cc] w fun e w' => e = .returned (.bool true) ∧ Below w.heap.size w w' := by
  have hn := hl.le
  have hm := hk.le
  have hp := hq.le
  unfold maxLen at hn hm hp
  have hz := tab_zero
  obtain ⟨N, hN⟩ : ∃ N : Nat, N = min (min (min n m) p) 200 := ⟨_, rfl⟩
  have hmin := fun w => run_min4 (P := Try.prog) #[3, 3, 3, 3] 3 n m p N hN w
  have n1 : N ≤ n := by omega
  have n2 : N ≤ m := by omega
  have n3 : N ≤ p := by omega
  have n4 : N ≤ 200 := by omega
  clear hN
  go_enter Try.func8, Try.ntmps8
  go_wp2_with fail
  refine (shown_any _).mono ?_
  rintro e w1 ⟨rfl, B1⟩
  go_wp2_with fail
  refine (new_any _).mono ?_
  rintro e w2 ⟨rfl, b2⟩
  have B2 := below_chain (below_chain B1 b2) (tab_below w2)
  have t2 := Tab.new w2
  clear B1 b2
  go_wp2_with (with_reducible refine wpList_table rfl (.tmp 8) (.tmp 14) rfl rfl rfl ?_)
  have H3 := Go.Lib.hid (show (w2.alloc (.cells tab 27)).heap.size = w2.heap.size + 1 by simp)
  generalize hwx : w2.alloc (.cells tab 27) = w3 at *
  clear hwx hz hmin
  have ra := hl.below B2
  have rb := hk.below B2
  have rc := hq.below B2
  clear hl hk hq
  have la := ra.len
  have lb := rb.len
  have lc := rc.len
  have HM := Go.Lib.hid (mixed_sum l k q N (by omega) (by omega) (by omega))
  have LA := Go.Lib.hid la
  have LB := Go.Lib.hid lb
  have LC := Go.Lib.hid lc
  clear la lb lc
  go_loopw [10, 11, 12] (fun x y i wr => ∃ (j : Nat) (X Y : Option Addr) (cx cy : Nat), j ≤ N ∧ x = .slice X j cx ∧ y = .slice Y j cy ∧ i = .int .i64 j ∧ MixAt wr w3 X Y j cx cy (mixed l q j) (mixed k q j)) (fun _ _ i _ => N - (intOf i).toNat)
  case atStart =>
    refine ⟨0, _, _, 0, 0, Nat.zero_le _, rfl, rfl, rfl, ?_⟩
    rw [mixed_zero, mixed_zero]
    have o1 := (Own.empty w3 5 (Nat.le_refl _)).below ((Below.refl (w3.alloc (.cells #[] 5)).heap.size _).alloc (Nat.le_refl _) (.cells #[] 5))
    have o2 := Own.empty (base := w3.heap.size) (w3.alloc (.cells #[] 5)) 5 (by simp)
    have e1 : (some ⟨w3.heap.size, 0, none⟩ : Option Addr) = some ⟨w2.heap.size + 1, 0, none⟩ := by rw [H3.out]
    have e2 : (some ⟨(w3.alloc (.cells #[] 5)).heap.size, 0, none⟩ : Option Addr) = some ⟨w2.heap.size + 1 + 1, 0, none⟩ := by
      rw [← H3.out]
      simp
    rw [e1] at o1
    rw [e2] at o2
    refine ⟨o1, o2, ?_, ((Below.refl _ _).alloc (Nat.le_refl _) _).alloc (by simp) _⟩
    intro g h h1 h2
    simp at h1 h2
    omega
  case round =>
    obtain ⟨j, X, Y, cx, cy, hj, rfl, rfl, rfl, hm0⟩ := hrel
    by_cases hlt : j < N
    · obtain ⟨ba, oa, rfl, _, ka⟩ := (ra.below hm0.bel).at_ (by omega)
      obtain ⟨bb, ob, rfl, _, _⟩ := (rb.below hm0.bel).at_ (by omega)
      obtain ⟨bc, oc, rfl, _, kc⟩ := (rc.below hm0.bel).at_ (by omega)
      have ka1 := ka j (by omega)
      have kc1 := kc j (by omega)
      clear ka kc
      have i1 : (j : Int) < n := by omega
      have i2 : (j : Int) < m := by omega
      have i3 : (j : Int) < p := by omega
      have ex := xor8 (l.getD j 0) (q.getD j 0)
      have ey := xor8 (k.getD j 0) (q.getD j 0)
      have sx := mixed_step l q j (by rw [LA.out]; omega) (by rw [LC.out]; omega)
      have sy := mixed_step k q j (by rw [LB.out]; omega) (by rw [LC.out]; omega)
      have SX := Go.Lib.hid sx
      have SY := Go.Lib.hid sy
      clear sx sy
      generalize hla : l.getD j 0 = a at *
      generalize hlb : k.getD j 0 = b at *
      generalize hlc : q.getD j 0 = c at *
      have HLA := Go.Lib.hid hla
      have HLB := Go.Lib.hid hlb
      have HLC := Go.Lib.hid hlc
      clear hla hlb hlc
      go_wp2_with fail
      have al : Below wr.heap.size wr (wr.alloc (.cells #[.int .u8 ((a.toNat ^^^ c.toNat : Nat) : Int)] 5)).drew := ((Below.refl _ _).alloc (Nat.le_refl _) _).drew
      have ka2 := bcell al ka1
      have kc2 := bcell al kc1
      have ox1 := hm0.ox.below al
      have oy1 := hm0.oy.below al
      have be1 := below_chain hm0.bel al
      have sr1 : (wr.alloc (.cells #[.int .u8 ((a.toNat ^^^ c.toNat : Nat) : Int)] 5)).drew.cell? ⟨wr.heap.size, 0, none⟩ = some (.int .u8 ((a ^^^ c).toNat : Int)) := by rw [UInt8.toNat_xor]; simp
      go_region_held_law (fun w' => w'.cell? ⟨ba, oa + j, none⟩ = some (.int .u8 (a.toNat : Int)) ∧ w'.cell? ⟨bc, oc + j, none⟩ = some (.int .u8 (c.toNat : Int)))
        (first | exact ⟨ka1, kc1⟩ | exact ⟨ka2, kc2⟩ | exact ⟨ka5, kc5⟩)
        (first | (refine step_append_apart (by rfl) (.tmp 29) (.tmp 39) 22 rfl Try.underlying22 u8_info rfl rfl ox1 oy1 hm0.ap sr1 (by omega) be1.size w3 be1 ?_; intro X5 cx5 w5 ox5 oy5 ap5 be5; have ka5 := (HLA.out ▸ Rd.byte (ra.below be5) (i := j) (by omega)); have kc5 := (HLC.out ▸ Rd.byte (rc.below be5) (i := j) (by omega)); (try go_simp)))
      clear al ka1 kc1 ka2 kc2 ox1 oy1 be1 sr1 ka5 hm0
      go_wp2_with fail
      have kb1 := HLB.out ▸ Rd.byte (rb.below be5) (i := j) (by omega)
      have kc1 := HLC.out ▸ Rd.byte (rc.below be5) (i := j) (by omega)
      have al : Below w5.heap.size w5 (w5.alloc (.cells #[.int .u8 ((b.toNat ^^^ c.toNat : Nat) : Int)] 5)).drew := ((Below.refl _ _).alloc (Nat.le_refl _) _).drew
      have kb2 := bcell al kb1
      have kc2 := bcell al kc1
      have ox1 := ox5.below al
      have oy1 := oy5.below al
      have be1 := below_chain be5 al
      have sr1 : (w5.alloc (.cells #[.int .u8 ((b.toNat ^^^ c.toNat : Nat) : Int)] 5)).drew.cell? ⟨w5.heap.size, 0, none⟩ = some (.int .u8 ((b ^^^ c).toNat : Int)) := by rw [UInt8.toNat_xor]; simp
      have ap1 : Apart Y X5 := fun g h h1 h2 => (ap5 h g h2 h1).symm
      go_region_held_law (fun w' => w'.cell? ⟨bb, ob + j, none⟩ = some (.int .u8 (b.toNat : Int)) ∧ w'.cell? ⟨bc, oc + j, none⟩ = some (.int .u8 (c.toNat : Int)))
        (first | exact ⟨kb1, kc1⟩ | exact ⟨kb2, kc2⟩ | exact ⟨kb6, kc6⟩)
        (first | (refine step_append_apart (by rfl) (.tmp 41) (.tmp 51) 22 rfl Try.underlying22 u8_info rfl rfl oy1 ox1 ap1 sr1 (by omega) be1.size w3 be1 ?_; intro Y6 cy6 w6 oy6 ox6 ap6 be6; have kb6 := (HLB.out ▸ Rd.byte (rb.below be6) (i := j) (by omega)); have kc6 := (HLC.out ▸ Rd.byte (rc.below be6) (i := j) (by omega)); (try go_simp)))
      have ap2 : Apart X5 Y6 := fun g h h1 h2 => (ap6 h g h2 h1).symm
      clear al kb1 kc1 kb2 kc2 ox1 oy1 be1 sr1 kb6 kc6 ap1 ap6 ap5 oy5 ox5 be5
      go_wp2_with fail
      go_roundw
      case rel => exact ⟨j + 1, X5, Y6, cx5, cy6, by omega, rfl, rfl, by go_num, by rw [SX.out]; exact ox6, by rw [SY.out]; exact oy6, ap2, be6⟩
      case measure => simp [intOf]; omega
    · obtain rfl : j = N := by omega
      have sA := ((ra.below hm0.bel).first (k := j) n1)
      have sB := ((rb.below hm0.bel).first (k := j) n2)
      have qA := slice_upto A n ca j (by have := ra.le_cap; omega)
      have qB := slice_upto B m cb j (by have := rb.le_cap; omega)
      have t4 := t2.below hm0.bel
      have sX := hm0.ox.rd
      have sY := hm0.oy.rd
      have B4 := below_chain B2 hm0.bel
      have HM' := Go.Lib.hid HM.out
      have u1 := sum_lt (l.take j)
      have u2 := sum_lt (mixed l q j)
      have u3 := sum_lt (k.take j)
      have u4 := sum_lt (mixed k q j)
      have c1 := Go.Lib.hid (fun w ht hr => sum_any w2.heap.size A j ca (l.take j) w ht hr)
      have c2 := Go.Lib.hid (fun w ht hr => sum_any w2.heap.size X j cx (mixed l q j) w ht hr)
      have c3 := Go.Lib.hid (fun w ht hr => sum_any w2.heap.size B j cb (k.take j) w ht hr)
      have c4 := Go.Lib.hid (fun w ht hr => sum_any w2.heap.size Y j cy (mixed k q j) w ht hr)
      clear ra rb rc n1 n2 n3 n4 HM
      generalize sum (l.take j) = s1 at *
      generalize sum (mixed l q j) = s2 at *
      generalize sum (k.take j) = s3 at *
      generalize sum (mixed k q j) = s4 at *
      have x1 := u32_xor_nat s1 s2 u1 u2
      have x2 := u32_xor_nat s3 s4 u3 u4
      rw [HM'.out] at x1
      generalize s3 ^^^ s4 = s5 at *
      clear u1 u2 u3 u4
      go_wp2_with fail
      go_quiet (first
        | (go_at_call_of 15 (Value.slice A j ca); exact still (c1.out _ (t4.drewN _) (sA.drewN _)))
        | (go_at_call_of 15 (Value.slice X j cx); exact still (c2.out _ (t4.drewN _) (sX.drewN _)))
        | (go_at_call_of 15 (Value.slice B j cb); exact still (c3.out _ (t4.drewN _) (sB.drewN _)))
        | (go_at_call_of 15 (Value.slice Y j cy); exact still (c4.out _ (t4.drewN _) (sY.drewN _))))
      go_wp2_with fail
      go_ret
      exact ⟨by simp, bel_drewN B4 _⟩

section
variable {H : Type} {enc : TypeId × Value → H}
theorem xor_main (W : World) (base : Nat) (v0 v1 v2 : Value) {d0 d1 d2 : DataW H} {p0 p1 p2 : List MemPlace} (o0 : Value.okWide Try.prog W .any base 22 v0) (o1 : Value.okWide Try.prog W .any base 22 v1) (o2 : Value.okWide Try.prog W .any base 22 v2)
    (h0 : DataW.Trod enc Try.prog W 0 (fun _ => true) true 22 v0 d0 p0) (h1 : DataW.Trod enc Try.prog W 0 (fun _ => true) true 22 v1 d1 p1) (h2 : DataW.Trod enc Try.prog W 0 (fun _ => true) true 22 v2 d2 p2) :
    Calls Try.prog 8 #[v0, v1, v2] W fun e W' => e = .returned (.bool true) ∧ Below W.heap.size W W' := by
  obtain ⟨A, n, ca, l, rfl, hl⟩ := op_bytes Try.underlying22 Try.underlying5 (by kernel_rfl) o0 h0
  obtain ⟨B, m, cb, k, rfl, hk⟩ := op_bytes Try.underlying22 Try.underlying5 (by kernel_rfl) o1 h1
  obtain ⟨C, p, cc, q, rfl, hq⟩ := op_bytes Try.underlying22 Try.underlying5 (by kernel_rfl) o2 h2
  exact xor_walk A B C n m p ca cb cc l k q W hl hk hq
end

end Go.Proofs.Ytfencoklpnifaaa.CrcLaw
