/-
  Walks of the statements of layer 2: CrcTurned.
-/
import Derived.Test.YtfencoklpnifaaaCrcLawC
import Derived.IntWalk
namespace Go.Proofs.Ytfencoklpnifaaa.CrcLaw
open Go.RowKit Go.WideShapes Go.ChangeShapes Go.Proofs.Ytfencoklpnifaaa.CrcMath Go.Proofs.Ytfencoklpnifaaa.NumMem Go.Proofs.Ytfencoklpnifaaa.CrcWalk Go.Proofs.Ytfencoklpnifaaa.Open

/-- Has one of the first i bytes a bit? -/
def anyB (b : List UInt8) (i : Nat) : Bool := (b.take i).any (· != 0)
theorem anyB_zero (b : List UInt8) : anyB b 0 = false := by simp [anyB]
theorem anyB_step (b : List UInt8) (i : Nat) (h : i < b.length) : anyB b (i + 1) = (anyB b i || b.getD i 0 != 0) := by
  unfold anyB
  rw [List.take_succ_eq_append_getElem h, List.any_append]
  simp [List.getD, h]
theorem anyB_yes {b : List UInt8} {i : Nat} (h : anyB b i = true) : ∃ c ∈ b.take i, c ≠ 0 := by
  unfold anyB at h
  rw [List.any_eq_true] at h
  obtain ⟨c, hc, h2⟩ := h
  exact ⟨c, hc, by simpa using h2⟩
theorem anyB_no {b : List UInt8} {i : Nat} (h : anyB b i = false) : ∀ c ∈ b.take i, c = 0 := by
  unfold anyB at h
  rw [List.any_eq_false] at h
  intro c hc
  simpa using h c hc
theorem ne_zero8 (c : UInt8) : ((c.toNat : Int) != 0) = (c != 0) := by
  rw [Bool.eq_iff_iff, bne_iff_ne, bne_iff_ne]
  constructor
  · rintro h rfl
    exact h rfl
  · intro h h2
    exact h (UInt8.toNat_inj.1 (by simpa using h2))

/-- The state of the loop behind i bytes. -/
structure TurnAt (w wr : World) (g gt gb : Nat) (S : List UInt8) (p i : Nat) (b : List UInt8) (T : TypeId) (cs : Array Value) : Prop where
  row : Row wr g 5 (turn S p i b)
  tab : Tab wr gt
  by_ : wr.heap[gb]? = some (.cells cs T (0, 0))
  below : Below w.heap.size w wr

theorem turnAt_step {w wr : World} {g gt gb : Nat} {S : List UInt8} {p i : Nat} {b : List UInt8} {T : TypeId} {cs : Array Value} (h : TurnAt w wr g gt gb S p i b T cs) (hg : w.heap.size ≤ g) (h1 : gt ≠ g) (h2 : gb ≠ g) (hi : p + i < S.length) :
    TurnAt w ((wr.setCell ⟨g, p + i, none⟩ (.int .u8 (((S.getD (p + i) 0).toNat ^^^ (b.getD i 0).toNat : Nat) : Int))).drew) g gt gb S p (i + 1) b T cs := by
  have e : (S.getD (p + i) 0).toNat ^^^ (b.getD i 0).toNat = (S.getD (p + i) 0 ^^^ b.getD i 0).toNat := (UInt8.toNat_xor _ _).symm
  rw [e]
  refine ⟨?_, ?_, ?_, ?_⟩
  · have := h.row.set_ (p + i) (S.getD (p + i) 0 ^^^ b.getD i 0)
    rw [turn_step S p i b hi] at this
    exact this
  · exact (Below.heap_setCell wr _ _ gt h1).trans h.tab
  · exact (Below.heap_setCell wr _ _ gb h2).trans h.by_
  · exact (h.below.setCell hg _).drew

theorem turnAt_cell {w wr : World} {g gt gb : Nat} {S : List UInt8} {p i : Nat} {b : List UInt8} {T : TypeId} {cs : Array Value} (h : TurnAt w wr g gt gb S p i b T cs) (hi : p + i < S.length) :
    wr.cell? ⟨g, p + i, none⟩ = some (.int .u8 ((S.getD (p + i) 0).toNat : Int)) ∧ wr.frozen? ⟨g, p + i, none⟩ = false := by
  have hc := h.row.cell (i := p + i) (by rw [turn_length]; exact hi)
  rw [turn_at S p i b hi] at hc
  exact ⟨hc, h.row.frozen _⟩

def four4 (b0 b1 b2 b3 : UInt8) : Array Value := #[.int .u8 (b0.toNat : Int), .int .u8 (b1.toNat : Int), .int .u8 (b2.toNat : Int), .int .u8 (b3.toNat : Int)]
theorem four4_get (b0 b1 b2 b3 : UInt8) (i : Nat) (hi : i < 4) : (four4 b0 b1 b2 b3)[i]? = some (.int .u8 ((([b0, b1, b2, b3] : List UInt8).getD i 0).toNat : Int)) := by
  rcases (by omega : i = 0 ∨ i = 1 ∨ i = 2 ∨ i = 3) with rfl | rfl | rfl | rfl <;> rfl

set_option maxRecDepth 100000 in
set_option maxHeartbeats 4000000 in
theorem turned_walk (A : Option Addr) (n cap : Nat) (l : List UInt8) (b0 b1 b2 b3 : UInt8) (p : Int) (w : World) (hl : Rd w A n cap l) (hp0 : -9223372036854775808 ≤ p) (hp1 : p ≤ 9223372036854775807) :
    Calls Try.prog 5 #[.slice A n cap, .int .i64 p, .agg (four4 b0 b1 b2 b3)] w fun e w' => e = .returned (.bool true) ∧ Below w.heap.size w w' := by
  have hcap := hl.le_cap
  have hmax := hl.2.2.1
  unfold maxLen at hmax
  have hz := tab_zero
  have hb0 : Below w.heap.size w (w.alloc (.cells (four4 b0 b1 b2 b3) 36)) := (Below.refl _ _).alloc (Nat.le_refl _) _
  have c0 : (w.alloc (.cells (four4 b0 b1 b2 b3) 36)).heap[w.heap.size]? = some (.cells (four4 b0 b1 b2 b3) 36) := heap_alloc_new w _
  have z0 : w.heap.size < (w.alloc (.cells (four4 b0 b1 b2 b3) 36)).heap.size := by simp
  have hget := four4_get b0 b1 b2 b3
  have HG := Go.Lib.hid hget
  clear hget
  generalize four4 b0 b1 b2 b3 = cs at *
  go_enter Try.func5, Try.ntmps5
  go_wp2_with fail
  generalize hW : w.alloc (.cells cs 36) = w0 at *
  clear hW
  refine (shown_any _).mono ?_
  rintro e w1 ⟨rfl, b1'⟩
  go_wp2_with fail
  refine (new_any _).mono ?_
  rintro e w2 ⟨rfl, b2'⟩
  have b3' := below_chain (below_chain b1' b2') (tab_below w2)
  have B2 := below_chain hb0 b3'
  have t2 := Tab.new w2
  have c2 := (b3'.block _ z0).trans c0
  clear hb0 b1' b2' b3' c0 z0
  go_wp2_with (with_reducible refine wpList_table rfl (.tmp 8) (.tmp 15) rfl rfl rfl ?_)
  generalize hwx : w2.alloc (.cells tab 27) = w3 at *
  clear hwx hz
  refine (few_any A n cap _ hcap (by omega)).mono ?_
  rintro e w' ⟨rfl, rfl⟩
  have ra := few_rd (hl.below B2)
  have hn : min n 500 ≤ 500 := Nat.min_le_right _ _
  generalize min n 500 = n' at *
  generalize l.take n' = s at *
  clear hl hcap
  have hla := ra.len
  have HA := Go.Lib.hid hla
  clear hla
  go_wp2_with fail
  refine (seal_any w2.heap.size A n' cap s _ t2 ra (by omega)).mono ?_
  rintro e w4 ⟨rfl, hr4, b4⟩
  have B4 := below_chain B2 b4
  have t4 := t2.below b4
  have c4 := (b4.block _ (Array.getElem?_eq_some_iff.1 c2).1).trans c2
  have hgt := t2.lt
  have hgb := (Array.getElem?_eq_some_iff.1 c2).1
  have hg : w.heap.size ≤ w3.heap.size := B2.size
  clear B2 t2 c2 ra b4
  by_cases hpn : p < 0
  · go_wp2_with fail
    go_ret
    exact ⟨rfl, B4⟩
  by_cases hpl : (n' : Int) + 4 ≤ p
  · go_wp2_with fail
    go_ret
    exact ⟨rfl, B4⟩
  obtain ⟨j, rfl⟩ := Int.eq_ofNat_of_zero_le (by omega : 0 ≤ p)
  have hS : (closedB s).length = n' + 4 := by rw [closedB_length, HA.out]
  have HS := Go.Lib.hid hS
  clear hS
  have hb4 : ([b0, b1, b2, b3] : List UInt8).length = 4 := rfl
  have HB4 := Go.Lib.hid hb4
  clear hb4
  have hsc : ∀ y, closedB y = closedB s → y = s := fun y h => closedB_inj h
  have htn := fun i hi h4 h hne => turn_none s j i [b0, b1, b2, b3] hi h4 h hne
  have HTN := Go.Lib.hid htn
  clear htn hsc
  have st : TurnAt w w4 w3.heap.size w2.heap.size w.heap.size (closedB s) j 0 [b0, b1, b2, b3] 36 cs := ⟨by rw [turn_zero]; exact hr4, t4, c4, B4⟩
  generalize hSS : closedB s = S at *
  have HSS := Go.Lib.hid hSS
  generalize hbb : ([b0, b1, b2, b3] : List UInt8) = b at *
  clear hSS hbb hr4 t4 c4 B4
  have hjn : j < n' + 4 := by omega
  clear hpn hpl
  go_wp2_with fail
  go_loopw [10, 11] (fun tv iv wr => ∃ k : Nat, k ≤ 4 ∧ iv = .int .i64 k ∧ tv = .bool (anyB b k) ∧ j + k ≤ n' + 4 ∧ TurnAt w wr w3.heap.size w2.heap.size w.heap.size S j k b 36 cs) (fun _ i _ => 4 - (intOf i).toNat)
  case atStart => exact ⟨0, by omega, rfl, by rw [anyB_zero], by omega, st⟩
  case round =>
    obtain ⟨k, hk, rfl, rfl, hjk, hst⟩ := hrel
    by_cases hgo : k < 4 ∧ j + k < n' + 4
    · obtain ⟨hk4, hin⟩ := hgo
      obtain ⟨kc, kf⟩ := turnAt_cell hst (by rw [HS.out]; exact hin)
      have kb : wr.cell? ⟨w.heap.size, k, none⟩ = some (.int .u8 ((b.getD k 0).toNat : Int)) := by rw [cell_of_row wr _ k _ _ _ hst.by_]; exact HG.out k hk4
      have nx := turnAt_step hst hg (by omega) (by omega) (by rw [HS.out]; exact hin)
      have kb2 : (wr.setCell ⟨w3.heap.size, j + k, none⟩ (.int .u8 (((S.getD (j + k) 0).toNat ^^^ (b.getD k 0).toNat : Nat) : Int))).drew.cell? ⟨w.heap.size, k, none⟩ = some (.int .u8 ((b.getD k 0).toNat : Int)) := by rw [cell_of_row _ _ k _ _ _ nx.by_]; exact HG.out k hk4
      have ex := xor8 (S.getD (j + k) 0) (b.getD k 0)
      have hab := anyB_step b k (by rw [HB4.out]; exact hk4)
      have hne := ne_zero8 (b.getD k 0)
      have HN := Go.Lib.hid nx
      have HAB := Go.Lib.hid hab
      clear nx hab st hst
      generalize hT : anyB b k = T at *
      clear hT
      generalize (b.getD k 0 != 0) = U at *
      generalize S.getD (j + k) 0 = x at *
      generalize b.getD k 0 = y at *
      have w1' : IntKind.i64.wrap ((j : Int) + (k : Int)) = (j : Int) + (k : Int) := IntWalk.i64_in _ (by omega)
      have w2' : (0 : Int) ≤ (j : Int) + (k : Int) := by omega
      have w3' : ((j : Int) + (k : Int)).toNat = j + k := by omega
      have w4' : (j : Int) + (k : Int) < (n' : Int) + 4 := by omega
      have w5' : (k : Int) < 4 := by omega
      go_wp2_with fail
      go_region
      clear w1' w2' w3' w4' ex kc kf kb
      generalize (wr.setCell ⟨w3.heap.size, j + k, none⟩ (.int .u8 ((x.toNat ^^^ y.toNat : Nat) : Int))).drew = wr2 at *
      cases T
      · cases U
        · go_wp2_with fail
          go_roundw
          case rel => exact ⟨k + 1, by omega, by go_num, by rw [HAB.out]; rfl, by omega, HN.out⟩
          case measure => simp [intOf]; omega
        · go_wp2_with fail
          go_roundw
          case rel => exact ⟨k + 1, by omega, by go_num, by rw [HAB.out]; rfl, by omega, HN.out⟩
          case measure => simp [intOf]; omega
      · go_wp2_with fail
        go_roundw
        case rel => exact ⟨k + 1, by omega, by go_num, by rw [HAB.out]; rfl, by omega, HN.out⟩
        case measure => simp [intOf]; omega
    · have hS := HS.out
      have hB := HB4.out
      have rr := row_rd hst.row (n := n' + 4) (by rw [turn_length]; exact hS) (by omega)
      have tt := hst.tab
      have BB := hst.below
      have hyes : anyB b k = true → ∀ z, closedB z ≠ turn S j k b := fun h => by
        have := HTN.out k (by omega) (by omega) (by omega) (anyB_yes h)
        exact this
      have hno : anyB b k = false → turn S j k b = closedB s := fun h => by
        rw [turn_same S j k b (anyB_no h)]
        exact HSS.out.symm
      have HY := Go.Lib.hid hyes
      have HO := Go.Lib.hid hno
      clear hS hB hyes hno hst st
      have hex : (4 ≤ k) ∨ (k < 4 ∧ n' + 4 ≤ j + k) := by omega
      clear hgo
      generalize hT : anyB b k = T at *
      clear hT
      cases T with
      | false =>
        have ht : turn S j k b = closedB s := by first | exact HO.out rfl | exact HO.out trivial
        rw [ht] at rr
        clear HY HO ht
        rcases hex with h4 | ⟨h4, h5⟩
        all_goals
          go_wp2_with fail
          refine (open_yes w2.heap.size _ _ _ s _ tt rr (by omega)).mono ?_
          rintro e w6 ⟨A6, c6, rfl, r6, b6⟩
          have B6 := below_chain BB b6
          clear BB tt rr r6 b6
          go_wp2_with fail
          go_ret
          exact ⟨rfl, B6⟩
      | true =>
        have ht : ∀ z, closedB z ≠ turn S j k b := by first | exact HY.out rfl | exact HY.out trivial
        have HT := Go.Lib.hid ht
        clear HY HO ht
        rcases hex with h4 | ⟨h4, h5⟩
        all_goals
          go_wp2_with fail
          refine (open_no w2.heap.size _ _ _ _ _ tt rr (by omega) HT.out).mono ?_
          rintro e w6 ⟨rfl, b6⟩
          have B6 := below_chain BB b6
          clear BB tt rr b6
          go_wp2_with fail
          go_ret
          exact ⟨rfl, B6⟩

section
variable {H : Type} {enc : TypeId × Value → H}
theorem turned_main (W : World) (base : Nat) (v0 v1 v2 : Value) {d0 d1 d2 : DataW H} {p0 p1 p2 : List MemPlace} (o0 : Value.okWide Try.prog W .any base 22 v0) (o1 : Value.okWide Try.prog W .any base 3 v1) (o2 : Value.okWide Try.prog W .any base 36 v2)
    (h0 : DataW.Trod enc Try.prog W 0 (fun _ => true) true 22 v0 d0 p0) (h1 : DataW.Trod enc Try.prog W 0 (fun _ => true) true 3 v1 d1 p1) (h2 : DataW.Trod enc Try.prog W 0 (fun _ => true) true 36 v2 d2 p2) :
    Calls Try.prog 5 #[v0, v1, v2] W fun e W' => e = .returned (.bool true) ∧ Below W.heap.size W W' := by
  obtain ⟨A, n, cap, l, rfl, hl⟩ := op_bytes Try.underlying22 Try.underlying5 (by kernel_rfl) o0 h0
  obtain ⟨p, rfl, x1, x2⟩ := op_i64 Try.underlying3 o1 h1
  obtain ⟨a, b, c, d, rfl, wa, wb, wc, wd⟩ := op_arr4 Try.underlying36 Try.underlying5 (by kernel_rfl) (by kernel_rfl) o2 h2
  obtain ⟨a, rfl⟩ := u8_of wa
  obtain ⟨b, rfl⟩ := u8_of wb
  obtain ⟨c, rfl⟩ := u8_of wc
  obtain ⟨d, rfl⟩ := u8_of wd
  exact turned_walk A n cap l a b c d p W hl x1 x2
end

end Go.Proofs.Ytfencoklpnifaaa.CrcLaw
