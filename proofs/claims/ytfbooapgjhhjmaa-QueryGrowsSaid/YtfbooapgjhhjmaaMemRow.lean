/-
  Words on memory for slices of any elements: a slice that reads as a row of cells (k cells an element; nil and empty let in), rows of the call's own, append. No Go text here.
-/
import Derived.Test.YtfbooapgjhhjmaaNumMem
import Derived.Maps.AppendAt
import Derived.OwnWalk
import Derived.Laws.Slices
namespace Go.Proofs.Ytfbooapgjhhjmaa.MemRow
open Go.RowKit
set_option linter.unusedVariables false

/-- The slice value (A, n, cap) of elements of k cells reads as the cells cs. -/
def RdC (k : Nat) (w : World) (A : Option Addr) (n cap : Nat) (cs : List Value) : Prop :=
  cs.length = n * k ∧ n ≤ cap ∧ cap ≤ maxLen ∧ (0 < n → ∃ b o, A = some ⟨b, o, none⟩ ∧ ∀ i v, cs[i]? = some v → w.cell? ⟨b, o + i, none⟩ = some v)

variable {w w' : World} {A : Option Addr} {n cap k : Nat} {cs : List Value} {ss : List ByteArray} {fs : List (ByteArray × Int)}

theorem RdC.nil (w : World) : RdC k w none 0 0 [] := ⟨by simp, Nat.le_refl _, Nat.zero_le _, fun h => absurd h (by omega)⟩
theorem RdC.empty (w : World) (A : Option Addr) (h : cap ≤ maxLen) : RdC k w A 0 cap [] := ⟨by simp, Nat.zero_le _, h, fun h => absurd h (by omega)⟩
theorem RdC.len (h : RdC k w A n cap cs) : cs.length = n * k := h.1
theorem RdC.le_cap (h : RdC k w A n cap cs) : n ≤ cap := h.2.1
theorem RdC.cap_le (h : RdC k w A n cap cs) : cap ≤ maxLen := h.2.2.1
theorem RdC.le (h : RdC k w A n cap cs) : n ≤ maxLen := Nat.le_trans h.2.1 h.2.2.1

theorem RdC.at_ (h : RdC k w A n cap cs) (hk : 0 < k) (hn : 0 < n) : ∃ b o, A = some ⟨b, o, none⟩ ∧ b < w.heap.size ∧ ∀ i v, cs[i]? = some v → w.cell? ⟨b, o + i, none⟩ = some v := by
  obtain ⟨b, o, rfl, hc⟩ := h.2.2.2 hn
  have h0 : 0 < cs.length := by rw [h.1]; exact Nat.mul_pos hn hk
  exact ⟨b, o, rfl, World.block_lt_of_cell? w _ (hc 0 _ (List.getElem?_eq_getElem h0)), hc⟩

theorem RdC.keep (h : RdC k w A n cap cs) (hk : ∀ b o, A = some ⟨b, o, none⟩ → ∀ i v, w.cell? ⟨b, o + i, none⟩ = some v → w'.cell? ⟨b, o + i, none⟩ = some v) : RdC k w' A n cap cs :=
  ⟨h.1, h.2.1, h.2.2.1, fun hn => by
    obtain ⟨b, o, rfl, hc⟩ := h.2.2.2 hn
    exact ⟨b, o, rfl, fun i v hi => hk b o rfl i v (hc i v hi)⟩⟩

/-- As 'keep', where the slice may be empty. -/
theorem RdC.keepN (h : RdC k w A n cap cs) (hk : 0 < n → ∀ b o, A = some ⟨b, o, none⟩ → ∀ i v, w.cell? ⟨b, o + i, none⟩ = some v → w'.cell? ⟨b, o + i, none⟩ = some v) : RdC k w' A n cap cs :=
  ⟨h.1, h.2.1, h.2.2.1, fun hn => by
    obtain ⟨b, o, rfl, hc⟩ := h.2.2.2 hn
    exact ⟨b, o, rfl, fun i v hi => hk hn b o rfl i v (hc i v hi)⟩⟩

theorem RdC.below (h : RdC k w A n cap cs) (hb : Below w.heap.size w w') : RdC k w' A n cap cs :=
  h.keep fun b o _ i v hi => (hb.cell (p := ⟨b, o + i, none⟩) (World.block_lt_of_cell? w _ hi)).trans hi

theorem RdC.drewN (h : RdC k w A n cap cs) (m : Nat) : RdC k (w.drewN m) A n cap cs := h
theorem RdC.drew (h : RdC k w A n cap cs) : RdC k w.drew A n cap cs := h

/-- Kept where just block g has changed, and the slice lies in another. -/
theorem RdC.grown {row : Option Nat} (h : RdC k w A n cap cs) (hg : w.grownBy w' row) (hne : ∀ b o, A = some ⟨b, o, none⟩ → some b ≠ row) : RdC k w' A n cap cs :=
  h.keep fun b o hA i v hi => hg.cell hi (hne b o hA)

theorem add_plain (b o i : Nat) : (⟨b, o, none⟩ : Addr).add i = ⟨b, o + i, none⟩ := by unfold Addr.add; split <;> simp_all

/-- v[m:]. The model keeps the address where m is the capacity. -/
theorem RdC.cut (h : RdC k w A n cap cs) {m : Nat} (hm : m ≤ n) : RdC k w (if cap = m then A else A.map (·.add (m * k))) (n - m) (cap - m) (cs.drop (m * k)) := by
  refine ⟨by rw [List.length_drop, h.1, Nat.sub_mul], by have := h.2.1; omega, by have := h.2.2.1; omega, fun hn => ?_⟩
  obtain ⟨b, o, rfl, hc⟩ := h.2.2.2 (by omega)
  have := h.2.1
  rw [if_neg (by omega)]
  refine ⟨b, o + m * k, by simp [Addr.add], fun i v hi => ?_⟩
  rw [List.getElem?_drop] at hi
  rw [Nat.add_assoc]
  exact hc _ v hi

/-- v[:m]. -/
theorem RdC.first (h : RdC k w A n cap cs) {m : Nat} (hm : m ≤ n) : RdC k w A m cap (cs.take (m * k)) := by
  have hmk : m * k ≤ n * k := Nat.mul_le_mul_right k hm
  refine ⟨by rw [List.length_take, h.1]; omega, by have := h.2.1; omega, h.2.2.1, fun hn => ?_⟩
  obtain ⟨b, o, rfl, hc⟩ := h.2.2.2 (by omega)
  refine ⟨b, o, rfl, fun i v hi => hc i v ?_⟩
  by_cases h1 : i < m * k
  · rwa [List.getElem?_take_of_lt h1] at hi
  · rw [List.getElem?_eq_none (by rw [List.length_take]; omega)] at hi
    cases hi

theorem RdC.of_block {g : Nat} {t : TypeId} {fr : Nat × Nat} {ar : Array Value} (hg : w.heap[g]? = some (.cells ar t fr)) (hl : cs.length = n * k) (hn : n ≤ cap) (hc : cap ≤ maxLen) (h : ∀ (i : Nat) (v : Value), cs[i]? = some v → ar[i]? = some v) :
    RdC k w (some ⟨g, 0, none⟩) n cap cs :=
  ⟨hl, hn, hc, fun _ => ⟨g, 0, rfl, fun i v hi => by rw [Nat.zero_add, cell_of_row w g i ar t fr hg]; exact h i v hi⟩⟩

/-- A new row. -/
theorem RdC.new (w : World) (t : TypeId) (cs : List Value) (hl : cs.length = n * k) (hn : n ≤ maxLen) : RdC k (w.alloc (.cells cs.toArray t)) (some ⟨w.heap.size, 0, none⟩) n n cs :=
  RdC.of_block (heap_alloc_new w _) hl (Nat.le_refl _) hn fun i v hi => by simpa using hi

/-- A slice of the call's own (its block from 'base' on) that holds the cells cs. -/
def OwnC (k : Nat) (w : World) (base : Nat) (t : TypeId) (A : Option Addr) (n cap : Nat) (cs : List Value) : Prop := w.ownsRow base t k (.slice A n cap) n cs

variable {base : Nat} {t : TypeId}

theorem OwnC.len (h : OwnC k w base t A n cap cs) : cs.length = n * k := h.1

theorem OwnC.rd (h : OwnC k w base t A n cap cs) : RdC k w A n cap cs := by
  have hl := h.len
  rcases h.2 with ⟨hv, hn⟩ | ⟨g, c, cur, hv, hb, hg, hnc, hcm, hcs, htake⟩
  · injection hv with e1 e2 e3
    subst e1 e3
    refine ⟨hl, by omega, Nat.zero_le _, fun h0 => absurd h0 (by omega)⟩
  · injection hv with e1 e2 e3
    subst e1 e3
    refine RdC.of_block hg hl hnc hcm fun i v hi => ?_
    rw [← htake] at hi
    have hlt : i < n * k := by
      have := (List.getElem?_eq_some_iff.1 hi).1
      rw [List.length_take] at this
      omega
    rw [List.getElem?_take_of_lt hlt] at hi
    simpa using hi

theorem OwnC.lt (h : OwnC k w base t A n cap cs) : ∀ a, A = some a → base ≤ a.block ∧ a.block < w.heap.size := by
  rintro a rfl
  exact World.ownsRow.lt h a.block rfl

theorem OwnC.below (h : OwnC k w base t A n cap cs) (hb : Below w.heap.size w w') : OwnC k w' base t A n cap cs := World.ownsRow.kept h (below_grown_ hb) (by
  cases hv : (Value.slice A n cap).ownBlock <;> simp)
where below_grown_ (hb : Below w.heap.size w w') : w.grownBy w' none := ⟨hb.os, hb.tape, hb.output, hb.size, fun j hj _ => hb.block j hj⟩

theorem OwnC.nil (w : World) (t : TypeId) : OwnC k w base t none 0 0 [] := ⟨by simp, .inl ⟨rfl, rfl⟩⟩

theorem OwnC.empty (w : World) (t : TypeId) (hb : base ≤ w.heap.size) : OwnC k (w.alloc (.cells #[] t)) base t (some ⟨w.heap.size, 0, none⟩) 0 0 [] :=
  ⟨by simp, .inr ⟨w.heap.size, 0, #[], rfl, hb, heap_alloc_new w _, Nat.le_refl _, Nat.zero_le _, by simp, by simp⟩⟩

/-- A row of the call's own stays where another one of the call's own has grown. -/
theorem OwnC.grown {row : Option Nat} (h : OwnC k w base t A n cap cs) (hg : w.grownBy w' row) (hne : ∀ a, A = some a → some a.block ≠ row) : OwnC k w' base t A n cap cs := World.ownsRow.kept h hg (by
  cases A with
  | none => simp [Value.ownBlock]
  | some a => right; simpa [Value.ownBlock] using hne a rfl)

section
variable {P : Program}
/-- append: of a row of the call's own and what reads as cells. -/
theorem run_append_cells (T ty e : TypeId) (z : Value) (by_ : Nat) (hT : P.underlying T = some (.slice e)) (hi : (P.info? e).map (fun i => (i.zero, i.size, i.bytes)) = some (some z, k, by_)) (hzk : z.cells.size = k) (hk : 0 < k)
    (hown : OwnC k w base e A n cap cs) {B : Option Addr} {m c : Nat} {ds : List Value} (hr : RdC k w B m c ds) (h1 : ∀ v ∈ ds, v.oneCell' = true) (h63 : n + m ≤ maxLen) (hsz : (n + m) * by_ ≤ 140737488355328) (hbase : base ≤ w.heap.size) :
    ∃ A' cap' w', (Builtin.append_ #[T, T] ty #[.slice A n cap, .slice B m c]).run P w = .ok (.slice A' (n + m) cap') w' ∧ OwnC k w' base e A' (n + m) cap' (cs ++ ds) ∧ w.grownBy w' (A.map (·.block)) ∧ (A'.map (·.block) = A.map (·.block) ∨ A'.map (·.block) = some w.heap.size) := by
  obtain ⟨i, g1, g2, g3, g4⟩ : ∃ i, P.info? e = some i ∧ i.zero = some z ∧ i.size = k ∧ i.bytes = by_ := by
    cases hq : P.info? e with
    | none => simp [hq] at hi
    | some i => simp [hq] at hi; exact ⟨i, rfl, hi.1, hi.2.1, hi.2.2⟩
  have ob : (Value.slice A n cap).ownBlock = A.map (·.block) := by cases A <;> rfl
  have done : ∀ v' w2, (Builtin.append_ #[T, T] ty #[.slice A n cap, .slice B m c]).run P w = .ok v' w2 → w2.ownsRow base e k v' (n + m) (cs ++ ds) → w.grownBy w2 (Value.slice A n cap).ownBlock → (v'.ownBlock = (Value.slice A n cap).ownBlock ∨ v'.ownBlock = some w.heap.size) →
      ∃ A' cap' w', (Builtin.append_ #[T, T] ty #[.slice A n cap, .slice B m c]).run P w = .ok (.slice A' (n + m) cap') w' ∧ OwnC k w' base e A' (n + m) cap' (cs ++ ds) ∧ w.grownBy w' (A.map (·.block)) ∧ (A'.map (·.block) = A.map (·.block) ∨ A'.map (·.block) = some w.heap.size) := by
    intro v' w2 hrun ho hg hbl
    rw [ob] at hg hbl
    rcases ho.2 with ⟨rfl, hn⟩ | ⟨g, c2, cur, rfl, hrest⟩
    · refine ⟨none, 0, w2, by rw [hrun, hn], ?_, hg, hbl⟩
      rw [hn] at ho ⊢
      exact ho
    · exact ⟨_, c2, w2, hrun, ho, hg, hbl⟩
  cases B with
  | none =>
    have hm : m = 0 := by
      rcases Nat.eq_zero_or_pos m with h0 | h0
      · exact h0
      · obtain ⟨b, o, h, _⟩ := hr.2.2.2 h0
        cases h
    subst hm
    have hd : ds = [] := List.eq_nil_of_length_eq_zero (by rw [hr.1]; simp)
    subst hd
    refine done (.slice A n cap) w ?_ (by simpa [OwnC] using hown) (World.grownBy.refl _ _) (.inl rfl)
    have hown' := hown
    rcases hown'.2 with ⟨hv, rfl⟩ | ⟨g, c2, cur, hv, _, _, hnc, _⟩
    · injection hv with e1 e2 e3
      subst e1 e3
      simp [Builtin.append_, run_underlying hT, sizeOf, typeInfo, g1, Builtin.lenOf, Builtin.firstCells]
    · injection hv with e1 e2 e3
      subst e1 e3
      simp [Builtin.append_, run_underlying hT, sizeOf, typeInfo, g1, Builtin.lenOf, Builtin.firstCells, hnc, storeCells]
  | some ad =>
    have hsrc : ∀ j u, ds[j]? = some u → w.cell? (ad.add j) = some u := by
      intro j u hu
      have hm : 0 < m := by
        have := (List.getElem?_eq_some_iff.1 hu).1
        rw [hr.1] at this
        exact Nat.pos_of_mul_pos_right (by omega : 0 < m * k) |> fun h => h
      obtain ⟨b, o, h, hc⟩ := hr.2.2.2 hm
      injection h with h
      subst h
      rw [add_plain]
      exact hc j u hu
    obtain ⟨v', w2, hrun, ho, hg, _, hbl⟩ := run_append_own_at (P := P) w base T ty e i z k by_ hT g1 g2 g3 g4 hzk hk _ n _ hown ad m c ds hr.1 hsrc h1 h63 hsz hbase
    exact done v' w2 hrun ho hg hbl

theorem wp_append_cells {o : Oper} {a : Act} {K : Act → World → Prop} {Q : Exit → Act → World → Prop} (s x : Operand) (T : TypeId)
    (ho : o.op = .call { callee := .builtin .append, args := #[s, x], argTypes := #[T, T] }) (e : TypeId) (z : Value) (by_ : Nat) (hT : P.underlying T = some (.slice e)) (hi : (P.info? e).map (fun i => (i.zero, i.size, i.bytes)) = some (some z, k, by_)) (hzk : z.cells.size = k) (hk : 0 < k)
    (hs : a.eval s = .slice A n cap) {B : Option Addr} {m c : Nat} {ds : List Value} (hx : a.eval x = .slice B m c) (hown : OwnC k w base e A n cap cs) (hr : RdC k w B m c ds) (h1 : ∀ v ∈ ds, v.oneCell' = true) (h63 : n + m ≤ maxLen) (hsz : (n + m) * by_ ≤ 140737488355328) (hbase : base ≤ w.heap.size)
    (h : ∀ A' cap' w', OwnC k w' base e A' (n + m) cap' (cs ++ ds) → w.grownBy w' (A.map (·.block)) → (A'.map (·.block) = A.map (·.block) ∨ A'.map (·.block) = some w.heap.size) → K (a.put o.dst (.slice A' (n + m) cap')) w') : o.wp P a w K Q := by
  obtain ⟨A', cap', w', hrun, h2, h3, h4⟩ := run_append_cells (P := P) T o.type e z by_ hT hi hzk hk hown hr h1 h63 hsz hbase
  unfold Oper.wp execOp
  simp only [ho, resolve, invoke, builtin, Sem.run_bind, Sem.run_pure, Result.andThen_ok, List.map_toArray, List.map_cons, List.map_nil, hs, hx, hrun]
  exact h A' cap' w' h2 h3 h4

theorem wpList_append_cells {ops : Array Oper} {rest : List Oper} {o : Oper} {a : Act} {Q : Exit → Act → World → Prop} (hgd : o.guard = none) (s x : Operand) (T : TypeId)
    (ho : o.op = .call { callee := .builtin .append, args := #[s, x], argTypes := #[T, T] }) (e : TypeId) (z : Value) (by_ : Nat) (hT : P.underlying T = some (.slice e)) (hi : (P.info? e).map (fun i => (i.zero, i.size, i.bytes)) = some (some z, k, by_)) (hzk : z.cells.size = k) (hk : 0 < k)
    (hs : a.eval s = .slice A n cap) {B : Option Addr} {m c : Nat} {ds : List Value} (hx : a.eval x = .slice B m c) (hown : OwnC k w base e A n cap cs) (hr : RdC k w B m c ds) (h1 : ∀ v ∈ ds, v.oneCell' = true) (h63 : n + m ≤ maxLen) (hsz : (n + m) * by_ ≤ 140737488355328) (hbase : base ≤ w.heap.size)
    (h : ∀ A' cap' w', OwnC k w' base e A' (n + m) cap' (cs ++ ds) → w.grownBy w' (A.map (·.block)) → (A'.map (·.block) = A.map (·.block) ∨ A'.map (·.block) = some w.heap.size) → wpList P ops Q rest (a.put o.dst (.slice A' (n + m) cap')) w') : wpList P ops Q (o :: rest) a w :=
  wpList_plain hgd fun _ hK => wp_append_cells s x T ho e z by_ hT hi hzk hk hs hx hown hr h1 h63 hsz hbase fun A' cap' w' h2 h3 h4 => hK _ _ (h A' cap' w' h2 h3 h4)

theorem step_append_cells {ops : Array Oper} {o : Oper} {a : Act} {K : Act → World → Prop} {Q : Exit → Act → World → Prop} {E : Prop} (hw : Region.wanted o (yielded ops a.tmps) = true) (s x : Operand) (T : TypeId)
    (ho : o.op = .call { callee := .builtin .append, args := #[s, x], argTypes := #[T, T] }) (e : TypeId) (z : Value) (by_ : Nat) (hT : P.underlying T = some (.slice e)) (hi : (P.info? e).map (fun i => (i.zero, i.size, i.bytes)) = some (some z, k, by_)) (hzk : z.cells.size = k) (hk : 0 < k)
    (hs : a.eval s = .slice A n cap) {B : Option Addr} {m c : Nat} {ds : List Value} (hx : a.eval x = .slice B m c) (hown : OwnC k w base e A n cap cs) (hr : RdC k w B m c ds) (h1 : ∀ v ∈ ds, v.oneCell' = true) (h63 : n + m ≤ maxLen) (hsz : (n + m) * by_ ≤ 140737488355328) (hbase : base ≤ w.heap.size)
    (h : ∀ A' cap' w', OwnC k w' base e A' (n + m) cap' (cs ++ ds) → w.grownBy w' (A.map (·.block)) → (A'.map (·.block) = A.map (·.block) ∨ A'.map (·.block) = some w.heap.size) → K (a.put o.dst (.slice A' (n + m) cap')) w') :
    if Region.wanted o (yielded ops a.tmps) = true then Oper.wp P o a w K Q else E := by
  rw [if_pos hw]
  exact wp_append_cells s x T ho e z by_ hT hi hzk hk hs hx hown hr h1 h63 hsz hbase h
end

/-- Below, where a row of the call's own has grown. -/
theorem below_grown_own (hown : OwnC k w base t A n cap cs) {w0 : World} (hb : Below base w0 w) (hg : w.grownBy w' (A.map (·.block))) (hbase : base ≤ w.heap.size) : Below base w0 w' :=
  hb.grown hg hbase fun g hg' => by
    cases A with
    | none => simp at hg'
    | some a =>
      simp only [Option.map_some, Option.some.injEq] at hg'
      subst hg'
      exact (hown.lt a rfl).1

section
variable {P : Program}
theorem run_size {e : TypeId} (hi : (P.info? e).map (·.size) = some k) (W : World) : (sizeOf e).run P W = .ok k W := by
  cases hq : P.info? e with
  | none => simp [hq] at hi
  | some i =>
    have hs : i.size = k := by simpa [hq] using hi
    simp [sizeOf, typeInfo, hq, hs]
/-- v[m:] -/
theorem slice_lo (T e : TypeId) (hT : P.underlying T = some (.slice e)) (he : P.elem T = e) (hi : (P.info? e).map (·.size) = some k) (h : RdC k w A n cap cs) {m : Nat} (hm : m ≤ n) :
    ∃ A1, (∀ W, (Instr.slice T (.slice A n cap) (some (.int .i64 (m : Int))) none none).run P W = .ok (.slice A1 (n - m) (cap - m)) W) ∧ RdC k w A1 (n - m) (cap - m) (cs.drop (m * k)) := by
  refine ⟨_, fun W => ?_, h.cut hm⟩
  have hu : P.underlying T = some (.slice (P.elem T)) := by rw [he]; exact hT
  rw [run_slice_l (P := P) W T _ n cap hu .i64 (m : Int) (by omega) (by omega), he, run_size hi]
  simp only [Result.andThen, sliced, Int.toNat_natCast]
/-- v[:m] -/
theorem slice_hi (T e : TypeId) (hT : P.underlying T = some (.slice e)) (he : P.elem T = e) (hi : (P.info? e).map (·.size) = some k) (h : RdC k w A n cap cs) {m : Nat} (hm : m ≤ n) :
    (∀ W, (Instr.slice T (.slice A n cap) none (some (.int .i64 (m : Int))) none).run P W = .ok (.slice A m cap) W) ∧ RdC k w A m cap (cs.take (m * k)) := by
  refine ⟨fun W => ?_, h.first hm⟩
  have hc := h.le_cap
  have hu : P.underlying T = some (.slice (P.elem T)) := by rw [he]; exact hT
  have e0 : A.map (·.add 0) = A := by cases A <;> simp [Addr.add]
  rw [run_slice_h (P := P) W T _ n cap hu .i64 (m : Int) (by omega) (by omega), he, run_size hi]
  simp only [Result.andThen, sliced, Int.toNat_natCast, Nat.zero_mul, e0, Nat.sub_zero]
  congr 2
  split <;> rfl
end

/-- append([]T{}, x...): a copy. -/
theorem wpList_copy_cells {P : Program} {ops : Array Oper} {rest : List Oper} {o : Oper} {a : Act} {Q : Exit → Act → World → Prop} (hgd : o.guard = none) (s x : Operand) (T : TypeId)
    (ho : o.op = .call { callee := .builtin .append, args := #[s, x], argTypes := #[T, T] }) (e : TypeId) (z : Value) (by_ : Nat) (hT : P.underlying T = some (.slice e)) (hi : (P.info? e).map (fun i => (i.zero, i.size, i.bytes)) = some (some z, k, by_)) (hzk : z.cells.size = k) (hk : 0 < k)
    {c0 : Nat} (hs : a.eval s = .slice A 0 c0) {B : Option Addr} {m c : Nat} {ds : List Value} (hx : a.eval x = .slice B m c) (hown : OwnC k w base e A 0 c0 []) (hr : RdC k w B m c ds) (h1 : ∀ v ∈ ds, v.oneCell' = true) (h63 : m ≤ maxLen) (hsz : m * by_ ≤ 140737488355328) (hbase : base ≤ w.heap.size) {w0 : World} (hb : Below base w0 w)
    (h : ∀ A' cap' w', OwnC k w' base e A' m cap' ds → Below base w0 w' → wpList P ops Q rest (a.put o.dst (.slice A' m cap')) w') : wpList P ops Q (o :: rest) a w :=
  wpList_append_cells hgd s x T ho e z by_ hT hi hzk hk hs hx hown hr h1 (by omega) (by rw [Nat.zero_add]; exact hsz) hbase fun A' cap' w' h2 h3 _ => by
    have h4 := h A' cap' w' (by simpa using h2) (below_grown_own hown hb h3 hbase)
    rw [Nat.zero_add]
    exact h4
/-- append(v, x...), v of the call's own. -/
theorem wpList_more_cells {P : Program} {ops : Array Oper} {rest : List Oper} {o : Oper} {a : Act} {Q : Exit → Act → World → Prop} (hgd : o.guard = none) (s x : Operand) (T : TypeId)
    (ho : o.op = .call { callee := .builtin .append, args := #[s, x], argTypes := #[T, T] }) (e : TypeId) (z : Value) (by_ : Nat) (hT : P.underlying T = some (.slice e)) (hi : (P.info? e).map (fun i => (i.zero, i.size, i.bytes)) = some (some z, k, by_)) (hzk : z.cells.size = k) (hk : 0 < k)
    (hs : a.eval s = .slice A n cap) {B : Option Addr} {m c : Nat} {ds : List Value} (hx : a.eval x = .slice B m c) (hown : OwnC k w base e A n cap cs) (hr : RdC k w B m c ds) (h1 : ∀ v ∈ ds, v.oneCell' = true) (h63 : n + m ≤ maxLen) (hsz : (n + m) * by_ ≤ 140737488355328) (hbase : base ≤ w.heap.size) {w0 : World} (hb : Below base w0 w)
    (h : ∀ A' cap' w', OwnC k w' base e A' (n + m) cap' (cs ++ ds) → Below base w0 w' → w.grownBy w' (A.map (·.block)) → wpList P ops Q rest (a.put o.dst (.slice A' (n + m) cap')) w') : wpList P ops Q (o :: rest) a w :=
  wpList_append_cells hgd s x T ho e z by_ hT hi hzk hk hs hx hown hr h1 h63 hsz hbase fun A' cap' w' h2 h3 _ => h A' cap' w' h2 (below_grown_own hown hb h3 hbase) h3

/-! ### Texts, and numbers with a name -/

def strs (ss : List ByteArray) : List Value := ss.map .string
theorem strs_length (ss : List ByteArray) : (strs ss).length = ss.length := by simp [strs]
theorem strs_append (a b : List ByteArray) : strs (a ++ b) = strs a ++ strs b := by simp [strs]
theorem strs_one (ss : List ByteArray) : ∀ v ∈ strs ss, v.oneCell' = true := by
  intro v hv
  simp only [strs, List.mem_map] at hv
  obtain ⟨c, _, rfl⟩ := hv
  rfl
theorem strs_take (ss : List ByteArray) (i : Nat) : (strs ss).take (i * 1) = strs (ss.take i) := by simp [strs]
theorem strs_drop (ss : List ByteArray) (i : Nat) : (strs ss).drop (i * 1) = strs (ss.drop i) := by simp [strs]

/-- A slice of texts. -/
def RdS (w : World) (A : Option Addr) (n cap : Nat) (ss : List ByteArray) : Prop := RdC 1 w A n cap (strs ss)
theorem RdS.len (h : RdS w A n cap ss) : ss.length = n := by have := h.1; rw [strs_length] at this; omega
theorem RdS.at_ (h : RdS w A n cap ss) (hn : 0 < n) : ∃ b o, A = some ⟨b, o, none⟩ ∧ b < w.heap.size ∧ ∀ i, i < n → w.cell? ⟨b, o + i, none⟩ = some (.string (ss.getD i ByteArray.empty)) := by
  obtain ⟨b, o, rfl, hb, hc⟩ := RdC.at_ h (by omega) hn
  refine ⟨b, o, rfl, hb, fun i hi => hc i _ ?_⟩
  have hi' : i < ss.length := by rw [h.len]; exact hi
  simp [strs, List.getD, List.getElem?_eq_getElem hi']

def fld (f : ByteArray × Int) : List Value := [.string f.1, .int .i64 f.2]
def flds (fs : List (ByteArray × Int)) : List Value := fs.flatMap fld
theorem flds_length (fs : List (ByteArray × Int)) : (flds fs).length = fs.length * 2 := by
  induction fs with
  | nil => rfl
  | cons f fs ih => rw [flds, List.flatMap_cons, List.length_append, ← flds, ih]; simp [fld]; omega
theorem flds_append (a b : List (ByteArray × Int)) : flds (a ++ b) = flds a ++ flds b := by simp [flds]
theorem flds_one (fs : List (ByteArray × Int)) : ∀ v ∈ flds fs, v.oneCell' = true := by
  intro v hv
  simp only [flds, List.mem_flatMap, fld] at hv
  obtain ⟨c, _, hv⟩ := hv
  simp at hv
  rcases hv with rfl | rfl <;> rfl
theorem flds_take (fs : List (ByteArray × Int)) : ∀ i : Nat, (flds fs).take (i * 2) = flds (fs.take i) := by
  induction fs with
  | nil => intro i; simp [flds]
  | cons f fs ih =>
    intro i
    cases i with
    | zero => simp [flds]
    | succ i =>
      have e : (i + 1) * 2 = i * 2 + 2 := by omega
      rw [e, List.take_succ_cons, show flds (f :: fs) = Value.string f.1 :: Value.int .i64 f.2 :: flds fs from rfl, List.take_succ_cons, List.take_succ_cons, ih i]
      rfl
theorem flds_drop (fs : List (ByteArray × Int)) : ∀ i : Nat, (flds fs).drop (i * 2) = flds (fs.drop i) := by
  induction fs with
  | nil => intro i; simp [flds]
  | cons f fs ih =>
    intro i
    cases i with
    | zero => simp
    | succ i =>
      have e : (i + 1) * 2 = i * 2 + 2 := by omega
      rw [e, List.drop_succ_cons, show flds (f :: fs) = Value.string f.1 :: Value.int .i64 f.2 :: flds fs from rfl, List.drop_succ_cons, List.drop_succ_cons, ih i]
theorem flds_get (fs : List (ByteArray × Int)) : ∀ i : Nat, i < fs.length → (flds fs)[i * 2]? = some (.string (fs.getD i (ByteArray.empty, 0)).1) ∧ (flds fs)[i * 2 + 1]? = some (.int .i64 (fs.getD i (ByteArray.empty, 0)).2) := by
  induction fs with
  | nil => intro i hi; simp at hi
  | cons f fs ih =>
    intro i hi
    cases i with
    | zero => exact ⟨rfl, rfl⟩
    | succ i =>
      have e : (i + 1) * 2 = i * 2 + 2 := by omega
      have hi' : i < fs.length := by simpa using hi
      rw [e, show flds (f :: fs) = Value.string f.1 :: Value.int .i64 f.2 :: flds fs from rfl]
      have := ih i hi'
      simpa using this

/-- A slice of numbers with a name. -/
def RdF (w : World) (A : Option Addr) (n cap : Nat) (fs : List (ByteArray × Int)) : Prop := RdC 2 w A n cap (flds fs)
theorem RdF.len (h : RdF w A n cap fs) : fs.length = n := by have := h.1; rw [flds_length] at this; omega
theorem RdF.at_ (h : RdF w A n cap fs) (hn : 0 < n) : ∃ b o, A = some ⟨b, o, none⟩ ∧ b < w.heap.size ∧ ∀ i, i < n → w.cell? ⟨b, o + i * 2, none⟩ = some (.string (fs.getD i (ByteArray.empty, 0)).1) ∧ w.cell? ⟨b, o + i * 2 + 1, none⟩ = some (.int .i64 (fs.getD i (ByteArray.empty, 0)).2) := by
  obtain ⟨b, o, rfl, hb, hc⟩ := RdC.at_ h (by omega) hn
  refine ⟨b, o, rfl, hb, fun i hi => ?_⟩
  have hg := flds_get fs i (by rw [h.len]; exact hi)
  exact ⟨hc _ _ hg.1, by rw [Nat.add_assoc]; exact hc _ _ hg.2⟩

theorem RdF.get {b o : Nat} (h : RdF w (some ⟨b, o, none⟩) n cap fs) {i : Nat} (hi : i < n) : w.cell? ⟨b, o + i * 2, none⟩ = some (.string (fs.getD i (ByteArray.empty, 0)).1) ∧ w.cell? ⟨b, o + i * 2 + 1, none⟩ = some (.int .i64 (fs.getD i (ByteArray.empty, 0)).2) := by
  obtain ⟨b', o', e, _, hc⟩ := h.at_ (by omega)
  injection e with e
  injection e with e1 e2
  subst e1 e2
  exact hc i hi
theorem RdS.get {b o : Nat} (h : RdS w (some ⟨b, o, none⟩) n cap ss) {i : Nat} (hi : i < n) : w.cell? ⟨b, o + i, none⟩ = some (.string (ss.getD i ByteArray.empty)) := by
  obtain ⟨b', o', e, _, hc⟩ := h.at_ (by omega)
  injection e with e
  injection e with e1 e2
  subst e1 e2
  exact hc i hi
theorem bcell {b o : Nat} {v : Value} (hb : Below w.heap.size w w') (hc : w.cell? ⟨b, o, none⟩ = some v) : w'.cell? ⟨b, o, none⟩ = some v := (hb.cell (p := ⟨b, o, none⟩) (World.block_lt_of_cell? w _ hc)).trans hc

end Go.Proofs.Ytfbooapgjhhjmaa.MemRow
