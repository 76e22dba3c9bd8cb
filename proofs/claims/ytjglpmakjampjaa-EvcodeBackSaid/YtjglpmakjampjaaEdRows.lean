/-
  Rows of events of a call's own; all events of some bytes.
-/
import Derived.Test.YtjglpmakjampjaaEcAll
import Derived.Test.YtjglpmakjampjaaEcOpen
namespace Go.Proofs.Ytjglpmakjampjaa.EdWalk
open Go.RowKit Go.Proofs.Ytjglpmakjampjaa.MemRow Go.Proofs.Ytjglpmakjampjaa.Ev Go.Proofs.Ytjglpmakjampjaa.NameMath Go.Proofs.Ytjglpmakjampjaa.NameWalk Go.Proofs.Ytjglpmakjampjaa.EvWalk Go.Proofs.Ytjglpmakjampjaa.NumMath Go.Proofs.Ytjglpmakjampjaa.NumMem Go.Proofs.Ytjglpmakjampjaa.NumWalk Go.Proofs.Ytjglpmakjampjaa.EcWalk

/-! ### All events, without a count -/
def allF (l : List UInt8) : Option (List Ev) := allE l.length l
theorem allE_fuel (l : List UInt8) : ∀ d : Nat, allE (l.length + d) l = allF l
  | 0 => rfl
  | d + 1 => by rw [← Nat.add_assoc, allE_more _ _ (by omega), allE_fuel l d]
theorem allE_enough {k : Nat} {l : List UInt8} (h : l.length ≤ k) : allE k l = allF l := by
  obtain ⟨d, rfl⟩ := Nat.exists_eq_add_of_le h
  exact allE_fuel l d
theorem allF_nil : allF [] = some [] := rfl
theorem allF_none {l : List UInt8} (h : l ≠ []) (ht : takeE l false = none) : allF l = none := by
  cases l with
  | nil => exact absurd rfl h
  | cons c l => rw [allF, List.length_cons, allE, if_neg h, ht]
theorem allF_some {l l' : List UInt8} {e : Ev} (h : l ≠ []) (ht : takeE l false = some (e, l')) : allF l = (allF l').map (e :: ·) := by
  have hlt := takeE_lt ht
  cases l with
  | nil => exact absurd rfl h
  | cons c l =>
    rw [allF, List.length_cons, allE, if_neg h, ht]
    simp only
    rw [allE_enough]
    rw [List.length_cons] at hlt
    omega
theorem allF_encs (es : List Ev) (h : ∀ e ∈ es, mayE e = 0) : allF (es.flatMap encE) = some es := allE_encs es _ h (Nat.le_refl _)

/-! ### Rows of events -/
/-- The cells cs are the events es; their own rows lie from 'base' on. -/
def EvsC (w : World) (base : Nat) : List Ev → List Value → Prop
  | [], cs => cs = []
  | e :: es, cs => ∃ T nT cT F nF cF cs', cs = .string e.s :: .string e.t :: .slice T nT cT :: .slice F nF cF :: cs' ∧ OwnC 1 w base 9 T nT cT (MemRow.strs e.tags) ∧ OwnC 2 w base 52 F nF cF (flds e.fs) ∧ EvsC w base es cs'
theorem EvsC.map {w w' : World} {base base' : Nat} (h1 : ∀ (A : Option Addr) (n c : Nat) (x : List Value), OwnC 1 w base 9 A n c x → OwnC 1 w' base' 9 A n c x) (h2 : ∀ (A : Option Addr) (n c : Nat) (x : List Value), OwnC 2 w base 52 A n c x → OwnC 2 w' base' 52 A n c x) :
    ∀ (es : List Ev) (cs : List Value), EvsC w base es cs → EvsC w' base' es cs
  | [], _, h => h
  | _ :: es, _, ⟨T, nT, cT, F, nF, cF, cs', e, o1, o2, h⟩ => ⟨T, nT, cT, F, nF, cF, cs', e, h1 _ _ _ _ o1, h2 _ _ _ _ o2, EvsC.map h1 h2 es cs' h⟩
theorem EvsC.snoc {w : World} {base : Nat} {e : Ev} {T F : Option Addr} {nT cT nF cF : Nat} (o1 : OwnC 1 w base 9 T nT cT (MemRow.strs e.tags)) (o2 : OwnC 2 w base 52 F nF cF (flds e.fs)) :
    ∀ (es : List Ev) (cs : List Value), EvsC w base es cs → EvsC w base (es ++ [e]) (cs ++ [.string e.s, .string e.t, .slice T nT cT, .slice F nF cF])
  | [], cs, h => by
    obtain rfl : cs = [] := h
    exact ⟨T, nT, cT, F, nF, cF, [], rfl, o1, o2, rfl⟩
  | x :: es, cs, ⟨T1, n1, c1, F1, m1, d1, cs', hc, p1, p2, h⟩ => by
    subst hc
    exact ⟨T1, n1, c1, F1, m1, d1, cs' ++ [.string e.s, .string e.t, .slice T nT cT, .slice F nF cF], rfl, p1, p2, EvsC.snoc o1 o2 es cs' h⟩
theorem EvsC.at_ {w : World} {base : Nat} : ∀ (es : List Ev) (cs : List Value), EvsC w base es cs → ∀ i, i < es.length →
    ∃ T nT cT F nF cF, cs[i * 4]? = some (.string (es.getD i noEv).s) ∧ cs[i * 4 + 1]? = some (.string (es.getD i noEv).t) ∧ cs[i * 4 + 2]? = some (.slice T nT cT) ∧ cs[i * 4 + 3]? = some (.slice F nF cF) ∧ OwnC 1 w base 9 T nT cT (MemRow.strs (es.getD i noEv).tags) ∧ OwnC 2 w base 52 F nF cF (flds (es.getD i noEv).fs)
  | [], _, _, i, hi => by simp at hi
  | e :: es, cs, ⟨T, nT, cT, F, nF, cF, cs', hc, o1, o2, h⟩, i, hi => by
    subst hc
    cases i with
    | zero => exact ⟨T, nT, cT, F, nF, cF, rfl, rfl, rfl, rfl, o1, o2⟩
    | succ i =>
      obtain ⟨T1, n1, c1, F1, m1, d1, q0, q1, q2, q3, p1, p2⟩ := EvsC.at_ es cs' h i (by simpa using hi)
      have e4 : (i + 1) * 4 = i * 4 + 4 := by omega
      rw [e4]
      exact ⟨T1, n1, c1, F1, m1, d1, by simpa using q0, by simpa using q1, by simpa using q2, by simpa using q3, by simpa using p1, by simpa using p2⟩

/-- Two rows of a call's own of unlike elements lie in unlike blocks. -/
theorem own_unlike {k k' : Nat} {w : World} {base base' : Nat} {t t' : TypeId} {A A' : Option Addr} {n n' cap cap' : Nat} {cs cs' : List Value} (h : OwnC k w base t A n cap cs) (h' : OwnC k' w base' t' A' n' cap' cs') (ht : t ≠ t') : ∀ a, A = some a → some a.block ≠ A'.map (·.block) := by
  rintro a rfl e
  cases A' with
  | none => cases e
  | some a' =>
    simp only [Option.map_some, Option.some.injEq] at e
    rcases h.2 with ⟨hv, _⟩ | ⟨g, c, cur, hv, _, hg, _⟩
    · cases hv
    · rcases h'.2 with ⟨hv', _⟩ | ⟨g', c', cur', hv', _, hg', _⟩
      · cases hv'
      · injection hv with e1
        injection e1 with e1
        injection hv' with e2
        injection e2 with e2
        subst e1 e2
        simp only at e
        subst e
        rw [hg] at hg'
        injection hg' with hg'
        injection hg' with _ e3
        exact ht e3

/-- A slice of a call's own that holds events, their rows its own too. -/
def OwnE (w : World) (base : Nat) (A : Option Addr) (n cap : Nat) (es : List Ev) : Prop := ∃ cs, OwnC 4 w base 26 A n cap cs ∧ es.length = n ∧ EvsC w base es cs
theorem OwnE.nil (w : World) (base : Nat) : OwnE w base none 0 0 [] := ⟨[], OwnC.nil _ _, rfl, rfl⟩
theorem OwnE.len {w : World} {base : Nat} {A : Option Addr} {n cap : Nat} {es : List Ev} (h : OwnE w base A n cap es) : es.length = n := by
  obtain ⟨_, _, h, _⟩ := h
  exact h
theorem OwnE.lower {w : World} {base base' : Nat} {A : Option Addr} {n cap : Nat} {es : List Ev} (h : OwnE w base A n cap es) (hb : base' ≤ base) : OwnE w base' A n cap es := by
  obtain ⟨cs, o, hl, hc⟩ := h
  exact ⟨cs, own_lower o hb, hl, EvsC.map (fun _ _ _ _ h => own_lower h hb) (fun _ _ _ _ h => own_lower h hb) es cs hc⟩
theorem OwnE.below {w w' : World} {base : Nat} {A : Option Addr} {n cap : Nat} {es : List Ev} (h : OwnE w base A n cap es) (hb : Below w.heap.size w w') : OwnE w' base A n cap es := by
  obtain ⟨cs, o, hl, hc⟩ := h
  exact ⟨cs, OwnC.below o hb, hl, EvsC.map (fun _ _ _ _ h => OwnC.below h hb) (fun _ _ _ _ h => OwnC.below h hb) es cs hc⟩
theorem own_off' {k : Nat} {w w' : World} {base : Nat} {t : TypeId} {A : Option Addr} {n cap : Nat} {cs : List Value} {g : Nat} (h : OwnC k w base t A n cap cs) (hg : w.grownBy w' (some g)) (hb : g < base) : OwnC k w' base t A n cap cs :=
  OwnC.grown h hg fun a hA e => by
    have := (OwnC.lt h a hA).1
    injection e with e
    omega
theorem OwnE.off {w w' : World} {base : Nat} {A : Option Addr} {n cap : Nat} {es : List Ev} {g : Nat} (h : OwnE w base A n cap es) (hg : w.grownBy w' (some g)) (hb : g < base) : OwnE w' base A n cap es := by
  obtain ⟨cs, o, hl, hc⟩ := h
  exact ⟨cs, own_off' o hg hb, hl, EvsC.map (fun _ _ _ _ h => own_off' h hg hb) (fun _ _ _ _ h => own_off' h hg hb) es cs hc⟩
theorem OwnE.rd {w : World} {base : Nat} {A : Option Addr} {n cap : Nat} {es : List Ev} (h : OwnE w base A n cap es) : RdE w A n cap es := by
  obtain ⟨cs, o, hl, hc⟩ := h
  have r := OwnC.rd o
  refine ⟨hl, r.2.1, r.2.2.1, fun hn => ?_⟩
  obtain ⟨b, a, hA, hlt, hcell⟩ := RdC.at_ r (by omega) hn
  refine ⟨b, a, hA, hlt, fun i hi => ?_⟩
  obtain ⟨T, nT, cT, F, nF, cF, q0, q1, q2, q3, p1, p2⟩ := EvsC.at_ es cs hc i (by omega)
  exact ⟨T, nT, cT, F, nF, cF, hcell _ _ q0, by rw [Nat.add_assoc]; exact hcell _ _ q1, by rw [Nat.add_assoc]; exact hcell _ _ q2, by rw [Nat.add_assoc]; exact hcell _ _ q3, OwnC.rd p1, OwnC.rd p2⟩

theorem event_info : (Try.prog.info? 26).map (fun i => (i.zero, i.size, i.bytes)) = some (some (.agg #[.string ⟨#[]⟩, .string ⟨#[]⟩, .slice none 0 0, .slice none 0 0]), 4, 80) := by kernel_rfl

/-- An event more. -/
theorem OwnE.more {w w' : World} {base : Nat} {A A' : Option Addr} {n cap cap' : Nat} {es : List Ev} {cs : List Value} {e : Ev} {T F : Option Addr} {nT cT nF cF : Nat} (ho : OwnC 4 w base 26 A n cap cs) (hl : es.length = n) (hc : EvsC w base es cs)
    (o1 : OwnC 1 w base 9 T nT cT (MemRow.strs e.tags)) (o2 : OwnC 2 w base 52 F nF cF (flds e.fs))
    (ho' : OwnC 4 w' base 26 A' (n + 1) cap' (cs ++ [.string e.s, .string e.t, .slice T nT cT, .slice F nF cF])) (hg : w.grownBy w' (A.map (·.block))) : OwnE w' base A' (n + 1) cap' (es ++ [e]) :=
  have k1 : ∀ (B : Option Addr) (m c : Nat) (x : List Value), OwnC 1 w base 9 B m c x → OwnC 1 w' base 9 B m c x := fun _ _ _ _ h => OwnC.grown h hg (own_unlike h ho (by decide))
  have k2 : ∀ (B : Option Addr) (m c : Nat) (x : List Value), OwnC 2 w base 52 B m c x → OwnC 2 w' base 52 B m c x := fun _ _ _ _ h => OwnC.grown h hg (own_unlike h ho (by decide))
  ⟨_, ho', by rw [List.length_append, hl]; rfl, EvsC.snoc (k1 _ _ _ _ o1) (k2 _ _ _ _ o2) es cs (EvsC.map k1 k2 es cs hc)⟩

/-- How long a slice's value says it is. -/
def sliceLen : Value → Nat
  | .slice _ n _ => n
  | _ => 0

/-- What all events of some bytes come to. -/
def AllOut (l : List UInt8) (w : World) (e : Ending) (w' : World) : Prop :=
  Below w.heap.size w w' ∧ ((∃ es A n cap, allF l = some es ∧ e = .returned (.tuple #[.slice A n cap, .int .i64 0]) ∧ OwnE w' w.heap.size A n cap es) ∨ (allF l = none ∧ e = .returned (.tuple #[.slice none 0 0, .int .i64 2])))

end Go.Proofs.Ytjglpmakjampjaa.EdWalk
