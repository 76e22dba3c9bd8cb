/-
  Steps of a region that draws its order: append([]T{}, x...), and append(v, x...) for a v of the call's own.
-/
import Derived.Test.YtgldheeplhcmcaaEvLawC
namespace Go.Proofs.Ytgldheeplhcmcaa.EvLaw
open Go.RowKit Go.Proofs.Ytgldheeplhcmcaa.MemRow

theorem step_copy_cells {P : Program} {k : Nat} {w : World} {base : Nat} {A : Option Addr} {ops : Array Oper} {o : Oper} {a : Act} {K : Act → World → Prop} {Q : Exit → Act → World → Prop} {E : Prop} (hw : Region.wanted o (yielded ops a.tmps) = true) (s x : Operand) (T : TypeId)
    (ho : o.op = .call { callee := .builtin .append, args := #[s, x], argTypes := #[T, T] }) (e : TypeId) (z : Value) (by_ : Nat) (hT : P.underlying T = some (.slice e)) (hi : (P.info? e).map (fun i => (i.zero, i.size, i.bytes)) = some (some z, k, by_)) (hzk : z.cells.size = k) (hk : 0 < k)
    {c0 : Nat} (hs : a.eval s = .slice A 0 c0) {B : Option Addr} {m c : Nat} {ds : List Value} (hx : a.eval x = .slice B m c) (hown : OwnC k w base e A 0 c0 []) (hr : RdC k w B m c ds) (h1 : ∀ v ∈ ds, v.oneCell' = true) (h63 : m ≤ maxLen) (hsz : m * by_ ≤ 140737488355328) (hbase : base ≤ w.heap.size) {w0 : World} (hb : Below base w0 w)
    (h : ∀ A' cap' w', OwnC k w' base e A' m cap' ds → Below base w0 w' → K (a.put o.dst (.slice A' m cap')) w') :
    if Region.wanted o (yielded ops a.tmps) = true then Oper.wp P o a w K Q else E :=
  step_append_cells hw s x T ho e z by_ hT hi hzk hk hs hx hown hr h1 (by omega) (by rw [Nat.zero_add]; exact hsz) hbase fun A' cap' w' h2 h3 _ => by
    have h4 := h A' cap' w' (by simpa using h2) (below_grown_own hown hb h3 hbase)
    rw [Nat.zero_add]
    exact h4
theorem step_more_cells {P : Program} {k : Nat} {w : World} {base : Nat} {A : Option Addr} {n cap : Nat} {cs : List Value} {ops : Array Oper} {o : Oper} {a : Act} {K : Act → World → Prop} {Q : Exit → Act → World → Prop} {E : Prop} (hw : Region.wanted o (yielded ops a.tmps) = true) (s x : Operand) (T : TypeId)
    (ho : o.op = .call { callee := .builtin .append, args := #[s, x], argTypes := #[T, T] }) (e : TypeId) (z : Value) (by_ : Nat) (hT : P.underlying T = some (.slice e)) (hi : (P.info? e).map (fun i => (i.zero, i.size, i.bytes)) = some (some z, k, by_)) (hzk : z.cells.size = k) (hk : 0 < k)
    (hs : a.eval s = .slice A n cap) {B : Option Addr} {m c : Nat} {ds : List Value} (hx : a.eval x = .slice B m c) (hown : OwnC k w base e A n cap cs) (hr : RdC k w B m c ds) (h1 : ∀ v ∈ ds, v.oneCell' = true) (h63 : n + m ≤ maxLen) (hsz : (n + m) * by_ ≤ 140737488355328) (hbase : base ≤ w.heap.size) {w0 : World} (hb : Below base w0 w)
    (h : ∀ A' cap' w', OwnC k w' base e A' (n + m) cap' (cs ++ ds) → Below base w0 w' → K (a.put o.dst (.slice A' (n + m) cap')) w') :
    if Region.wanted o (yielded ops a.tmps) = true then Oper.wp P o a w K Q else E :=
  step_append_cells hw s x T ho e z by_ hT hi hzk hk hs hx hown hr h1 h63 hsz hbase fun A' cap' w' h2 h3 _ => h A' cap' w' h2 (below_grown_own hown hb h3 hbase)

end Go.Proofs.Ytgldheeplhcmcaa.EvLaw
