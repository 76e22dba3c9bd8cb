/-
  Words of the walks of layer 6's statements: what is asked of the program's query; shown.
-/
import Derived.Test.YtfbooapgjhhjmaaQuRefY
import Derived.Test.YtfbooapgjhhjmaaQuRefN
import Derived.Test.YtfbooapgjhhjmaaQuFew
namespace Go.Proofs.Ytfbooapgjhhjmaa.QlLaw
open Go.RowKit Go.WideShapes Go.ChangeShapes Go.Proofs.Ytfbooapgjhhjmaa.MemRow Go.Proofs.Ytfbooapgjhhjmaa.Ev Go.Proofs.Ytfbooapgjhhjmaa.NameMath Go.Proofs.Ytfbooapgjhhjmaa.NameWalk Go.Proofs.Ytfbooapgjhhjmaa.EvWalk Go.Proofs.Ytfbooapgjhhjmaa.Qu Go.Proofs.Ytfbooapgjhhjmaa.QuWalk Go.Proofs.Ytfbooapgjhhjmaa.Open

/-- What is asked of the program's calls of layer 6. -/
structure QApi : Prop where
  may : ∀ (v : Value) (q : List Cl) (w : World), IsQ w v q → QOk q → Calls Try.prog 15 #[v] w fun e w' => e = .returned (.int .i64 (mayQ q)) ∧ Below w.heap.size w w'
  norm : ∀ (v : Value) (q : List Cl) (w : World), IsQ w v q → QOk q → q.length ≤ 100 → (∀ c ∈ q, c.tags.length ≤ 100 ∧ c.types.length ≤ 100) → Calls Try.prog 13 #[v] w fun e w' => ∃ u, e = .returned u ∧ IsQ w' u (normQ q) ∧ Below w.heap.size w w'
  mtch : ∀ (v u : Value) (q : List Cl) (ev : Ev) (w : World), IsQ w v q → IsEv w u ev → Calls Try.prog 18 #[v, u] w fun e w' => e = .returned (.bool (matchQ q ev)) ∧ Below w.heap.size w w'
  same : ∀ (v u : Value) (q r : List Cl) (w : World), IsQ w v q → IsQ w u r → Calls Try.prog 17 #[v, u] w fun e w' => ∃ R : Bool, (R = true ↔ q = r) ∧ e = .returned (.bool R) ∧ Below w.heap.size w w'

def exE : Ev := ⟨⟨#[115]⟩, ⟨#[116]⟩, [], []⟩
theorem clause_none (e : Ev) : clauseB noCl e = true := rfl

set_option maxHeartbeats 8000000 in
set_option maxRecDepth 100000 in
theorem shownQ_any (api : QApi) (w : World) :
    Calls Try.prog 10 #[] w fun e w' => e = .returned (.bool true) ∧ Below w.heap.size w w' := by
  have b1 : Below w.heap.size w (w.alloc (.cells #[.string ⟨#[115]⟩, .string ⟨#[116]⟩, .slice none 0 0, .slice none 0 0] 33)) := (Below.refl _ _).alloc (Nat.le_refl _) _
  have e1 := EvAt.new w (.string ⟨#[115]⟩) (.string ⟨#[116]⟩) (.slice none 0 0) (.slice none 0 0)
  go_enter Try.func10, Try.ntmps10
  go_upto_region 2 with (fail)
  generalize w.alloc (.cells #[.string ⟨#[115]⟩, .string ⟨#[116]⟩, .slice none 0 0, .slice none 0 0] 33) = w1 at *
  have k0 := e1.c0
  have k1 := e1.c1
  have k2 := e1.c2
  have k3 := e1.c3
  go_wp2_with fail
  refine (api.mtch (.agg #[.slice none 0 0]) (.agg #[.string ⟨#[115]⟩, .string ⟨#[116]⟩, .slice none 0 0, .slice none 0 0]) [] exE w1 ⟨_, _, _, rfl, RdQ.nil _⟩ ⟨none, 0, 0, none, 0, 0, rfl, RdC.nil _, RdC.nil _⟩).mono ?_
  rintro e w2 ⟨rfl, b2⟩
  have hm : matchQ [] exE = false := rfl
  rw [hm]
  have e2 := e1.below b2 e1.lt
  have B2 := below_chain b1 b2
  have al : Below w2.heap.size w2 (w2.alloc (.cells #[.slice none 0 0, .slice none 0 0] 36)) := (Below.refl _ _).alloc (Nat.le_refl _) _
  have e3 := e2.below al e2.lt
  have B3 := below_chain B2 al
  have c3 := ClAt.new w2 (.slice none 0 0) (.slice none 0 0)
  have hq : RdQ (w2.alloc (.cells #[.slice none 0 0, .slice none 0 0] 36)) (some ⟨w2.heap.size, 0, none⟩) 1 1 [noCl] := ⟨rfl, Nat.le_refl _, by decide, fun _ => ⟨w2.heap.size, 0, rfl, c3.lt, fun i hi => by
    obtain rfl : i = 0 := by omega
    exact ⟨none, 0, 0, none, 0, 0, c3.c0, c3.c1, RdC.nil _, RdC.nil _⟩⟩⟩
  clear k0 k1 k2 k3 e1 b1 b2 e2 B2 hm c3
  have k0 := e3.c0
  have k1 := e3.c1
  have k2 := e3.c2
  have k3 := e3.c3
  go_wp2_with fail
  refine (api.mtch _ (.agg #[.string ⟨#[115]⟩, .string ⟨#[116]⟩, .slice none 0 0, .slice none 0 0]) [noCl] exE _ ⟨_, _, _, rfl, hq⟩ ⟨none, 0, 0, none, 0, 0, rfl, RdC.nil _, RdC.nil _⟩).mono ?_
  rintro e w4 ⟨rfl, b4⟩
  have hm : matchQ [noCl] exE = true := rfl
  rw [hm]
  have B4 := below_chain B3 b4
  go_wp2_with fail
  go_ret
  exact ⟨rfl, B4⟩

/-! ### Boxes that are written -/
section
variable {wr w w' : World} {c0 d0 e0 e1 e2 e3 : Value}
theorem qq_set0 (h : QqAt wr w c0 d0) (x : Value) : QqAt (wr.setCell ⟨w.heap.size, 0, none⟩ x) w x d0 := ⟨h.eq.set x, h.er.far (by omega) x, h.bel.setCell (Nat.le_refl _) x⟩
theorem qq_set1 (h : QqAt wr w c0 d0) (x : Value) : QqAt (wr.setCell ⟨w.heap.size + 1, 0, none⟩ x) w c0 x := ⟨h.eq.far (by omega) x, h.er.set x, h.bel.setCell (by show w.heap.size ≤ w.heap.size + 1; omega) x⟩
theorem qe_set0 (h : QeAt wr w c0 e0 e1 e2 e3) (x : Value) : QeAt (wr.setCell ⟨w.heap.size, 0, none⟩ x) w x e0 e1 e2 e3 := ⟨h.eq.set x, h.ee.far (by omega) x, h.bel.setCell (Nat.le_refl _) x⟩
theorem qe_set2 (h : QeAt wr w c0 e0 e1 e2 e3) (x : Value) : QeAt (wr.setCell ⟨w.heap.size + 1, 2, none⟩ x) w c0 e0 e1 x e3 := ⟨h.eq.far (by omega) x, h.ee.set2 x, h.bel.setCell (by show w.heap.size ≤ w.heap.size + 1; omega) x⟩
end
theorem ownQ_set {w0 w : World} {base : Nat} {A : Option Addr} {n cap : Nat} {q : List Cl} {g i : Nat} {x : Value} (h : OwnQ w0 w base A n cap q) (hg : g < base) : OwnQ w0 (w.setCell ⟨g, i, none⟩ x) base A n cap q := OwnQ.grown h (grownSet w g i x) hg
theorem OwnQ.isq {w0 w : World} {base : Nat} {A : Option Addr} {n cap : Nat} {q : List Cl} (h : OwnQ w0 w base A n cap q) (hb : Below w0.heap.size w0 w) : IsQ w (.agg #[.slice A n cap]) q := ⟨A, n, cap, rfl, OwnQ.rd h hb⟩

end Go.Proofs.Ytfbooapgjhhjmaa.QlLaw
