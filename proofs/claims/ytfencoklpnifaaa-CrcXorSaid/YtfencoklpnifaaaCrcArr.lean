/-
  Opening an argument that is an array of integers. No Go text here.
-/
import Derived.Test.YtfencoklpnifaaaOpen
namespace Go.Proofs.Ytfencoklpnifaaa.Open
open Go.RowKit Go.ChangeShapes Go.WideShapes

theorem mapM_each {α β : Type} {f : α → Option β} : ∀ (L : List α) (ys : List β), L.mapM f = some ys → ∀ i ∈ L, ∃ y, f i = some y
  | [], _, _, i, hi => by cases hi
  | a :: L, ys, h, i, hi => by
    rw [List.mapM_cons] at h
    cases ha : f a with
    | none => simp [ha] at h
    | some y =>
      cases hL : L.mapM f with
      | none => simp [ha, hL] at h
      | some zs =>
        rcases List.mem_cons.1 hi with rfl | hm
        · exact ⟨y, ha⟩
        · exact mapM_each L zs hL i hm

section
variable {H : Type} {enc : TypeId × Value → H} {P : Program} {W : World} {base : Nat} {t e : TypeId} {v : Value} {d : DataW H} {p : List MemPlace}

/-- Each cell of an array of integers is one. -/
theorem op_arr {k : IntKind} {n : Nat} (ht : P.underlying t = some (.array n e)) (he : P.underlying e = some (.int k)) (hce : P.cellsOf e = 1) (hct : P.cellsOf t = n) (ho : Value.okWide P W .any base t v) (h : DataW.Trod enc P W 0 (fun _ => true) true t v d p) :
    ∃ cs : Array Value, v = .agg cs ∧ cs.size = n ∧ ∀ i, i < n → ∃ x, cs.toList[i]? = some (.int k x) ∧ (Lit.int k x).wf = true := by
  simp only [Value.okWide, ht] at ho
  obtain ⟨cs, rfl, hs, _⟩ := ho
  refine ⟨cs, rfl, by rw [hs, hct], fun i hi => ?_⟩
  obtain ⟨fuel, hf⟩ := h
  cases fuel with
  | zero => simp [DataW.trod] at hf
  | succ m =>
    rw [DataW.trod_step] at hf
    unfold DataW.trodStep at hf
    simp only [ht, Value.cells] at hf
    split at hf
    · simp only [Option.map_eq_some_iff] at hf
      obtain ⟨ys, hy, _⟩ := hf
      obtain ⟨y, hyi⟩ := mapM_each _ _ hy i (List.mem_range.2 hi)
      obtain ⟨x, ex, _, wx⟩ := DataW.trod_int he hyi
      rw [hce, Nat.mul_one] at ex
      refine ⟨x, ?_, wx⟩
      have h2 := congrArg (fun l : List Value => l[0]?) ex
      simpa using h2
    · cases hf

theorem op_arr2 {k : IntKind} (ht : P.underlying t = some (.array 2 e)) (he : P.underlying e = some (.int k)) (hce : P.cellsOf e = 1) (hct : P.cellsOf t = 2) (ho : Value.okWide P W .any base t v) (h : DataW.Trod enc P W 0 (fun _ => true) true t v d p) :
    ∃ a b : Int, v = .agg #[.int k a, .int k b] ∧ (Lit.int k a).wf = true ∧ (Lit.int k b).wf = true := by
  obtain ⟨cs, rfl, hs, hc⟩ := op_arr ht he hce hct ho h
  obtain ⟨l⟩ := cs
  match l, hs with
  | [c0, c1], _ =>
    obtain ⟨a, ha, wa⟩ := hc 0 (by omega)
    obtain ⟨b, hb, wb⟩ := hc 1 (by omega)
    simp at ha hb
    subst ha hb
    exact ⟨a, b, rfl, wa, wb⟩

theorem op_arr4 {k : IntKind} (ht : P.underlying t = some (.array 4 e)) (he : P.underlying e = some (.int k)) (hce : P.cellsOf e = 1) (hct : P.cellsOf t = 4) (ho : Value.okWide P W .any base t v) (h : DataW.Trod enc P W 0 (fun _ => true) true t v d p) :
    ∃ a b c d : Int, v = .agg #[.int k a, .int k b, .int k c, .int k d] ∧ (Lit.int k a).wf = true ∧ (Lit.int k b).wf = true ∧ (Lit.int k c).wf = true ∧ (Lit.int k d).wf = true := by
  obtain ⟨cs, rfl, hs, hc⟩ := op_arr ht he hce hct ho h
  obtain ⟨l⟩ := cs
  match l, hs with
  | [c0, c1, c2, c3], _ =>
    obtain ⟨a, ha, wa⟩ := hc 0 (by omega)
    obtain ⟨b, hb, wb⟩ := hc 1 (by omega)
    obtain ⟨c, hcc, wc⟩ := hc 2 (by omega)
    obtain ⟨d, hd, wd⟩ := hc 3 (by omega)
    simp at ha hb hcc hd
    subst ha hb hcc hd
    exact ⟨a, b, c, d, rfl, wa, wb, wc, wd⟩
end

end Go.Proofs.Ytfencoklpnifaaa.Open
