/-
  Opening an argument that is an array of texts. No Go text here.
-/
import Derived.Test.YtgldheeplhcmcaaOpen
namespace Go.Proofs.Ytgldheeplhcmcaa.Open
open Go.RowKit Go.ChangeShapes Go.WideShapes

theorem mapM_each {α β : Type} {f : α → Option β} : ∀ (L : List α) (ys : List β), L.mapM f = some ys → ∀ i ∈ L, ∃ y, f i = some y
  | [], _, _, i, hi => by cases hi
  | a :: L, ys, h, i, hi => by
    rw [List.mapM_cons] at h
    cases ha : f a with
    | none => simp [ha] at h
    | some y =>
      cases hL : L.mapM f with
      | none => simp [ha, hL] at h
      | some zs =>
        rcases List.mem_cons.1 hi with rfl | hm
        · exact ⟨y, ha⟩
        · exact mapM_each L zs hL i hm

section
variable {H : Type} {enc : TypeId × Value → H} {P : Program} {W : World} {base : Nat} {t e : TypeId} {v : Value} {d : DataW H} {p : List MemPlace}

/-- Each cell of an array of strings is one. -/
theorem op_strs {n : Nat} (ht : P.underlying t = some (.array n e)) (he : P.underlying e = some .string) (hce : P.cellsOf e = 1) (hct : P.cellsOf t = n) (ho : Value.okWide P W .any base t v) (h : DataW.Trod enc P W 0 (fun _ => true) true t v d p) :
    ∃ cs : Array Value, v = .agg cs ∧ cs.size = n ∧ ∀ i, i < n → ∃ x, cs.toList[i]? = some (.string x) ∧ x.size ≤ maxLen := by
  simp only [Value.okWide, ht] at ho
  obtain ⟨cs, rfl, hs, _⟩ := ho
  refine ⟨cs, rfl, by rw [hs, hct], fun i hi => ?_⟩
  obtain ⟨fuel, hf⟩ := h
  cases fuel with
  | zero => simp [DataW.trod] at hf
  | succ m =>
    rw [DataW.trod_step] at hf
    unfold DataW.trodStep at hf
    simp only [ht, Value.cells] at hf
    split at hf
    · simp only [Option.map_eq_some_iff] at hf
      obtain ⟨ys, hy, _⟩ := hf
      obtain ⟨y, hyi⟩ := mapM_each _ _ hy i (List.mem_range.2 hi)
      obtain ⟨x, ex, _, wx⟩ := DataW.trod_string he hyi
      rw [hce, Nat.mul_one] at ex
      refine ⟨x, ?_, wx⟩
      have h2 := congrArg (fun l : List Value => l[0]?) ex
      simpa using h2
    · cases hf

theorem op_strs2 (ht : P.underlying t = some (.array 2 e)) (he : P.underlying e = some .string) (hce : P.cellsOf e = 1) (hct : P.cellsOf t = 2) (ho : Value.okWide P W .any base t v) (h : DataW.Trod enc P W 0 (fun _ => true) true t v d p) :
    ∃ a b : ByteArray, v = .agg #[.string a, .string b] ∧ a.size ≤ maxLen ∧ b.size ≤ maxLen := by
  obtain ⟨cs, rfl, hs, hc⟩ := op_strs ht he hce hct ho h
  obtain ⟨l⟩ := cs
  match l, hs with
  | [c0, c1], _ =>
    obtain ⟨a, ha, wa⟩ := hc 0 (by omega)
    obtain ⟨b, hb, wb⟩ := hc 1 (by omega)
    simp at ha hb
    subst ha hb
    exact ⟨a, b, rfl, wa, wb⟩
end

end Go.Proofs.Ytgldheeplhcmcaa.Open
