/-
  Mathematics of layer 5: what an event is laid down as. No walk here.
-/
import Derived.Test.YtjglpmakjampjaaEvMath
import Derived.Test.YtjglpmakjampjaaNumMath
namespace Go.Proofs.Ytjglpmakjampjaa.EcWalk
open Go.RowKit Go.Proofs.Ytjglpmakjampjaa.MemRow Go.Proofs.Ytjglpmakjampjaa.Ev Go.Proofs.Ytjglpmakjampjaa.NameMath Go.Proofs.Ytjglpmakjampjaa.NameWalk Go.Proofs.Ytjglpmakjampjaa.EvWalk Go.Proofs.Ytjglpmakjampjaa.NumMath

/-- A text, laid down. -/
def txt (s : ByteArray) : List UInt8 := enc (s.size : Int) ++ s.data.toList
def txts (ss : List ByteArray) : List UInt8 := ss.flatMap txt
def fldE (f : ByteArray × Int) : List UInt8 := txt f.1 ++ enc f.2
def fldsE (fs : List (ByteArray × Int)) : List UInt8 := fs.flatMap fldE
/-- An event, laid down. -/
def encE (e : Ev) : List UInt8 := txt e.s ++ txt e.t ++ enc (e.tags.length : Int) ++ txts e.tags ++ enc (e.fs.length : Int) ++ fldsE e.fs

theorem txt_len (s : ByteArray) : (txt s).length = (enc (s.size : Int)).length + s.size := by
  unfold txt
  rw [List.length_append, size_list]
theorem txts_snoc (ss : List ByteArray) (s : ByteArray) : txts (ss ++ [s]) = txts ss ++ txt s := by simp [txts]
theorem fldsE_snoc (fs : List (ByteArray × Int)) (f : ByteArray × Int) : fldsE (fs ++ [f]) = fldsE fs ++ fldE f := by simp [fldsE]

theorem name_small {s : ByteArray} (h : nameB s = true) : s.size ≤ 24 := by
  rw [size_list]
  exact (may_parts h).2.1
theorem txt_le {s : ByteArray} (h : s.size ≤ 1000) : (txt s).length ≤ 1010 := by
  have := enc_le (s.size : Int) (by omega) (by omega)
  rw [txt_len]
  omega
theorem txts_le {ss : List ByteArray} (h : ∀ s ∈ ss, s.size ≤ 1000) : (txts ss).length ≤ 1010 * ss.length := by
  induction ss with
  | nil => simp [txts]
  | cons s ss ih =>
    have h1 := txt_le (h s (by simp))
    have h2 := ih fun x hx => h x (by simp [hx])
    have e : txts (s :: ss) = txt s ++ txts ss := by simp [txts]
    rw [e, List.length_append, List.length_cons]
    omega
theorem fldsE_le {fs : List (ByteArray × Int)} (h : ∀ f ∈ fs, f.1.size ≤ 1000) (hz : ∀ f ∈ fs, -9223372036854775808 ≤ f.2 ∧ f.2 ≤ 9223372036854775807) : (fldsE fs).length ≤ 1020 * fs.length := by
  induction fs with
  | nil => simp [fldsE]
  | cons f fs ih =>
    have h1 := txt_le (h f (by simp))
    have h2 := ih (fun x hx => h x (by simp [hx])) (fun x hx => hz x (by simp [hx]))
    have h3 := hz f (by simp)
    have h4 := enc_le f.2 h3.1 h3.2
    have e : fldsE (f :: fs) = fldE f ++ fldsE fs := by simp [fldsE]
    rw [e, fldE, List.length_append, List.length_append, List.length_cons]
    omega

theorem tag_small {s : ByteArray} (h : tagB s = true) : s.size ≤ 49 := by
  unfold tagB parts at h
  rcases cut_index s.data.toList with ⟨_, h2⟩ | ⟨i, h0, _, h2⟩
  · rw [h2] at h
    simp at h
  · rw [h2] at h
    simp only at h
    split at h
    next hm =>
      rw [Bool.and_eq_true] at hm
      have h3 := (may_parts hm.1).2.1
      have h4 := (may_parts hm.2).2.1
      rw [List.length_take] at h3
      rw [List.length_drop] at h4
      rw [size_list]
      omega
    next => simp at h
/-- An event that may be is laid down in few bytes. -/
structure Small (e : Ev) : Prop where
  s : e.s.size ≤ 24
  t : e.t.size ≤ 24
  tags : ∀ x ∈ e.tags, x.size ≤ 49
  names : ∀ f ∈ e.fs, f.1.size ≤ 24
  nums : ∀ f ∈ e.fs, -1099511627776 ≤ f.2 ∧ f.2 ≤ 1099511627776
  nt : e.tags.length ≤ 6
  nf : e.fs.length ≤ 4
theorem may_smallE {e : Ev} (h : mayE e = 0) : Small e := by
  obtain ⟨h1, h2, h3, h4, h5, h6, h7, _, _⟩ := (mayE_zero e).1 h
  rw [List.all_eq_true] at h5 h6 h7
  exact ⟨name_small h1, name_small h2, fun x hx => tag_small (h6 x hx), fun f hf => name_small (h5 f hf), fun f hf => of_decide_eq_true (h7 f hf), h3, h4⟩

end Go.Proofs.Ytjglpmakjampjaa.EcWalk
