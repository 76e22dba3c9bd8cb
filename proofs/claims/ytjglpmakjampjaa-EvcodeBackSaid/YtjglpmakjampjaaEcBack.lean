/-
  Mathematics of layer 5: what was laid down is taken as it was.
-/
import Derived.Test.YtjglpmakjampjaaEcTakeW
namespace Go.Proofs.Ytjglpmakjampjaa.EcWalk
open Go.RowKit Go.Proofs.Ytjglpmakjampjaa.MemRow Go.Proofs.Ytjglpmakjampjaa.Ev Go.Proofs.Ytjglpmakjampjaa.NameMath Go.Proofs.Ytjglpmakjampjaa.NameWalk Go.Proofs.Ytjglpmakjampjaa.EvWalk Go.Proofs.Ytjglpmakjampjaa.NumMath Go.Proofs.Ytjglpmakjampjaa.NumMem Go.Proofs.Ytjglpmakjampjaa.NumWalk

theorem num_enc (x : Int) (h : -9223372036854775808 ≤ x ∧ x ≤ 9223372036854775807) (rest : List UInt8) (b : Bool) : numV (enc x ++ rest) = x ∧ numL (enc x ++ rest) = rest ∧ numB (enc x ++ rest) b = b := by
  obtain ⟨h1, h2⟩ := numV_enc x h.1 h.2 rest
  have h3 := enc_pos x
  have h4 : ¬ lenV (enc x ++ rest) = 0 := by omega
  refine ⟨h2, ?_, ?_⟩
  · unfold numL
    rw [if_neg h4, h1, List.drop_left]
  · unfold numB
    rw [if_neg h4]
theorem text_txt (s : ByteArray) (hs : s.size ≤ 1000) (rest : List UInt8) (b : Bool) : tx (txt s ++ rest) = s ∧ textL (txt s ++ rest) = rest ∧ textB (txt s ++ rest) b = b := by
  have e : txt s ++ rest = enc (s.size : Int) ++ (s.data.toList ++ rest) := by rw [txt, List.append_assoc]
  obtain ⟨h1, h2, h3⟩ := num_enc (s.size : Int) (by omega) (s.data.toList ++ rest) b
  have hz := size_list s
  have hok : textOk (txt s ++ rest) := by
    unfold textOk
    rw [e, h1, h2, List.length_append]
    omega
  refine ⟨?_, ?_, ?_⟩
  · unfold tx textV
    rw [if_pos hok, e, h1, h2, Int.toNat_natCast, hz, List.take_left]
  · unfold textL
    rw [if_pos hok, e, h1, h2, Int.toNat_natCast, hz, List.drop_left]
  · unfold textB
    rw [if_pos hok, e, h3]
theorem takeTags_txts (ts : List ByteArray) (h : ∀ x ∈ ts, x.size ≤ 1000) (rest : List UInt8) : takeTags ts.length (txts ts ++ rest) false = (ts, rest, false) := by
  induction ts with
  | nil => simp [takeTags, txts]
  | cons s ts ih =>
    have e : txts (s :: ts) ++ rest = txt s ++ (txts ts ++ rest) := by simp [txts, List.append_assoc]
    obtain ⟨h1, h2, h3⟩ := text_txt s (h s (by simp)) (txts ts ++ rest) false
    rw [List.length_cons, takeTags_go, e, h1, h2, h3, ih fun x hx => h x (by simp [hx])]
theorem takeFlds_fldsE (fs : List (ByteArray × Int)) (h : ∀ f ∈ fs, f.1.size ≤ 1000) (hz : ∀ f ∈ fs, -9223372036854775808 ≤ f.2 ∧ f.2 ≤ 9223372036854775807) (rest : List UInt8) : takeFlds fs.length (fldsE fs ++ rest) false = (fs, rest, false) := by
  induction fs with
  | nil => simp [takeFlds, fldsE]
  | cons f fs ih =>
    have e : fldsE (f :: fs) ++ rest = txt f.1 ++ (enc f.2 ++ (fldsE fs ++ rest)) := by simp [fldsE, fldE, List.append_assoc]
    obtain ⟨h1, h2, h3⟩ := text_txt f.1 (h f (by simp)) (enc f.2 ++ (fldsE fs ++ rest)) false
    obtain ⟨k1, k2, k3⟩ := num_enc f.2 (hz f (by simp)) (fldsE fs ++ rest) false
    rw [List.length_cons, takeFlds_go, e, h1, h2, h3, k1, k2, k3, ih (fun x hx => h x (by simp [hx])) (fun x hx => hz x (by simp [hx]))]

/-- What was laid down is taken as it was. -/
theorem takeE_encE {e : Ev} (h : mayE e = 0) (rest : List UInt8) : takeE (encE e ++ rest) false = some (e, rest) := by
  have sm := may_smallE h
  have a0 : encE e ++ rest = txt e.s ++ (txt e.t ++ (enc (e.tags.length : Int) ++ (txts e.tags ++ (enc (e.fs.length : Int) ++ (fldsE e.fs ++ rest))))) := by simp only [encE, List.append_assoc]
  have hnt := sm.nt
  have hnf := sm.nf
  obtain ⟨s1, s2, s3⟩ := text_txt e.s (by have := sm.s; omega) (txt e.t ++ (enc (e.tags.length : Int) ++ (txts e.tags ++ (enc (e.fs.length : Int) ++ (fldsE e.fs ++ rest))))) false
  obtain ⟨t1, t2, t3⟩ := text_txt e.t (by have := sm.t; omega) (enc (e.tags.length : Int) ++ (txts e.tags ++ (enc (e.fs.length : Int) ++ (fldsE e.fs ++ rest)))) false
  obtain ⟨n1, n2, n3⟩ := num_enc (e.tags.length : Int) (by omega) (txts e.tags ++ (enc (e.fs.length : Int) ++ (fldsE e.fs ++ rest))) false
  obtain ⟨m1, m2, m3⟩ := num_enc (e.fs.length : Int) (by omega) (fldsE e.fs ++ rest) false
  have hT := takeTags_txts e.tags (fun x hx => by have := sm.tags x hx; omega) (enc (e.fs.length : Int) ++ (fldsE e.fs ++ rest))
  have hF := takeFlds_fldsE e.fs (fun f hf => by have := sm.names f hf; omega) (fun f hf => by have := sm.nums f hf; omega) rest
  have k1 : (min (e.tags.length : Int) 7).toNat = e.tags.length := by omega
  have k2 : (min (e.fs.length : Int) 5).toNat = e.fs.length := by omega
  unfold takeE
  simp only
  rw [a0, s1, s2, s3, t1, t2, t3, n1, n2, n3, k1, hT]
  simp only
  rw [m1, m2, m3, k2, hF]
  simp only
  rw [if_neg (by omega), if_neg]
  rintro (h1 | h1 | h1)
  · omega
  · cases h1
  · exact h1 h

end Go.Proofs.Ytjglpmakjampjaa.EcWalk
