/-
  Walk of P.
-/
import Derived.Deep.QuietTactic
import Derived.BigQuiet
import Derived.Test.YtppidbdkejkopaaGreatDoorMh9
namespace Go.Proofs.YtppidbdkejkopaaGreatDoor.WlWalk
open Go.RowKit MemRow Ev NameMath NameWalk EvWalk NumMem DkWalk FrMath BtWalk EcWalk EdWalk
theorem and3 (z : Int) : ∃ k : Nat, k ≤ 3 ∧ bits .and .i64 z 3 = (k : Int) := ⟨(BitVec.ofInt 64 z).toNat &&& 3, Nat.and_le_right, by
  show IntKind.i64.wrap ((BitVec.ofInt 64 z &&& BitVec.ofInt 64 3).toNat : Int) = _
  have h3 : (BitVec.ofInt 64 3).toNat = 3 := by decide
  rw [BitVec.toNat_and, h3]
  have : (BitVec.ofInt 64 z).toNat &&& 3 ≤ 3 := Nat.and_le_right
  exact IntWalk.i64_in _ (by omega)⟩
theorem appendW_shape {D : Dk} {ss : List (List Bat)} {x : Bat} (h : LogD D ss) (h0 : (appendW D ss.length (tot ss.flatten : Int) x).1 = 0) :
    ∃ ts s, ((ts = ss ∧ s = []) ∨ ss = ts ++ [s]) ∧ LogD (appendW D ss.length (tot ss.flatten : Int) x).2.1 (ts ++ [s ++ [x]]) ∧ (appendW D ss.length (tot ss.flatten : Int) x).2.2 = ((ts ++ [s ++ [x]]).length, (tot (ts ++ [s ++ [x]]).flatten : Int)) ∧ (D.left = -1 → (appendW D ss.length (tot ss.flatten : Int) x).2.1.left = -1) := by
  have hls : (safed (ss.map bytesW)).length = ss.length := by rw [safed_len, List.length_map]
  unfold appendW at h0 ⊢
  by_cases h1 : mayX x = 0
  case neg =>
    rw [if_pos h1] at h0
    exact absurd h0 h1
  rw [if_neg (by simpa using h1)] at h0 ⊢
  by_cases h2 : x.a = (tot ss.flatten : Int)
  case neg =>
    rw [if_pos h2] at h0
    exact absurd h0 Int.one_ne_zero
  rw [if_neg (by simpa using h2)] at h0 ⊢
  by_cases h3 : maxF < (encX x).length
  · rw [if_pos h3] at h0
    cases h0
  rw [if_neg h3] at h0 ⊢
  have hch := chained_one h.ch h1 (by omega) h2
  obtain ⟨ts, s, hts, hfl, hnx, hold⟩ : ∃ ts s, ts.length + 1 = nextW D ss.length ∧ ss.flatten = ts.flatten ++ s ∧ ((ts = ss ∧ s = []) ∨ ss = ts ++ [s]) ∧ (∀ E : Dk, (∀ t, lkF E.fs t = if t = segN (ts.length + 1) then some (((lkF D.fs (segN (ts.length + 1))).map (·.1)).getD [] ++ frameF (encX x), ((lkF D.fs (segN (ts.length + 1))).map (·.2)).getD 0) else lkF D.fs t) → mayN (segN (ts.length + 1)) = true → SegsD E (safed (ts.map bytesW) ++ [(bytesW s ++ frameF (encX x), (bytesW s).length)])) := by
    by_cases hnew : ss.length = 0 ∨ 2048 ≤ (readB D (segN ss.length)).length
    · refine ⟨ss, [], by unfold nextW; rw [if_pos hnew], by simp, .inl ⟨rfl, rfl⟩, fun E hE hm => ?_⟩
      have hno := h.segs.no (i := ss.length) (by omega)
      rw [hno] at hE
      have h200 : ss.length < 200 := by
        refine Nat.lt_of_not_le fun hc => ?_
        rw [segN_out (by omega), may_empty] at hm
        cases hm
      have := h.segs.push (D' := E) (q := (frameF (encX x), 0)) (by omega) (by rw [hls]; simpa using hE)
      simpa [bytesW_nil] using this
    · have hne : ss ≠ [] := fun e => hnew (.inl (by rw [e]; rfl))
      have e1 := List.dropLast_concat_getLast hne
      refine ⟨ss.dropLast, ss.getLast hne, ?_, ?_, .inr e1.symm, fun E hE _ => ?_⟩
      · unfold nextW
        rw [if_neg hnew, List.length_dropLast]
        have := List.length_pos_iff.2 hne
        omega
      · conv => lhs; rw [← e1]
        simp
      · generalize ss.dropLast = ts at *
        generalize ss.getLast hne = s at *
        subst e1
        have hl2 : (safed (ts.map bytesW)).length = ts.length := by rw [safed_len, List.length_map]
        have hsg := h.segs
        rw [List.map_append, safed_append] at hsg
        have hget := hsg.get (last_get (safed (ts.map bytesW)) (bytesW s, (bytesW s).length) [])
        rw [hl2] at hget
        rw [hget] at hE
        rw [← hl2] at hE
        have := hsg.set (D' := E) (i := (safed (ts.map bytesW)).length) (q := (bytesW s ++ frameF (encX x), (bytesW s).length)) (by rw [List.length_append]; unfold safed; simp) hE
        have e4 : safed ([s].map bytesW) = [(bytesW s, (bytesW s).length)] := rfl
        rw [e4, set_last] at this
        exact this
  rw [← hts] at h0 ⊢
  by_cases hA : (appendD D (segN (ts.length + 1)) (frameF (encX x))).1 = 0
  case neg =>
    rw [if_pos hA] at h0
    exact absurd h0 hA
  rw [if_neg (by simpa using hA)] at h0 ⊢
  have hl0 : D.left ≠ 0 := fun h0 => by
    have e := (fuse_out h0 (segN (ts.length + 1)) (frameF (encX x)) 0).1
    rw [e] at hA
    cases hA
  obtain ⟨a1, a2, _, a4⟩ := append_yes h.go hl0 _ _ hA
  have ag := append_go h.go (segN (ts.length + 1)) (frameF (encX x))
  have asg := hold _ a4 a1
  have al : D.left = -1 → (appendD D (segN (ts.length + 1)) (frameF (encX x))).2.left = -1 := fun hl => by rw [a2.left, left_off hl]
  generalize (appendD D (segN (ts.length + 1)) (frameF (encX x))).2 = E at *
  rw [hfl] at hch h2 h0 ⊢
  rcases sync_step ag asg hch with ⟨y1, y2, y3⟩ | ⟨y1, y2, y3⟩
  · rw [if_neg (by rw [y1]; decide)]
    refine ⟨ts, s, hnx, y2, ?_, fun hl => y3 (al hl)⟩
    have e1 : (ts ++ [s ++ [x]]).length = ts.length + 1 := by simp
    have e2 : (ts ++ [s ++ [x]]).flatten = ts.flatten ++ s ++ [x] := by simp
    rw [e1, e2, tot_append (ts.flatten ++ s)]
    have e3 : tot [x] = x.es.length := by simp [tot]
    rw [e3]
    push_cast
    rfl
  · rw [if_pos (by rw [y1]; decide)] at h0
    simp only at h0
    omega
theorem log_file {D : Dk} {ss : List (List Bat)} (h : LogD D ss) (k : Nat) : readB D (segN (k + 1)) = bytesW (ss.getD k []) := by
  by_cases hk : k < ss.length
  · have hg := h.segs.get (i := k) (p := (bytesW ss[k], (bytesW ss[k]).length)) (by unfold safed; simp [List.getElem?_eq_getElem hk])
    rw [(read_some hg).2]
    simp [List.getD, List.getElem?_eq_getElem hk]
  · have hn := h.segs.no (i := k) (by rw [safed_len, List.length_map]; omega)
    rw [(read_none hn).2]
    have e : ss[k]? = none := List.getElem?_eq_none (by omega)
    simp [List.getD, e, bytesW_nil]
structure PrD (D : Dk) (ss : List (List Bat)) : Prop where
  log : LogD D ss
  left : D.left = -1
  quota : D.quota = 1048576
theorem pref_app {D : Dk} {ss : List (List Bat)} (x : Bat) (h : PrD D ss) :
    ((appendL D ss.length (tot ss.flatten : Int) x).1 ≠ 0 ∧ PrD (appendL D ss.length (tot ss.flatten : Int) x).2.1 ss ∧ (appendL D ss.length (tot ss.flatten : Int) x).2.2 = (ss.length, (tot ss.flatten : Int))) ∨
    ((appendL D ss.length (tot ss.flatten : Int) x).1 = 0 ∧ ∃ ts s, ((ts = ss ∧ s = []) ∨ ss = ts ++ [s]) ∧ PrD (appendL D ss.length (tot ss.flatten : Int) x).2.1 (ts ++ [s ++ [x]]) ∧ (appendL D ss.length (tot ss.flatten : Int) x).2.2 = ((ts ++ [s ++ [x]]).length, (tot (ts ++ [s ++ [x]]).flatten : Int))) := by
  obtain ⟨a1, a2, a3, a4⟩ := appendL_eq D ss.length (tot ss.flatten : Int) x
  obtain ⟨q1, _⟩ := appendW_quota D ss.length (tot ss.flatten : Int) x h.log.go
  have e22 : ∀ (m : Nat) (l : Int), (appendL D ss.length (tot ss.flatten : Int) x).2.2.1 = m → (appendL D ss.length (tot ss.flatten : Int) x).2.2.2 = l → (appendL D ss.length (tot ss.flatten : Int) x).2.2 = (m, l) := fun m l h1 h2 => Prod.ext h1 h2
  rw [a1, a2]
  by_cases h0 : (appendW D ss.length (tot ss.flatten : Int) x).1 = 0
  · obtain ⟨ts, s, g1, g2, g3, g4⟩ := appendW_shape h.log h0
    refine .inr ⟨h0, ts, s, g1, ⟨g2, g4 h.left, by rw [q1, h.quota]⟩, e22 _ _ ?_ ?_⟩
    · rw [a4, if_pos h0, g3]
    · rw [a3, g3]
  · rcases appendW_log x h.log with ⟨_, g2, _, g4, g5⟩ | ⟨g1, _⟩ | ⟨_, g2, _⟩
    · refine .inl ⟨h0, ⟨g2, g5 h.left, by rw [q1, h.quota]⟩, e22 _ _ ?_ ?_⟩
      · rw [a4, if_neg h0]
      · rw [a3, g4]
    · exact absurd g1 h0
    · exact absurd h.left g2
theorem bytesW_cons (x : Bat) (xs : List Bat) : bytesW (x :: xs) = frameF (encX x) ++ bytesW xs := by rw [show x :: xs = [x] ++ xs from rfl, bytesW_append, bytesW_one]
structure FstI (ss : List (List Bat)) (k first last : Nat) : Prop where
  el : last = (bytesW (ss.getD k [])).length
  ef : last ≠ 0 → ∃ s0 y, ss.getD k [] = s0 ++ [y] ∧ first = (ss.take k).flatten.length + s0.length
theorem FstI.new (k : Nat) : FstI [] k 0 0 := ⟨by simp [bytesW_nil], fun h => absurd rfl h⟩
theorem get_mid {α : Type} (ts : List (List α)) (s : List α) : (ts ++ [s]).getD ts.length [] = s := by simp [List.getD]
theorem get_out {α : Type} {ts : List (List α)} {k : Nat} (h : ts.length ≤ k) : ts.getD k [] = [] := by simp [List.getD, List.getElem?_eq_none h]
theorem get_low {α : Type} {ts us : List (List α)} {k : Nat} (h : k < ts.length) : (ts ++ us).getD k [] = ts.getD k [] := by simp only [List.getD]; rw [List.getElem?_append_left h]
theorem fst_step {ts ss : List (List Bat)} {s : List Bat} {x : Bat} {k first last : Nat} (hs : (ts = ss ∧ s = []) ∨ ss = ts ++ [s]) (h : FstI ss k first last) :
    (last < (bytesW ((ts ++ [s ++ [x]]).getD k [])).length → FstI (ts ++ [s ++ [x]]) k ss.flatten.length (bytesW ((ts ++ [s ++ [x]]).getD k [])).length) ∧
    (¬ last < (bytesW ((ts ++ [s ++ [x]]).getD k [])).length → FstI (ts ++ [s ++ [x]]) k first last) := by
  have hl := h.el
  by_cases hk : k = ts.length
  · subst hk
    have e1 : ss.getD ts.length [] = s := by
      rcases hs with ⟨rfl, rfl⟩ | rfl
      · exact get_out (Nat.le_refl _)
      · exact get_mid _ _
    have e2 := get_mid ts (s ++ [x])
    have e3 : ss.flatten = ts.flatten ++ s := by
      rcases hs with ⟨rfl, rfl⟩ | rfl
      · simp
      · simp
    rw [e1] at hl
    rw [e2]
    have hfl := frameF_length (encX x)
    have e4 : (bytesW (s ++ [x])).length = (bytesW s).length + ((encX x).length + 8) := by rw [bytesW_append, bytesW_one, List.length_append, hfl]
    refine ⟨fun _ => ⟨by rw [e2], fun _ => ⟨s, x, e2, ?_⟩⟩, fun hn => absurd (by omega) hn⟩
    rw [List.take_left, e3, List.length_append]
  · have e5 : (ts ++ [s ++ [x]]).getD k [] = ss.getD k [] ∧ (last ≠ 0 → (ts ++ [s ++ [x]]).take k = ss.take k) := by
      by_cases hlt : k < ts.length
      · rw [get_low hlt, List.take_append_of_le_length (by omega)]
        rcases hs with ⟨rfl, rfl⟩ | rfl
        · exact ⟨rfl, fun _ => rfl⟩
        · rw [get_low hlt, List.take_append_of_le_length (by omega)]
          exact ⟨rfl, fun _ => rfl⟩
      · have o1 : (ts ++ [s ++ [x]]).getD k [] = [] := get_out (by rw [List.length_append]; simp; omega)
        have o2 : ss.getD k [] = [] := by
          rcases hs with ⟨rfl, rfl⟩ | rfl
          · exact get_out (by omega)
          · exact get_out (by rw [List.length_append]; simp; omega)
        rw [o2, bytesW_nil] at hl
        exact ⟨by rw [o1, o2], fun hn => absurd hl hn⟩
    obtain ⟨e5, e6⟩ := e5
    rw [e5, ← hl]
    refine ⟨fun hn => absurd hn (Nat.lt_irrefl _), fun _ => ⟨by rw [e5]; exact hl, fun hn => ?_⟩⟩
    obtain ⟨s0, y, q1, q2⟩ := h.ef hn
    exact ⟨s0, y, by rw [e5]; exact q1, by rw [e6 hn]; exact q2⟩
theorem fst_end {ss : List (List Bat)} {k first last : Nat} (h : FstI ss k first last) (hn : last ≠ 0) :
    ∃ pre s0 y post, ss = pre ++ (s0 ++ [y]) :: post ∧ pre.length = k ∧ first = (pre ++ [s0]).flatten.length ∧ last = (bytesW (s0 ++ [y])).length := by
  obtain ⟨s0, y, q1, q2⟩ := h.ef hn
  have hk : k < ss.length := by
    refine Nat.lt_of_not_le fun hc => ?_
    rw [get_out hc] at q1
    cases s0 <;> cases q1
  have e : ss[k] = s0 ++ [y] := by
    rw [← q1]
    simp [List.getD, List.getElem?_eq_getElem hk]
  refine ⟨ss.take k, s0, y, ss.drop (k + 1), ?_, by rw [List.length_take]; omega, by rw [q2]; simp, by rw [h.el, q1]⟩
  rw [← e]
  have := List.take_append_drop k ss
  rw [List.drop_eq_getElem_cons hk] at this
  exact this.symm
theorem fst_take {pre post : List (List Bat)} {s0 : List Bat} {y : Bat} : (pre ++ (s0 ++ [y]) :: post).flatten.take (pre ++ [s0]).flatten.length = (pre ++ [s0]).flatten ∧ (pre ++ [s0]).flatten.length ≤ (pre ++ (s0 ++ [y]) :: post).flatten.length := by
  have e : (pre ++ (s0 ++ [y]) :: post).flatten = (pre ++ [s0]).flatten ++ (y :: post.flatten) := by simp
  rw [e, List.take_left]
  exact ⟨rfl, by rw [List.length_append]; omega⟩
theorem turn_open {D : Dk} {pre post : List (List Bat)} {s0 : List Bat} {y : Bat} (h : PrD D (pre ++ (s0 ++ [y]) :: post)) :
    (turnC D (segN (pre.length + 1)) (((bytesW (s0 ++ [y])).length : Int) - 1)).1 = 0 ∧ DkGo (turnC D (segN (pre.length + 1)) (((bytesW (s0 ++ [y])).length : Int) - 1)).2 ∧
    (openW (turnC D (segN (pre.length + 1)) (((bytesW (s0 ++ [y])).length : Int) - 1)).2).1 = 0 ∧ PrD (openW (turnC D (segN (pre.length + 1)) (((bytesW (s0 ++ [y])).length : Int) - 1)).2).2.1 (pre ++ [s0]) ∧
    (openW (turnC D (segN (pre.length + 1)) (((bytesW (s0 ++ [y])).length : Int) - 1)).2).2.2.all = (pre ++ [s0]).flatten ∧
    (openW (turnC D (segN (pre.length + 1)) (((bytesW (s0 ++ [y])).length : Int) - 1)).2).2.2.many = (pre ++ [s0]).length ∧
    (openW (turnC D (segN (pre.length + 1)) (((bytesW (s0 ++ [y])).length : Int) - 1)).2).2.2.last = (tot (pre ++ [s0]).flatten : Int) := by
  obtain ⟨log, left, quota⟩ := h
  have hfl := frameF_length (encX y)
  have eb : bytesW (s0 ++ [y]) = bytesW s0 ++ frameF (encX y) := by rw [bytesW_append, bytesW_one]
  have elen : (bytesW (s0 ++ [y])).length = (bytesW s0).length + ((encX y).length + 8) := by rw [eb, List.length_append, hfl]
  have hsg := log.segs
  rw [List.map_append, safed_append, List.map_cons] at hsg
  have es : safed (bytesW (s0 ++ [y]) :: post.map bytesW) = (bytesW (s0 ++ [y]), (bytesW (s0 ++ [y])).length) :: safed (post.map bytesW) := rfl
  rw [es] at hsg
  have hpl : (safed (pre.map bytesW)).length = pre.length := by rw [safed_len, List.length_map]
  have hget := hsg.get (last_get (safed (pre.map bytesW)) (bytesW (s0 ++ [y]), (bytesW (s0 ++ [y])).length) (safed (post.map bytesW)))
  rw [hpl] at hget
  obtain ⟨i1, i2, i3⟩ := lk_idx hget
  have hg := turn_go log.go (segN (pre.length + 1)) (((bytesW (s0 ++ [y])).length : Int) - 1)
  have hp : (((bytesW (s0 ++ [y])).length : Int) - 1).toNat = (bytesW s0).length + ((encX y).length + 7) := by omega
  have hT : turnC D (segN (pre.length + 1)) (((bytesW (s0 ++ [y])).length : Int) - 1) = (0, ⟨D.quota, D.left, putF D.fs ⟨segN (pre.length + 1), (bytesW (s0 ++ [y])).set ((bytesW s0).length + ((encX y).length + 7)) ((bytesW (s0 ++ [y])).getD ((bytesW s0).length + ((encX y).length + 7)) 0 ^^^ 1), (bytesW (s0 ++ [y])).length⟩⟩) := by
    unfold turnC
    simp only at i2 i3
    rw [if_neg (by simpa using i1), i2, i3, hp, if_neg (by omega)]
  have eset : (bytesW (s0 ++ [y])).set ((bytesW s0).length + ((encX y).length + 7)) ((bytesW (s0 ++ [y])).getD ((bytesW s0).length + ((encX y).length + 7)) 0 ^^^ 1) = bytesW s0 ++ (frameF (encX y)).set ((encX y).length + 7) ((frameF (encX y)).getD ((encX y).length + 7) 0 ^^^ 1) := by
    rw [eb, List.set_append_right _ _ (by omega)]
    have e1 : (bytesW s0).length + ((encX y).length + 7) - (bytesW s0).length = (encX y).length + 7 := by omega
    have e2 : (bytesW s0 ++ frameF (encX y)).getD ((bytesW s0).length + ((encX y).length + 7)) 0 = (frameF (encX y)).getD ((encX y).length + 7) 0 := by
      simp only [List.getD]
      rw [List.getElem?_append_right (by omega), e1]
    rw [e1, e2]
  rw [hT] at hg ⊢
  rw [eset] at hg ⊢
  simp only at hg ⊢
  have hyl : (encX y).length ≤ maxF := (log.ch.all y (by simp)).2
  have hnone := turned_none hyl (p := (encX y).length + 7) (c := 1) (by omega) (by omega) (by decide) []
  rw [List.append_nil] at hnone
  have hFl : ((frameF (encX y)).set ((encX y).length + 7) ((frameF (encX y)).getD ((encX y).length + 7) 0 ^^^ 1)).length = (encX y).length + 8 := by rw [List.length_set, hfl]
  generalize (frameF (encX y)).set ((encX y).length + 7) ((frameF (encX y)).getD ((encX y).length + 7) 0 ^^^ 1) = F at *
  have hset := lk_set log.go.up hg.up (putF_set log.go.up (⟨segN (pre.length + 1), bytesW s0 ++ F, (bytesW (s0 ++ [y])).length⟩ : Fl))
  simp only at hset
  have s2 := hsg.set (D' := ⟨D.quota, D.left, putF D.fs ⟨segN (pre.length + 1), bytesW s0 ++ F, (bytesW (s0 ++ [y])).length⟩⟩) (i := (safed (pre.map bytesW)).length) (q := (bytesW s0 ++ F, (bytesW (s0 ++ [y])).length)) (by rw [List.length_append, List.length_cons]; omega) (by rw [hpl]; exact hset)
  rw [List.set_append_right _ _ (Nat.le_refl _), Nat.sub_self, List.set_cons_zero] at s2
  obtain ⟨o1, o2, o3, o4, o5, o6, o7, o8⟩ := openW_segs hg left s2
  have ebts : bts (safed (pre.map bytesW) ++ (bytesW s0 ++ F, (bytesW (s0 ++ [y])).length) :: safed (post.map bytesW)) = pre.map bytesW ++ (bytesW s0 ++ F) :: post.map bytesW := by
    rw [bts_append, bts_safed]
    have : bts ((bytesW s0 ++ F, (bytesW (s0 ++ [y])).length) :: safed (post.map bytesW)) = (bytesW s0 ++ F) :: bts (safed (post.map bytesW)) := rfl
    rw [this, bts_safed]
  rw [ebts] at o2 o6 o7 o8
  have hch := log.ch
  have efl : (pre ++ (s0 ++ [y]) :: post).flatten = (pre.flatten ++ s0) ++ (y :: post.flatten) := by simp
  rw [efl] at hch
  obtain ⟨c1, _⟩ := chained_append.1 hch
  obtain ⟨c2, c3⟩ := chained_append.1 c1
  obtain ⟨g1, g2⟩ := good_tail c3 hnone
  have hcut : goodN (bytesW s0 ++ F) (0 + (tot pre.flatten : Int)) < (bytesW s0 ++ F).length := by rw [g2, List.length_append]; omega
  have hread : readW (pre.map bytesW ++ (bytesW s0 ++ F) :: post.map bytesW) 0 = ((pre ++ [s0]).flatten, (pre ++ [s0]).length, some (goodN (bytesW s0 ++ F) (0 + (tot pre.flatten : Int)))) := by
    rw [readW_of pre 0 _ c2, readW_cut hcut, g1]
    simp
  have hfix : fixW (pre.map bytesW ++ (bytesW s0 ++ F) :: post.map bytesW) 0 = (pre ++ [s0]).map bytesW := by
    rw [fixW_of pre 0 _ c2, fixW, if_pos hcut, good_take, g1, List.map_append]
    rfl
  rw [hread] at o6 o7 o8
  rw [hfix] at o2
  simp only at o6 o7 o8
  have efl2 : (pre ++ [s0]).flatten = pre.flatten ++ s0 := by simp
  refine ⟨(by first | rfl | trivial), hg, o1, ⟨⟨o3, o2, by rw [efl2]; exact c1⟩, o4, by rw [o5]; exact quota⟩, o6, o7, o8⟩
theorem tot16 : ∀ (xs : List Bat) (l : Int), Chained xs l → tot xs ≤ 16 * xs.length ∧ (bytesW xs).length ≤ 16392 * xs.length
  | [], _, _ => ⟨Nat.le_refl _, Nat.le_refl _⟩
  | x :: xs, l, ⟨h1, h2, _, h4⟩ => by
    obtain ⟨i1, i2⟩ := tot16 xs _ h4
    obtain ⟨_, z2, _⟩ := (mayX_zero x).1 h1
    have hm : maxF = 16384 := rfl
    have hfl := frameF_length (encX x)
    rw [tot_cons, bytesW_cons, List.length_append, List.length_cons, hfl]
    omega
theorem pref_can {D : Dk} {ss : List (List Bat)} (h : PrD D ss) (hm : ss.flatten.length ≤ 20) (hs : ss.length ≤ 4) : (appendL D ss.length (tot ss.flatten : Int) (exB (tot ss.flatten : Int))).1 = 0 ∧ (tot ss.flatten : Int) ≤ 320 := by
  obtain ⟨t1, t2⟩ := tot16 _ _ h.log.ch
  have hu := h.log.used
  have hxl := exB_len (a := (tot ss.flatten : Int)) (by omega) (by omega)
  have hfl := frameF_length (encX (exB (tot ss.flatten : Int)))
  have hm : maxF = 16384 := rfl
  rw [(appendL_eq D ss.length (tot ss.flatten : Int) (exB (tot ss.flatten : Int))).1]
  refine ⟨appendW_can h.log h.left (exB_may (by omega) (by omega)) rfl (by omega) (by omega) ?_, by omega⟩
  rw [h.quota, hu, hfl]
  omega
end Go.Proofs.YtppidbdkejkopaaGreatDoor.WlWalk
namespace Go.Proofs.YtppidbdkejkopaaGreatDoor.WlWalk
open Go.RowKit MemRow Ev NameMath NameWalk EvWalk NumMem DkWalk FrMath BtWalk EcWalk EdWalk
set_option maxRecDepth 100000 in
theorem batp_upto (A : Option Addr) (n cap m : Nat) (hc : m ≤ cap) (W : World) :
    (Instr.slice 30 (.slice A n cap) none (some (.int .i64 (m : Int))) none).run Tryz.prog W = .ok (.slice A m cap) W := by
  have hu : Tryz.prog.underlying 30 = some (.slice (Tryz.prog.elem 30)) := by rw [elem_batches]; exact Tryz.underlying30
  have e : A.map (·.add 0) = A := by cases A <;> simp [Addr.add]
  rw [run_slice_h (P := Tryz.prog) W 30 _ n cap hu .i64 (m : Int) (by omega) (by omega), elem_batches, MemRow.run_size batch_size]
  simp only [Result.andThen, sliced, Int.toNat_natCast, Nat.zero_mul, e, Nat.sub_zero]
  congr 2
  split <;> rfl
theorem rdBp_first {w : World} {A : Option Addr} {n cap : Nat} {xs : List Bat} (h : RdBs w A n cap xs) {m : Nat} (hm : m ≤ n) : RdBs w A m cap (xs.take m) :=
  ⟨by rw [List.length_take, h.1]; omega, Nat.le_trans hm h.2.1, h.2.2.1, fun hn => by
    obtain ⟨b, o, hA, hlt, hc⟩ := h.2.2.2 (by omega)
    refine ⟨b, o, hA, hlt, fun i hi => ?_⟩
    have e : (xs.take m).getD i noBat = xs.getD i noBat := by
      simp only [List.getD]
      rw [List.getElem?_take_of_lt hi]
    rw [e]
    exact hc i (by omega)⟩
set_option maxHeartbeats 8000000 in
set_option maxRecDepth 100000 in
theorem prefix_walk (A : Option Addr) (n cap : Nat) (os : List Wop) (z : Int) (w0 : World) (h0 : RdW w0 A n cap os) (hok : ∀ d ∈ os, WopOk d) (ht : TabB w0.heap.size w0) :
    Calls Tryz.prog 8 #[.slice A n cap, .int .i64 z] w0 fun e w' => e = .returned (.bool true) ∧ Below w0.heap.size w0 w' := by
  have hn := h0.le
  unfold maxLen at hn
  have H0 := Go.Lib.hid h0
  have HN := Go.Lib.hid h0.len
  obtain ⟨k, hk3, hand⟩ := and3 z
  clear h0
  go_enter Tryz.func8, Tryz.ntmps8
  go_wp2_with fail
  refine (shown11_any w0 ht).mono ?_
  rintro e w1 ⟨rfl, b1⟩
  have hb1 := b1.size
  go_wp2_with fail
  refine (pr_first (base := w0.heap.size) hb1 1048576).mono ?_
  rintro e w3 ⟨g, rfl, p3, b3⟩
  have B3 := b1.trans (bel_up hb1 b3)
  have hb3 := Nat.le_trans hb1 b3.size
  have hL : LogD (newD 1048576) [] := LogD.new (by omega)
  have hq0 : (newD 1048576).quota = 1048576 := by rw [newD_pos (by decide)]
  go_wp2_with fail
  refine (openL_log p3 noT_keeps hb3 (ht.on B3) hL rfl).mono ?_
  rintro e w4 ⟨D4, gl, A4, n4, c4, rfl, l4, f4, q4, p4, b4⟩
  have B4 := B3.trans b4
  have hb4 := Nat.le_trans hb3 b4.size
  have R4 : PrD D4 [] := ⟨l4, f4, q4.trans hq0⟩
  have al : Below w4.heap.size w4 (w4.alloc (.cells #[] 39)) := (Below.refl _ _).alloc (Nat.le_refl _) _
  have p5 := pair_place (pair_more (R := InT w0 (some ⟨w4.heap.size, 0, none⟩) 0 0 []) (pair_first p4) (ldT_keeps g D4) (with_keeps noT_keeps (bxT_keeps _ _ _)) hb4 al (inT_new w0 w4 hb4))
  have B5 := B4.trans (bel_up hb4 al)
  have hb5 := B5.size
  clear p3 p4 b1 b3 b4 B3 B4 hb1 hb3 hL l4 f4 q4 al hq0
  go_upto_region 9 with (fail)
  generalize w4.alloc (.cells #[] 39) = w5 at *
  have hsg := refSeg_any (1 + (k : Int)) w5 (ht.on B5).here
  have hse : segZ (1 + (k : Int)) = segN (k + 1) := by unfold segZ; congr 1; omega
  rw [hse] at hsg
  go_wp2_with fail
  refine hsg.mono ?_
  rintro e w6 ⟨rfl, b6⟩
  have p6 := p5.below (ldT_keeps g D4) (rnS_keeps w0 gl g ([] : List (List Bat)).length (tot ([] : List (List Bat)).flatten : Int) _ 0 0 []) b6
  have B6 := B5.trans (bel_up hb5 b6)
  have HSZ := Go.Lib.hid (seg_size (k + 1))
  clear hsg hse p5 B5 b6 hb5
  go_wp2_with fail
  go_loopw [10, 11, 12, 14, 15, 16, 17] (fun iv fv lv jv _ _ _ wr => ∃ (B : Option Addr) (m c j first last : Nat) (D : Dk) (ss : List (List Bat)), iv = .slice B m c ∧ fv = .int .i64 (first : Int) ∧ lv = .int .i64 (last : Int) ∧ jv = .int .i64 (j : Int) ∧ j ≤ n ∧ j ≤ 20 ∧ m ≤ j ∧ Hid (PrD D ss) ∧ Hid (FstI ss k first last) ∧ Pair w0.heap.size wr (LdT g D) (RnS w0 gl g ss.length (tot ss.flatten : Int) B m c ss.flatten) ∧ Below w0.heap.size w0 wr) (fun _ _ _ jv _ _ _ _ => n - (intOf jv).toNat)
  case atStart => exact ⟨_, 0, 0, 0, 0, 0, D4, [], rfl, rfl, rfl, rfl, Nat.zero_le _, by omega, Nat.le_refl _, Go.Lib.hid R4, Go.Lib.hid (FstI.new k), p6, B6⟩
  case round =>
    obtain ⟨B, m, c, j, first, last, D, ss, rfl, rfl, rfl, rfl, hjn, hj, hmj, HR, HF, pj, Bj⟩ := hrel
    clear p6 B6 R4 hb4
    have hbj := Bj.size
    go_upto_region 11 with (fail)
    go_cut [58] (fun v wx => v = .bool (decide (j < n ∧ j < 20)) ∧ wr = wx)
    case first =>
      by_cases h1 : j < n
      · have i1 : (j : Int) < n := by omega
        by_cases h2 : j < 20
        · have i2 : (j : Int) < 20 := by omega
          go_wp2_with fail
          go_meet
          exact ⟨by simp [h1, h2], rfl⟩
        · have i2 : ¬ (j : Int) < 20 := by omega
          go_wp2_with fail
          go_meet
          exact ⟨by simp [h1, h2], rfl⟩
      · have i1 : ¬ (j : Int) < n := by omega
        go_wp2_with fail
        go_meet
        exact ⟨by simp [h1], rfl⟩
    obtain ⟨rfl, rfl⟩ := hcut
    by_cases hc : j < n ∧ j < 20
    · rw [show decide (j < n ∧ j < 20) = true by simpa using hc]
      obtain ⟨h1, h2⟩ := hc
      have i1 : (j : Int) < n := by omega
      obtain ⟨b, o, rfl, _, kc⟩ := H0.out.at_ (by omega)
      obtain ⟨C, nC, cC, x0, x1, x2, x3, x4, rC⟩ := kc j h1
      have hw : WopOk (os.getD j noWop) := hok _ (wop_get (by rw [HN.out]; exact h1))
      have y0 := bcell Bj x0
      have y1 := bcell Bj x1
      have y2 := bcell Bj x2
      have y3 := bcell Bj x3
      have y4 := bcell Bj x4
      generalize os.getD j noWop = q at *
      have iw : IsWop w0 (.agg #[.int .i64 q.kind, .int .i64 q.n, .int .i64 q.file, .int .i64 q.x.a, .slice C nC cC]) q := ⟨C, nC, cC, rfl, rC⟩
      clear x0 x1 x2 x3 x4 kc rC
      go_wp2_with fail
      refine (few11_any _ q w0 wr iw Bj).mono ?_
      rintro e w6 ⟨E, ie, de, rfl, oE, b6⟩
      have hpos := HR.out.log.tot_le
      have hmany := HR.out.log.many_le
      obtain ⟨p7, b7⟩ := rn_box pj (ldT_keeps g D) hbj b6 oE q.x.a
      have B7 := Bj.trans b7
      clear pj Bj hbj b6 oE b7 y0 y1 y2 y3 y4
      have rf := fun W => run_fieldB q.kind q.n q.file q.x.a (.slice E ie de) W
      go_upto_region 14 with (fail)
      generalize w6.alloc (.cells #[.int .i64 q.x.a, .slice E ie de] 39) = w7 at *
      generalize w6.heap.size = gb at *
      have hlast := lastL_any p7
      obtain ⟨_, _, fz⟩ := rn_cells p7
      have cz := (rn_cells p7).1
      obtain ⟨p8, b8⟩ := rn_set p7 (ldT_keeps g D) (tot ss.flatten : Int)
      have B8 := Go.Lib.hid (B7.trans b8)
      have P8 := Go.Lib.hid p8
      clear p8 b8 B7
      go_upto_region 15 with (go_at_call 18; refine hlast.mono ?_; rintro e w8 ⟨rfl, rfl⟩)
      generalize w7.setCell ⟨gb, 0, none⟩ (.int .i64 (tot ss.flatten : Int)) = w8 at *
      have B8' := B8.out
      have hb8 := B8'.size
      have p8 := P8.out
      clear p7 hlast cz fz rf P8 B8
      obtain ⟨k0, k1, _⟩ := rn_cells p8
      have iv := rn_isb p8 B8' (tot ss.flatten : Int)
      go_wp2_with fail
      refine (appL_any p8 (rnQ_keeps _ _ _ _ _ _ _ _ _ _ _) hb8 HR.out.log.go (ht.on B8') iv (few_ok hw ⟨by omega, hpos⟩) (by omega) ⟨by omega, hpos⟩).mono ?_
      have hra := pref_app ⟨(tot ss.flatten : Int), few6 q.x.es⟩ HR.out
      generalize appendL D ss.length (tot ss.flatten : Int) ⟨(tot ss.flatten : Int), few6 q.x.es⟩ = R at *
      obtain ⟨rc, D', mm, ll⟩ := R
      rintro e w11 ⟨rfl, p11', b11⟩
      have p11 : Pair w0.heap.size w11 (LdT g D') (With (RnQ w0 B m c ss.flatten E ie de (few6 q.x.es) gb (tot ss.flatten : Int)) (LlT gl g mm ll)) := p11'
      have B11 := B8'.trans b11
      have hb11 := B11.size
      have hmm : ss.flatten.length = m := by
        obtain ⟨_, _, _, ⟨_, _, ⟨_, _, ⟨_, _, ⟨_, _, _, ⟨_, _, _, hl, _⟩, _⟩, _⟩, _⟩, _⟩, _⟩ := p11
        exact hl
      clear p8 p11' B8' b11 hb8 k0 k1 iv HR
      rcases hra with ⟨r1, r2, r4⟩ | ⟨r1, ts, s, r3, r2, r4⟩
      · simp only at r1 r2 r4
        obtain ⟨rfl, rfl⟩ := Prod.mk.inj r4
        have i2 : (rc != 0) = true := by rw [bne_iff_ne]; exact r1
        have p12 := rn_drop p11
        go_wp2_with fail
        go_roundw
        case rel => exact ⟨B, m, c, j + 1, first, last, D', ss, rfl, rfl, rfl, by go_num, by omega, by omega, by omega, Go.Lib.hid r2, HF, p12, B11⟩
        case measure => simp [intOf]; omega
      · simp only at r1 r2 r4
        subst r1
        obtain ⟨rfl, rfl⟩ := Prod.mk.inj r4
        have hfile := log_file r2.log k
        have hgo := r2.log.go
        have hst := fst_step (x := ⟨(tot ss.flatten : Int), few6 q.x.es⟩) r3 HF.out
        have hfe : (ts ++ [s ++ [(⟨(tot ss.flatten : Int), few6 q.x.es⟩ : Bat)]]).flatten = ss.flatten ++ [⟨(tot ss.flatten : Int), few6 q.x.es⟩] := by
          rcases r3 with ⟨rfl, rfl⟩ | rfl
          · simp
          · simp
        rw [hmm] at hst
        rw [← hfile] at hst
        have HR2 := Go.Lib.hid r2
        have HFE := Go.Lib.hid hfe
        have HST := Go.Lib.hid hst
        clear r2 hfile hfe hst r3 HF
        generalize ts ++ [s ++ [(⟨(tot ss.flatten : Int), few6 q.x.es⟩ : Bat)]] = ss' at *
        have kk := with_keeps (rnQ_keeps w0 B m c ss.flatten E ie de (few6 q.x.es) gb (tot ss.flatten : Int)) (bxT_keeps gl (llV g ss'.length (tot ss'.flatten : Int)) 81)
        go_wp2_with fail
        refine (pr_read p11 kk hgo HSZ.out).mono ?_
        rintro e w12 ⟨B2, m2, c2, rfl, rd2, p12, b12⟩
        have B12 := B11.trans (bel_up hb11 b12)
        have hb12 := B12.size
        have hm2 := rd2.len
        rw [hm2] at HST
        clear p11 B11 hb11 b12 rd2 hgo
        go_upto_if 83 with (fail)
        go_cut [11, 12] (fun v u wx => ∃ f' l' : Nat, v = .int .i64 (f' : Int) ∧ u = .int .i64 (l' : Int) ∧ Hid (FstI ss' k f' l') ∧ w12 = wx)
        case first =>
          by_cases h3 : last < m2
          · have i3 : (m2 : Int) > last := by omega
            go_wp2_with fail
            go_meet
            exact ⟨m, m2, rfl, rfl, Go.Lib.hid (HST.out.1 h3), rfl⟩
          · have i3 : ¬ (m2 : Int) > last := by omega
            go_wp2_with fail
            go_meet
            exact ⟨first, last, rfl, rfl, Go.Lib.hid (HST.out.2 h3), rfl⟩
        case rest =>
          obtain ⟨f', l', rfl, rfl, HF2, rfl⟩ := hcut
          obtain ⟨k0, k1, _⟩ := rn_cells p12
          have al := batch_bel w12 (.int .i64 (tot ss.flatten : Int)) (.slice E ie de)
          have p13 := p12.below (ldT_keeps g D') kk al
          have B13 := B12.trans (bel_up hb12 al)
          have hb13 := B13.size
          obtain ⟨cs, oc, hlc, hmore⟩ := rn_more p13 (ldT_keeps g D') hb13
          have d5 : RdC 2 (w12.alloc (.cells #[.int .i64 (tot ss.flatten : Int), .slice E ie de] 39)) (some ⟨w12.heap.size, 0, none⟩) 1 1 [.int .i64 (tot ss.flatten : Int), .slice E ie de] := RdC.new w12 39 [.int .i64 (tot ss.flatten : Int), .slice E ie de] rfl (by decide)
          have h63 : m + 1 ≤ maxLen := by unfold maxLen; omega
          have hsz : (m + 1) * 32 ≤ 140737488355328 := by omega
          have one := bat_one ⟨(tot ss.flatten : Int), few6 q.x.es⟩ E ie de
          have HM := Go.Lib.hid hmore
          clear p12 p13 B12 hb12 al hmore HST
          go_wp2_with (at_builtin; refine wpList_append_cells rfl (.tmp 88) (.tmp 90) 30 rfl 39 (.agg #[.int .i64 0, .slice none 0 0]) 32 Tryz.underlying30 batch_info rfl (by decide) rfl rfl oc d5 one h63 hsz hb13 ?_; intro A8 c8 w14 o8 g8 hA8)
          obtain ⟨p14, b14⟩ := HM.out A8 c8 w14 o8 g8 hA8
          rw [← HFE.out] at p14
          have B14 := B13.trans b14
          go_roundw
          case rel => exact ⟨A8, m + 1, c8, j + 1, f', l', D', ss', rfl, rfl, rfl, by go_num, by omega, by omega, by omega, HR2, HF2, p14, B14⟩
          case measure => simp [intOf]; omega
    · rw [show decide (j < n ∧ j < 20) = false by simpa using hc]
      clear hc
      by_cases hl0 : last = 0
      · subst hl0
        go_wp2_with fail
        go_ret
        exact ⟨rfl, Bj⟩
      · obtain ⟨pre, s0, y, post, hss, hpk, hfirst, hlast'⟩ := fst_end HF.out hl0
        subst hss
        have HP := HR.out
        have hgo := HP.log.go
        have hfile := log_file HP.log k
        have hgk : (pre ++ (s0 ++ [y]) :: post).getD k [] = s0 ++ [y] := by
          subst hpk
          simp [List.getD]
        rw [hgk] at hfile
        obtain ⟨t1, t2, t3, t4, t5, t6, t7⟩ := turn_open HP
        rw [hpk, ← hlast'] at t1 t2 t3 t4 t5 t6 t7
        have hft := fst_take (pre := pre) (post := post) (s0 := s0) (y := y)
        rw [← hfirst] at hft
        obtain ⟨ft1, ft2⟩ := hft
        have hml : (pre ++ (s0 ++ [y]) :: post).flatten.length = m := (pair_ins (pair_first pj) Bj).len
        obtain ⟨can1, can2⟩ := pref_can t4 (by omega) (by rw [List.length_append, hpk]; simp; omega)
        have kk := rnS_keeps w0 gl g (pre ++ (s0 ++ [y]) :: post).length (tot (pre ++ (s0 ++ [y]) :: post).flatten : Int) B m c (pre ++ (s0 ++ [y]) :: post).flatten
        have i2 : ((last : Int) == 0) = false := by rw [beq_eq_false_iff_ne]; omega
        have hl63 : last ≤ 1000000 := by
          obtain ⟨_, u2⟩ := tot16 _ _ HP.log.ch
          have e1 : (pre ++ (s0 ++ [y]) :: post).flatten = pre.flatten ++ ((s0 ++ [y]) ++ post.flatten) := by simp
          rw [hml, e1, bytesW_append, bytesW_append, List.length_append, List.length_append] at u2
          omega
        clear hgk HF HR HP
        generalize (pre ++ (s0 ++ [y]) :: post).length = mmo at *
        generalize (tot (pre ++ (s0 ++ [y]) :: post).flatten : Int) = llo at *
        generalize (pre ++ (s0 ++ [y]) :: post).flatten = inn at *
        generalize hss : pre ++ [s0] = ss1 at *
        have hk1 : ss1.length ≤ 4 := by rw [← hss, List.length_append, hpk]; simp; omega
        clear hss
        go_wp2_with fail
        refine (pr_read pj kk hgo HSZ.out).mono ?_
        rintro e w7 ⟨B2, m2, c2, rfl, rd2, p7, b7⟩
        have B7 := Bj.trans (bel_up hbj b7)
        have hb7 := B7.size
        rw [hfile] at rd2
        have hm2 : m2 = last := by rw [hlast']; exact rd2.len.symm
        subst hm2
        clear pj Bj hbj b7 rd2 hfile hl0 hlast' hfirst
        go_wp2_with fail
        refine (pr_turn p7 kk hb7 hgo HSZ.out ((m2 : Int) - 1)).mono ?_
        rw [t1]
        rintro e w8 ⟨rfl, p8, b8⟩
        have B8 := B7.trans b8
        have hb8 := B8.size
        generalize (turnC D (segN (k + 1)) ((m2 : Int) - 1)).2 = D2 at *
        clear p7 b8 B7 hb7 t1 hgo
        go_wp2_with fail
        refine (openL_any p8 kk hb8 t2 (ht.on B8)).mono ?_
        rintro e w9 ⟨h9, b9⟩
        rcases h9 with ⟨_, gl2, A9, n9, c9, rfl, p9⟩ | ⟨h1, _⟩
        rotate_left
        · exact absurd t3 h1
        rw [t5, t6, t7] at p9
        have B9 := B8.trans b9
        have hb9 := B9.size
        generalize (openW D2).2.1 = D3 at *
        have kk9 := with_keeps (with_keeps kk (bxT_keeps gl2 (llV g ss1.length (tot ss1.flatten : Int)) 81)) (bsT_keeps w0.heap.size A9 n9 c9 ss1.flatten)
        have rA := (pair_bs p9).rd
        have rI := pair_ins (pair_first (pair_first (pair_first p9))) B9
        have rB := rdBp_first rI (m := first) (by omega)
        rw [ft1] at rB
        have hsame := sameBs_true rA rB
        have hcap := rI.2.1
        have qs := fun W => batp_upto B m c first (by omega) W
        have i5 : ¬ (first : Int) > m := by omega
        clear p8 b9 B8 hb8 t2 t3 t5 t6 t7 rA rI rB ft1
        go_wp2_with fail
        refine hsame.mono ?_
        rintro e w10 ⟨rfl, b10⟩
        have p10 := pair_first (p9.below (ldT_keeps g D3) kk9 b10)
        have B10 := B9.trans (bel_up hb9 b10)
        have hb10 := B10.size
        have kk10 := with_keeps kk (bxT_keeps gl2 (llV g ss1.length (tot ss1.flatten : Int)) 81)
        have al : Below w10.heap.size w10 (w10.alloc (.cells #[.string ⟨#[115]⟩, .string ⟨#[116]⟩, .slice none 0 0, .slice none 0 0] 69)) := (Below.refl _ _).alloc (Nat.le_refl _) _
        have p11 := p10.below (ldT_keeps g D3) kk10 al
        have B11 := B10.trans (bel_up hb10 al)
        have hb11 := B11.size
        have hlast := lastL_any p10
        have iv := exB_isb w10 (tot ss1.flatten : Int)
        clear p9 b10 B9 hb9 B10 hb10 hsame qs
        go_wp2_with (go_at_call 18; refine hlast.mono ?_; rintro e w12 ⟨rfl, rfl⟩)
        generalize w10.alloc (.cells #[.string ⟨#[115]⟩, .string ⟨#[116]⟩, .slice none 0 0, .slice none 0 0] 69) = w11 at *
        refine (appL_any p11 kk hb11 t4.log.go (ht.on B11) iv (exB_ok (by omega)) (by omega) ⟨by omega, by omega⟩).mono ?_
        rw [can1]
        rintro e w12 ⟨rfl, p12, b12⟩
        have B12 := B11.trans b12
        clear p11 iv can1 can2 t4 p12
        go_wp2_with fail
        go_ret
        exact ⟨rfl, B12⟩
end Go.Proofs.YtppidbdkejkopaaGreatDoor.WlWalk
namespace Go.Proofs.YtppidbdkejkopaaGreatDoor.WlWalk
open Go.RowKit Go.WideShapes Go.ChangeShapes NumMem Go.Proofs.YtppidbdkejkopaaGreatDoor.Open BtWalk
section
variable {H : Type} {enc : TypeId × Value → H}
set_option maxRecDepth 100000 in
theorem prefix_main (W : World) (base : Nat) (v0 v1 : Value) {d0 d1 : DataW H} {p0 p1 : List MemPlace} (o0 : Value.okWide Tryz.prog W .any base 22 v0) (o1 : Value.okWide Tryz.prog W .any base 3 v1)
    (h0 : DataW.Trod enc Tryz.prog W 0 (fun _ => true) true 22 v0 d0 p0) (h1 : DataW.Trod enc Tryz.prog W 0 (fun _ => true) true 3 v1 d1 p1)
    (ht : Lib.TabIs Tryz.prog W "internal/strconv.uint64pow10" .u64 Lib.pow10Tab) :
    Calls Tryz.prog 8 #[v0, v1] W fun e W' => e = .returned (.bool true) ∧ Below W.heap.size W W' := by
  obtain ⟨A, n, cap, os, rfl, r, hok⟩ := op_wops o0 h0
  obtain ⟨z, rfl, _⟩ := op_i64 Tryz.underlying3 o1 h1
  exact prefix_walk A n cap os z W r hok (TabW.from ht)
end
end Go.Proofs.YtppidbdkejkopaaGreatDoor.WlWalk
