/-
  Towards the contract of Norm: what a map of the call's own holds, what is collected out of it, and what the library's sorts make of that. No walk here.
-/
import Derived.Test.YtgldheeplhcmcaaEvMath
import Derived.Test.YtgldheeplhcmcaaEvShelf
import Derived.Maps.OwnSet
import Derived.Maps.RangeWalk
import Derived.Sort.KeysCollected
import Derived.Sort.OwnSorted
namespace Go.Proofs.Ytgldheeplhcmcaa.EvWalk
open Go.RowKit Go.Maps Go.Sort Go.Proofs.Ytgldheeplhcmcaa.MemRow Go.Proofs.Ytgldheeplhcmcaa.Ev Go.Proofs.Ytgldheeplhcmcaa.NameMath Go.Proofs.Ytgldheeplhcmcaa.NameWalk

def ofB (l : List UInt8) : ByteArray := ⟨l.toArray⟩
theorem ofB_toB (s : ByteArray) : ofB s.data.toList = s := rfl
theorem toB_ofB (l : List UInt8) : (ofB l).data.toList = l := by simp [ofB]
theorem ofB_eq {l : List UInt8} {s : ByteArray} : ofB l = s ↔ l = s.data.toList := by
  constructor
  · rintro rfl
    rw [toB_ofB]
  · rintro rfl
    exact ofB_toB s
theorem ofB_inj {l m : List UInt8} (h : ofB l = ofB m) : l = m := by
  have := congrArg (fun s : ByteArray => s.data.toList) h
  simpa [toB_ofB] using this
theorem strs_ofB (us : List (List UInt8)) : strs (us.map ofB) = us.map encStr := by simp [strs, ofB, encStr]

/-! ### The set of tags -/
def setD (l : List ByteArray) : DataW Unit := l.foldl (fun D s => D.put (.string s.data.toList) (.agg [])) (.map [])
theorem setD_snoc (l : List ByteArray) (s : ByteArray) : setD (l ++ [s]) = (setD l).put (.string s.data.toList) (.agg []) := by simp [setD, List.foldl_append]
theorem setD_has (l : List ByteArray) (x : List UInt8) : has (setD l) (.string x) = true ↔ ofB x ∈ l := by
  suffices h : ∀ (l : List ByteArray) (D : DataW Unit), IsMap D → (has (l.foldl (fun D s => D.put (.string s.data.toList) (.agg [])) D) (.string x) = true ↔ has D (.string x) = true ∨ ofB x ∈ l) by
    have := h l (.map []) isMap_empty
    rw [show has (.map [] : DataW Unit) (.string x) = false from rfl] at this
    simpa [setD] using this
  intro l
  induction l with
  | nil => intro D _; simp
  | cons s l ih =>
    intro D hD
    rw [List.foldl_cons, ih _ (hD.put _ _), List.mem_cons]
    by_cases e : x = s.data.toList
    · have h1 : has (D.put (.string s.data.toList) (.agg [])) (.string x) = true := by rw [e]; exact has_put_same (k := .string _) hD trivial _
      have h2 : ofB x = s := ofB_eq.2 e
      simp [h1, h2]
    · have h1 : has (D.put (.string s.data.toList) (.agg [])) (.string x) = has D (.string x) := has_put_other (fun h => e (by injection h)) _
      have h2 : ¬ ofB x = s := fun h => e (ofB_eq.1 h)
      simp [h1, h2]

/-- What is collected out of the set, put in order. -/
theorem tags_sorted {us : List (List UInt8)} {ss : List ByteArray} (hn : us.Nodup) (hm : ∀ x, x ∈ us ↔ ofB x ∈ ss) : (us.mergeSort leB).map ofB = normTags ss := by
  have tr : ∀ a b c : List UInt8, leB a b = true → leB b c = true → leB a c = true := fun a b c h1 h2 => by simp only [leB, decide_eq_true_eq] at *; exact List.le_trans h1 h2
  have to : ∀ a b : List UInt8, (leB a b || leB b a) = true := fun a b => by simp only [leB, Bool.or_eq_true, decide_eq_true_eq]; exact List.le_total a b
  have hs := List.pairwise_mergeSort tr to us
  have hp := List.mergeSort_perm us leB
  have hnd : (us.mergeSort leB).Nodup := hp.nodup_iff.2 hn
  refine up_ext ?_ (normTags_up ss) fun x => ?_
  · unfold Up
    rw [List.pairwise_map]
    refine (hs.and hnd).imp ?_
    rintro a b ⟨h1, h2⟩
    rw [less_eq, toB_ofB, toB_ofB]
    simp only [leB, decide_eq_true_eq] at h1 ⊢
    exact Decidable.byContradiction fun h3 => h2 (List.le_antisymm h1 (List.not_lt.1 h3))
  · rw [normTags_mem, List.mem_map]
    constructor
    · rintro ⟨l, hl, rfl⟩
      exact (hm l).1 (hp.mem_iff.1 hl)
    · intro hx
      exact ⟨x.data.toList, hp.mem_iff.2 ((hm _).2 hx), rfl⟩

/-! ### The numbers by their names -/
def numD (fs : List (ByteArray × Int)) : DataW Unit := fs.foldl (fun D f => D.put (.string f.1.data.toList) (.lit (.int .i64 f.2))) (.map [])
theorem numD_snoc (fs : List (ByteArray × Int)) (f : ByteArray × Int) : numD (fs ++ [f]) = (numD fs).put (.string f.1.data.toList) (.lit (.int .i64 f.2)) := by simp [numD, List.foldl_append]
theorem numD_has (fs : List (ByteArray × Int)) (x : List UInt8) : has (numD fs) (.string x) = true ↔ ofB x ∈ fs.map (·.1) := by
  suffices h : ∀ (l : List (ByteArray × Int)) (D : DataW Unit), IsMap D → (has (l.foldl (fun D f => D.put (.string f.1.data.toList) (.lit (.int .i64 f.2))) D) (.string x) = true ↔ has D (.string x) = true ∨ ofB x ∈ l.map (·.1)) by
    have := h fs (.map []) isMap_empty
    rw [show has (.map [] : DataW Unit) (.string x) = false from rfl] at this
    simpa [numD] using this
  intro l
  induction l with
  | nil => intro D _; simp
  | cons f l ih =>
    intro D hD
    rw [List.foldl_cons, ih _ (hD.put _ _), List.map_cons, List.mem_cons]
    by_cases e : x = f.1.data.toList
    · have h1 : has (D.put (.string f.1.data.toList) (.lit (.int .i64 f.2))) (.string x) = true := by rw [e]; exact has_put_same (k := .string _) hD trivial _
      have h2 : ofB x = f.1 := ofB_eq.2 e
      simp [h1, h2]
    · have h1 : has (D.put (.string f.1.data.toList) (.lit (.int .i64 f.2))) (.string x) = has D (.string x) := has_put_other (fun h => e (by injection h)) _
      have h2 : ¬ ofB x = f.1 := fun h => e (ofB_eq.1 h)
      simp [h1, h2]
theorem numD_at (fs : List (ByteArray × Int)) (x : List UInt8) (z : DataW Unit) (hx : ofB x ∈ fs.map (·.1)) : (numD fs).atKey (.string x) z = .lit (.int .i64 (lastF fs (ofB x)).2) := by
  suffices h : ∀ (l : List (ByteArray × Int)) (D : DataW Unit) (a : ByteArray × Int), IsMap D → (D.atKey (.string x) z = .lit (.int .i64 a.2) ∨ ofB x ∈ l.map (·.1)) →
      (l.foldl (fun D f => D.put (.string f.1.data.toList) (.lit (.int .i64 f.2))) D).atKey (.string x) z = .lit (.int .i64 (l.foldl (fun a f => if f.1 = ofB x then f else a) a).2) from h fs _ _ isMap_empty (.inr hx)
  intro l
  induction l with
  | nil =>
    rintro D a _ (h | h)
    · exact h
    · simp at h
  | cons f l ih =>
    intro D a hD h
    rw [List.foldl_cons, List.foldl_cons]
    by_cases e : f.1 = ofB x
    · rw [if_pos e]
      refine ih _ _ (hD.put _ _) (.inl ?_)
      rw [e, toB_ofB]
      exact atKey_put_same (k := .string x) hD trivial _ _
    · rw [if_neg e]
      refine ih _ _ (hD.put _ _) ?_
      rcases h with h | h
      · left
        rw [atKey_put_other (fun h' => e (ofB_eq.2 (by injection h')).symm)]
        exact h
      · right
        simp only [List.map_cons, List.mem_cons] at h
        exact h.resolve_left fun h' => e h'.symm

/-! ### The order of the library's Compare -/
theorem compare_lt : ∀ (a b : List UInt8), decide (Lib.compareBytes a b < 0) = decide (a < b)
  | [], [] => by simp [Lib.compareBytes]
  | [], b :: ys => by simp [Lib.compareBytes]
  | a :: xs, [] => by simp [Lib.compareBytes]
  | a :: xs, b :: ys => by
    unfold Lib.compareBytes
    by_cases h1 : a < b
    · rw [if_pos h1]
      simp [List.cons_lt_cons_iff, h1]
    · by_cases h2 : b < a
      · rw [if_neg h1, if_pos h2]
        have h3 : ¬ a = b := fun e => h1 (e ▸ h2)
        simp [List.cons_lt_cons_iff, h1, h3]
      · have h3 : a = b := UInt8.le_antisymm (UInt8.not_lt.1 h2) (UInt8.not_lt.1 h1)
        rw [if_neg h1, if_neg h2, compare_lt xs ys]
        subst h3
        simp

def cmpF (x y : ByteArray × Int) : Int := Lib.compareBytes x.1.data.toList y.1.data.toList
theorem lt_cmpF (x y : ByteArray × Int) : ltOf cmpF x y = less x.1 y.1 := by
  rw [less_eq]
  exact compare_lt _ _
theorem swoF : SWO (ltOf cmpF) where
  irrefl x := by rw [lt_cmpF]; exact less_irrefl _
  trans x y z h1 h2 := by rw [lt_cmpF] at *; exact less_trans h1 h2
  ntrans x y z h1 h2 := by
    rw [lt_cmpF] at *
    cases h : less x.1 z.1 with
    | false => rfl
    | true =>
      exfalso
      by_cases e : x.1 = y.1
      · rw [e, h2] at h
        cases h
      · have h3 := less_tri h1 e
        have h4 := less_trans h3 h
        rw [h2] at h4
        cases h4

/-- What is collected out of the numbers, put in order by their names. -/
theorem fields_sorted {us fs : List (ByteArray × Int)} {d : Array (ByteArray × Int)} (hn : (us.map fun f => f.1.data.toList).Nodup) (hm : ∀ x, x ∈ us.map (fun f => f.1.data.toList) ↔ ofB x ∈ fs.map (·.1)) (hv : ∀ f ∈ us, f.2 = (lastF fs f.1).2)
    (hp : PermIn 0 us.toArray.size us.toArray d) (hs : SortedIn (ltOf cmpF) 0 us.toArray.size d) : d.toList = normFs fs := by
  obtain ⟨h1, _, h3⟩ := hp
  have hd : d.toList.Perm us := by
    rw [← h1, Array.extract_size, h1, Array.extract_size] at h3
    exact h3
  have hsz : d.size = us.length := by simpa using h1
  have hnd : (d.toList.map fun f => f.1.data.toList).Nodup := (hd.map _).nodup_iff.2 hn
  have hup : Up (d.toList.map (·.1)) := by
    unfold Up
    rw [List.pairwise_map, List.pairwise_iff_getElem]
    intro i j hi hj hij
    have hi' : i < d.size := by simpa using hi
    have hj' : j < d.size := by simpa using hj
    have h := hs i j (Nat.zero_le _) hij (by rw [← h1]; exact hj')
    rw [lt_cmpF, getElem!_pos d j hj', getElem!_pos d i hi'] at h
    have hne : d[j].1 ≠ d[i].1 := by
      intro e
      have hp := List.pairwise_iff_getElem.1 hnd i j (by simpa using hi') (by simpa using hj') hij
      simp only [List.getElem_map, Array.getElem_toList] at hp
      exact hp (by rw [e])
    simpa using less_tri h hne
  have hnames : d.toList.map (·.1) = normTags (fs.map (·.1)) := by
    refine up_ext hup (normTags_up _) fun x => ?_
    rw [normTags_mem]
    have e := hm x.data.toList
    rw [ofB_toB] at e
    rw [← e, List.mem_map, List.mem_map]
    constructor
    · rintro ⟨f, hf, rfl⟩
      exact ⟨f, hd.mem_iff.1 hf, rfl⟩
    · rintro ⟨f, hf, hx⟩
      refine ⟨f, hd.mem_iff.2 hf, ?_⟩
      rw [← ofB_toB x, ← hx, ofB_toB]
  have hself : d.toList = (d.toList.map (·.1)).map (lastF fs) := by
    rw [List.map_map]
    have : ∀ f ∈ d.toList, ((lastF fs) ∘ (·.1)) f = f := by
      intro f hf
      have hfu := hd.mem_iff.1 hf
      have hx : f.1 ∈ fs.map (·.1) := by
        have := (hm f.1.data.toList).1 (List.mem_map.2 ⟨f, hfu, rfl⟩)
        rwa [ofB_toB] at this
      have e1 := lastF_name fs f.1 hx
      have e2 := hv f hfu
      show lastF fs f.1 = f
      exact Prod.ext e1 e2.symm
    conv => lhs; rw [← List.map_id d.toList]
    exact (List.map_congr_left fun f hf => (this f hf).symm)
  rw [hself, hnames]
  rfl

/-! ### A row that the library has sorted -/
theorem flat_flds (d : Array (ByteArray × Int)) : (flatK fld 2 d).toList = flds d.toList := by
  apply List.ext_getElem?
  intro t
  by_cases ht : t < d.size * 2
  · have hq : t / 2 < d.toList.length := by simp; omega
    have hg := flds_get d.toList (t / 2) hq
    have e0 : (flatK fld 2 d).toList[t]? = some ((fld d[t / 2]!)[t % 2]!) := by
      rw [Array.getElem?_toList, Array.getElem?_eq_getElem (by simpa using ht), ← get_flatK fld 2 d t ht, getElem!_pos _ t (by simpa using ht)]
    have hq' : t / 2 < d.size := by simpa using hq
    have e1 : d.toList.getD (t / 2) (ByteArray.empty, 0) = d[t / 2]! := by
      rw [getElem!_pos d _ hq']
      simp [List.getD, hq']
    rw [e1] at hg
    rw [e0]
    rcases Nat.mod_two_eq_zero_or_one t with h | h
    · have : t = t / 2 * 2 := by omega
      rw [h]
      conv => rhs; rw [this]
      rw [hg.1]
      rfl
    · have : t = t / 2 * 2 + 1 := by omega
      rw [h]
      conv => rhs; rw [this]
      rw [hg.2]
      rfl
  · rw [List.getElem?_eq_none (by simp; omega), List.getElem?_eq_none (by rw [flds_length]; simp; omega)]

theorem holdsK_of_block {w : World} {g : Nat} {cur : Array Value} {e : TypeId} {us : List (ByteArray × Int)} (hb : w.heap[g]? = some (.cells cur e (0, 0))) (ht : cur.toList.take (us.length * 2) = flds us) : HoldsK fld 2 w g 0 us.toArray := by
  intro j hj
  have hj' : j < us.length * 2 := by simpa using hj
  refine ⟨?_, by simp [World.frozen?, hb]⟩
  have h1 : (cur.toList.take (us.length * 2))[j]? = (flatK fld 2 us.toArray).toList[j]? := by rw [ht, flat_flds]
  rw [List.getElem?_take_of_lt hj'] at h1
  simp only [World.cell?, hb, Nat.zero_add, Option.isSome_none, Bool.false_eq_true, if_false, id]
  rw [← Array.getElem?_toList, h1, Array.getElem?_toList, Array.getElem?_eq_getElem hj, getElem!_pos _ j hj]

theorem heap_sortK {w : World} {g n : Nat} {os : Array Obj} {cur : Array Value} {e : TypeId} {fr : Nat × Nat} (F : Array Value) (hb : w.heap[g]? = some (.cells cur e fr)) :
    (grow (putRow id (Sort.ahead w n) g 0 F) os).heap[g]? = some (.cells (putCells id 0 F cur) e fr) := by
  have hg : g < w.heap.size := (Array.getElem?_eq_some_iff.1 hb).1
  rw [heap_grow_old _ _ (by simpa using hg)]
  simp [putRow, mapBlock, Sort.ahead, Array.getElem?_modify, hb, onCells]

theorem grownBy_sortK {w : World} {g n : Nat} {os : Array Obj} (d : Array (ByteArray × Int)) : w.grownBy (sortWorldK fld 2 w g 0 n d os) (some g) := by
  refine ⟨rfl, rfl, rfl, by simp [sortWorldK, putRowK], fun k hk hne => ?_⟩
  unfold sortWorldK putRowK
  rw [heap_grow_old _ _ (by simpa using hk)]
  have : g ≠ k := fun e => hne (by rw [e])
  simp [putRow, mapBlock, Sort.ahead, Array.getElem?_modify, this]

theorem take_putK (cur F : Array Value) (h : F.size ≤ cur.size) : (putCells id 0 F cur).toList.take F.size = F.toList := by
  apply List.ext_getElem?
  intro j
  by_cases hj : j < F.size
  · rw [List.getElem?_take_of_lt hj, Array.getElem?_toList]
    simp [putCells, hj, show j < cur.size by omega]
  · rw [List.getElem?_take_eq_none (by omega), List.getElem?_eq_none (by simp; omega)]

/-- Behind the sort the same slice owns what is in order. -/
theorem ownsRow_sortK {w : World} {base g cap n m : Nat} {e : TypeId} {os : Array Obj} {cur : Array Value} {d : Array (ByteArray × Int)} (hl : d.size = m) (hbase : base ≤ g) (hb : w.heap[g]? = some (.cells cur e (0, 0)))
    (h1 : m ≤ cap) (h2 : cap ≤ maxLen) (h3 : cur.size = cap * 2) : (sortWorldK fld 2 w g 0 n d os).ownsRow base e 2 (.slice (some ⟨g, 0, none⟩) m cap) m (flds d.toList) := by
  have hF : (flatK fld 2 d).size = m * 2 := by rw [size_flatK, hl]
  refine ⟨by rw [flds_length, Array.length_toList, hl], .inr ⟨g, cap, _, rfl, hbase, heap_sortK _ hb, h1, h2, by simp [putCells, h3], ?_⟩⟩
  rw [← flat_flds, ← hF]
  exact take_putK cur _ (by rw [hF]; omega)

end Go.Proofs.Ytgldheeplhcmcaa.EvWalk
