/-
  The landed posting in memory: the lists of all keys, the box and its two maps; what a store makes of them, and of those that share lists.
-/
import Derived.Deep.RegionHeldLaw
import Derived.Maps.OwnOps
import Derived.WalkSpells
import Derived.Deep.QuietTactic
import Derived.BigQuiet
import Derived.Test.YtiplfhmimpkplaaGreatMg5
namespace Go.Proofs.YtiplfhmimpkplaaGreat.PnWalk
open Go.RowKit Go.Maps Go.Proofs.YtiplfhmimpkplaaGreat.MemRow Go.Proofs.YtiplfhmimpkplaaGreat.Ev Go.Proofs.YtiplfhmimpkplaaGreat.NameMath Go.Proofs.YtiplfhmimpkplaaGreat.NameWalk Go.Proofs.YtiplfhmimpkplaaGreat.EvWalk Go.Proofs.YtiplfhmimpkplaaGreat.NumMem Go.Proofs.YtiplfhmimpkplaaGreat.SmWalk Go.Proofs.YtiplfhmimpkplaaGreat.NMap Go.Proofs.YtiplfhmimpkplaaGreat.DkWalk Go.Proofs.YtiplfhmimpkplaaGreat.PoWalk

abbrev HdT := Ky → Option Hr
def setK {α : Type} (f : Ky → α) (k : Ky) (x : α) : Ky → α := fun t => if t = k then x else f t
theorem setK_at {α : Type} (f : Ky → α) (k : Ky) (x : α) : setK f k x k = x := if_pos rfl
theorem setK_ne {α : Type} (f : Ky → α) {k t : Ky} (x : α) (h : t ≠ k) : setK f k x t = f t := if_neg h
set_option maxRecDepth 100000 in
theorem setK_self {α : Type} (f : Ky → α) (k : Ky) : setK f k (f k) = f := by
  funext t
  by_cases e : t = k
  · rw [e, setK_at]
  · rw [setK_ne _ _ e]

/-! ### The lists of all keys -/
/-- Each key's list; where one has room, no other one lies. -/
structure Core (w : World) (F G : Nat → Prop) (l : Ky → List Int) (hd : HdT) : Prop where
  li : ∀ k, OldL w F G (hd k) (l k)
  apart : ∀ k k' h h', k' ≠ k → hd k = some h → hd k' = some h' → h.n < h.c → h'.b ≠ h.b
/-- Where the first one may still write, the second one reads no more than the first. -/
def Apt (hd hd' : HdT) : Prop := ∀ k k' h h', hd k = some h → hd' k' = some h' → h.n < h.c → h'.b = h.b → h'.n ≤ h.n
section
variable {w w1 w2 w' : World} {F F' G G' : Nat → Prop} {l l' : Ky → List Int} {hd hd' hd1 hd2 : HdT}
set_option maxRecDepth 100000 in
theorem OldL.wide {old : Option Hr} {x : List Int} (h : OldL w F G old x) (hF : ∀ k, F k → F' k) (hG : ∀ k, G k → G' k) : OldL w F' G' old x := by
  rcases h with ⟨y, e, r⟩ | h
  · exact .inl ⟨y, e, r.wide hF hG⟩
  · exact .inr h
set_option maxRecDepth 100000 in
theorem OldL.kept {old : Option Hr} {x : List Int} (h : OldL w F G old x) (hk : ∀ y, old = some y → w'.heap[y.b]? = w.heap[y.b]?) : OldL w' F G old x := by
  rcases h with ⟨y, e, r⟩ | h
  · exact .inl ⟨y, e, r.kept (hk y e)⟩
  · exact .inr h
set_option maxRecDepth 100000 in
theorem Core.lir (c : Core w F G l hd) {k : Ky} {h : Hr} (e : hd k = some h) : LiR w F G h (l k) := by
  rcases c.li k with ⟨y, e2, r⟩ | ⟨e2, _⟩
  · rw [e] at e2
    injection e2 with e2
    subst e2
    exact r
  · rw [e] at e2
    cases e2
theorem Core.wide (c : Core w F G l hd) (hF : ∀ k, F k → F' k) (hG : ∀ k, G k → G' k) : Core w F' G' l hd := ⟨fun k => (c.li k).wide hF hG, c.apart⟩
theorem Core.kept (c : Core w F G l hd) (hk : ∀ k h, hd k = some h → w'.heap[h.b]? = w.heap[h.b]?) : Core w' F G l hd := ⟨fun k => (c.li k).kept (hk k), c.apart⟩
theorem Core.keep (c : Core w F G l hd) (hk : ∀ k, G k → w'.heap[k]? = w.heap[k]?) : Core w' F G l hd := c.kept fun _ _ e => hk _ (c.lir e).gb
theorem Core.below (c : Core w F G l hd) (hb : Below w.heap.size w w') : Core w' F G l hd := c.kept fun _ _ e => hb.block _ (c.lir e).blt
set_option maxRecDepth 100000 in
/-- A store into a block of no numbers. -/
theorem Core.other (c : Core w F G l hd) {r : Nat} {o : Obj} (hg : w.grownBy w' (some r)) (hr : w.heap[r]? = some o) (ho : ∀ cs T fr, o = .cells cs T fr → T ≠ 3) : Core w' F G l hd :=
  c.kept fun _ _ e => hg.block _ (c.lir e).blt fun e2 => (c.lir e).not hr ho (by injection e2)

/-- What a step leaves of any other lists, that share some. -/
def KinC (w w' : World) (F : Nat → Prop) (hd hd1 : HdT) : Prop :=
  ∀ (F' G' : Nat → Prop) (l' : Ky → List Int) (hd' : HdT), Core w F' G' l' hd' → (∀ k, F' k → k < w.heap.size) → (∀ k, F k → ¬ F' k) → Apt hd hd' → Apt hd' hd → Core w' F' G' l' hd' ∧ Apt hd1 hd' ∧ Apt hd' hd1
theorem KinC.same (hb : Below w.heap.size w w') (F : Nat → Prop) (hd : HdT) : KinC w w' F hd hd := fun _ _ _ _ c _ _ a1 a2 => ⟨c.below hb, a1, a2⟩
theorem KinC.other {r : Nat} {o : Obj} (hg : w.grownBy w' (some r)) (hr : w.heap[r]? = some o) (ho : ∀ cs T fr, o = .cells cs T fr → T ≠ 3) (F : Nat → Prop) (hd : HdT) : KinC w w' F hd hd := fun _ _ _ _ c _ _ a1 a2 => ⟨c.other hg hr ho, a1, a2⟩
set_option maxRecDepth 100000 in
theorem KinC.trans (h1 : KinC w w1 F hd hd1) (h2 : KinC w1 w2 (up F w w1) hd1 hd2) (hs : w.heap.size ≤ w1.heap.size) : KinC w w2 F hd hd2 := fun F' G' l' hd' c hl hx a1 a2 => by
  obtain ⟨c1, b1, b2⟩ := h1 F' G' l' hd' c hl hx a1 a2
  refine h2 F' G' l' hd' c1 (fun k hk => Nat.lt_of_lt_of_le (hl k hk) hs) (fun k hk hf => ?_) b1 b2
  rcases hk with hk | hk
  · exact hx k hk hf
  · have := hl k hf
    omega

/-! ### A number behind a list -/
/-- What with(list, p) comes to: the list as it was, or with p. -/
def WOut (w w2 : World) (F G : Nat → Prop) (old : Option Hr) (l : List Int) (p : Int) (h' : Hr) : Prop :=
  (old = some h' ∧ l.getLast? = some p ∧ w2 = w) ∨ (l.getLast? ≠ some p ∧ AppOut w w2 F G old l p h')
set_option maxRecDepth 100000 in
theorem AppOut.ch {old : Option Hr} {x : List Int} {p : Int} {h' : Hr} (ap : AppOut w w2 F G old x p h') : Ch F w w2 := by
  rcases ap.how with ⟨y, _, _, hF, _, rfl⟩ | ⟨hb, _⟩
  · exact Ch.of_grown (setGrown w y.b y.n (.int .i64 p)) fun r e => by injection e with e; subst e; exact .inl hF
  · exact Ch.of_below hb
set_option maxRecDepth 100000 in
/-- A list of another key, or of others, behind an append. -/
theorem AppOut.stays {old : Option Hr} {x z : List Int} {p : Int} {h' y : Hr} (ap : AppOut w w2 F G old x p h') (r : LiR w F' G' y z) (hx : ∀ h, old = some h → h.n < h.c → y.b = h.b → y.n ≤ h.n) : LiR w2 F' G' y z := by
  rcases ap.how with ⟨h, e, hsp, _, _, rfl⟩ | ⟨hb, _⟩
  · exact r.put _ fun e2 => hx h e hsp e2.symm
  · exact r.kept (hb.block _ r.blt)
set_option maxRecDepth 100000 in
theorem Core.app (c : Core w F G l hd) {k : Ky} {p : Int} {h' : Hr} (ap : AppOut w w2 F G (hd k) (l k) p h') :
    Core w2 (up F w w2) (up G w w2) (setK l k (l k ++ [p])) (setK hd k (some h')) ∧ KinC w w2 F hd (setK hd k (some h')) := by
  have hnew : (∃ h, hd k = some h ∧ h.n < h.c ∧ F h.b ∧ h' = ⟨h.b, h.n + 1, h.c⟩) ∨ w.heap.size ≤ h'.b := by
    rcases ap.how with ⟨y, hy, hsp, hF, e, _⟩ | ⟨_, hb⟩
    · exact .inl ⟨y, hy, hsp, hF, e⟩
    · exact .inr hb
  refine ⟨⟨fun t => ?_, fun a t ha ht hta e1 e2 hsp => ?_⟩, fun F' G' l' hd' y hl hFF a1 a2 => ⟨⟨fun t => ?_, y.apart⟩, fun a t ha ht e1 e2 hsp e => ?_, fun t a ht ha e2 e1 hsp e => ?_⟩⟩
  · by_cases e : t = k
    · subst e
      rw [setK_at, setK_at]
      exact .inl ⟨_, rfl, ap.li⟩
    · rw [setK_ne _ _ e, setK_ne _ _ e]
      rcases c.li t with ⟨z, e2, r⟩ | h
      · exact .inl ⟨z, e2, (ap.stays r fun h eh hsp eb => absurd eb (c.apart k t h z e eh e2 hsp)).wide (fun _ h => .inl h) (fun _ h => .inl h)⟩
      · exact .inr h
  · by_cases ea : a = k
    · subst ea
      rw [setK_at] at e1
      rw [setK_ne _ _ hta] at e2
      injection e1 with e1
      subst e1
      rcases hnew with ⟨h, eh, hsp', _, rfl⟩ | hb
      · exact c.apart a t h ht hta eh e2 hsp'
      · have := (c.lir e2).blt
        omega
    · rw [setK_ne _ _ ea] at e1
      by_cases et : t = k
      · subst et
        rw [setK_at] at e2
        injection e2 with e2
        subst e2
        rcases hnew with ⟨h, eh, _, _, rfl⟩ | hb
        · exact c.apart a t ha h hta e1 eh hsp
        · have := (c.lir e1).blt
          omega
      · rw [setK_ne _ _ et] at e2
        exact c.apart a t ha ht hta e1 e2 hsp
  · rcases y.li t with ⟨z, e2, r⟩ | h
    · exact .inl ⟨z, e2, ap.stays r fun h eh hsp eb => a1 k t h z eh e2 hsp eb⟩
    · exact .inr h
  · by_cases ea : a = k
    · subst ea
      rw [setK_at] at e1
      injection e1 with e1
      subst e1
      rcases hnew with ⟨h, eh, hsp', _, rfl⟩ | hb
      · have := a1 a t h ht eh e2 hsp' e
        simp only
        omega
      · have := (y.lir e2).blt
        omega
    · rw [setK_ne _ _ ea] at e1
      exact a1 a t ha ht e1 e2 hsp e
  · by_cases ea : a = k
    · subst ea
      rw [setK_at] at e1
      injection e1 with e1
      subst e1
      rcases hnew with ⟨h, eh, _, hF, rfl⟩ | hb
      · exact absurd ((y.lir e2).own hsp) (by rw [← e]; exact hFF _ hF)
      · have := (y.lir e2).blt
        omega
    · rw [setK_ne _ _ ea] at e1
      exact a2 t a ht ha e2 e1 hsp e
set_option maxRecDepth 100000 in
theorem Core.with (c : Core w F G l hd) {k : Ky} {p : Int} {h' : Hr} (wo : WOut w w2 F G (hd k) (l k) p h') :
    Core w2 (up F w w2) (up G w w2) (setK l k (withF (l k) p)) (setK hd k (some h')) ∧ KinC w w2 F hd (setK hd k (some h')) ∧ Ch F w w2 := by
  rcases wo with ⟨e, hl, rfl⟩ | ⟨hl, ap⟩
  · have e1 : setK hd k (some h') = hd := by rw [← e, setK_self]
    have e2 : setK l k (withF (l k) p) = l := by
      unfold withF
      rw [if_pos hl, setK_self]
    rw [e1, e2]
    exact ⟨c.wide (fun _ h => .inl h) (fun _ h => .inl h), KinC.same (Below.refl _ _) _ _, Ch.refl _ _⟩
  · have e2 : withF (l k) p = l k ++ [p] := by
      unfold withF
      rw [if_neg hl]
    rw [e2]
    obtain ⟨h1, h2⟩ := c.app ap
    exact ⟨h1, h2, ap.ch⟩
end

end Go.Proofs.YtiplfhmimpkplaaGreat.PnWalk

/-
  The landed posting in memory: Lists behind a pointer; what a number behind the list of a key makes of it.
-/
namespace Go.Proofs.YtiplfhmimpkplaaGreat.PnWalk
open Go.RowKit Go.Maps Go.Proofs.YtiplfhmimpkplaaGreat.MemRow Go.Proofs.YtiplfhmimpkplaaGreat.Ev Go.Proofs.YtiplfhmimpkplaaGreat.NameMath Go.Proofs.YtiplfhmimpkplaaGreat.NameWalk Go.Proofs.YtiplfhmimpkplaaGreat.EvWalk Go.Proofs.YtiplfhmimpkplaaGreat.NumMem Go.Proofs.YtiplfhmimpkplaaGreat.SmWalk Go.Proofs.YtiplfhmimpkplaaGreat.NMap Go.Proofs.YtiplfhmimpkplaaGreat.DkWalk Go.Proofs.YtiplfhmimpkplaaGreat.PoWalk

def hv : Option Hr → Hr
  | some h => h
  | none => ⟨0, 0, 0⟩
def setB {α : Type} (f : Bool → α) (b : Bool) (x : α) : Bool → α := fun c => if c = b then x else f c
theorem setB_at {α : Type} (f : Bool → α) (b : Bool) (x : α) : setB f b x b = x := if_pos rfl
theorem setB_ne {α : Type} (f : Bool → α) {b c : Bool} (x : α) (h : c ≠ b) : setB f b x c = f c := if_neg h
/-- The lists D behind g: its own blocks F, all blocks that it reads G. -/
structure LnR (w : World) (F G : Nat → Prop) (g : Nat) (D : Dt) (mb : Bool → Nat) (M : Bool → DataW Hr) (hd : HdT) : Prop where
  box : w.heap[g]? = some (.cells #[mkL (hd none), .map (some (mb false)), .map (some (mb true))] 60 (0, 0))
  own : ∀ b, w.ownsMap Tryz.prog 9 slR (mb b) (Maps.size (M b)) (M b)
  nm : ∀ b, NOf (M b) (namesT (D.t b)) (fun s => hv (hd (some (b, s))))
  co : Core w F G (lstD D) hd
  ne : ∀ b c, c ≠ b → mb c ≠ mb b
  fg : F g
  fm : ∀ b, F (mb b)
  fG : ∀ k, F k → G k
  lt : ∀ k, G k → k < w.heap.size
section
variable {w w1 w2 w3 w' : World} {F F' G G' : Nat → Prop} {g : Nat} {D : Dt} {mb : Bool → Nat} {M : Bool → DataW Hr} {hd : HdT}
theorem LnR.c0 (h : LnR w F G g D mb M hd) : w.cell? ⟨g, 0, none⟩ = some (mkL (hd none)) := by rw [cell_of_row w g 0 _ _ _ h.box]; rfl
theorem LnR.c1 (h : LnR w F G g D mb M hd) : w.cell? ⟨g, 1, none⟩ = some (.map (some (mb false))) := by rw [cell_of_row w g 1 _ _ _ h.box]; rfl
theorem LnR.c2 (h : LnR w F G g D mb M hd) : w.cell? ⟨g, 2, none⟩ = some (.map (some (mb true))) := by rw [cell_of_row w g 2 _ _ _ h.box]; rfl
theorem LnR.frozen (h : LnR w F G g D mb M hd) (i : Nat) : w.frozen? ⟨g, i, none⟩ = false := by simp [World.frozen?, h.box]
theorem LnR.glt (h : LnR w F G g D mb M hd) : g < w.heap.size := h.lt _ (h.fG _ h.fg)
theorem LnR.mlt (h : LnR w F G g D mb M hd) (b : Bool) : mb b < w.heap.size := h.lt _ (h.fG _ (h.fm b))
set_option maxRecDepth 100000 in
theorem LnR.block (h : LnR w F G g D mb M hd) (b : Bool) : ∃ es clock, w.heap[mb b]? = some (.map es clock) := by
  obtain ⟨es, clock, hb, _⟩ := h.own b
  exact ⟨es, clock, hb⟩
set_option maxRecDepth 100000 in
theorem LnR.mg (h : LnR w F G g D mb M hd) (b : Bool) : mb b ≠ g := by
  obtain ⟨es, clock, hb⟩ := h.block b
  intro e
  rw [e, h.box] at hb
  injection hb with hb
  cases hb
set_option maxRecDepth 100000 in
theorem LnR.far (h : LnR w F G g D mb M hd) {F' G' : Nat → Prop} {x : Hr} {l : List Int} (r : LiR w F' G' x l) : x.b ≠ g ∧ ∀ b, x.b ≠ mb b := by
  refine ⟨r.not h.box fun cs T fr e => by injection e with _ e _; subst e; decide, fun b => ?_⟩
  obtain ⟨es, clock, hb⟩ := h.block b
  exact r.not hb fun cs T fr e => by cases e
set_option maxRecDepth 100000 in
theorem LnR.keep (h : LnR w F G g D mb M hd) (hs : w.heap.size ≤ w'.heap.size) (hk : ∀ k, G k → w'.heap[k]? = w.heap[k]?) : LnR w' F G g D mb M hd := by
  refine ⟨(hk g (h.fG _ h.fg)).trans h.box, fun b => ?_, h.nm, h.co.keep hk, h.ne, h.fg, h.fm, h.fG, fun k hg => Nat.lt_of_lt_of_le (h.lt k hg) hs⟩
  obtain ⟨es, clock, hb, ft, hn, hD⟩ := h.own b
  exact ⟨es, clock, (hk (mb b) (h.fG _ (h.fm b))).trans hb, ft, hn, hD⟩
theorem LnR.below (h : LnR w F G g D mb M hd) (hb : Below w.heap.size w w') : LnR w' F G g D mb M hd := h.keep hb.size fun k hk => hb.block k (h.lt k hk)
set_option maxRecDepth 100000 in
theorem LnR.wide (h : LnR w F G g D mb M hd) (hF : ∀ k, F k → F' k) (hG : ∀ k, G k → G' k) (hFG : ∀ k, F' k → G' k) (hl : ∀ k, G' k → k < w.heap.size) : LnR w F' G' g D mb M hd :=
  ⟨h.box, h.own, h.nm, h.co.wide hF hG, h.ne, hF _ h.fg, fun b => hF _ (h.fm b), hFG, hl⟩
theorem LnR.size (h : LnR w F G g D mb M hd) (b : Bool) : Maps.size (M b) = (namesT (D.t b)).length := (h.nm b).size ((h.own b).canon keyedN) (up_nodupN (namesT_up (D.t b)))
theorem LnR.isMap (h : LnR w F G g D mb M hd) (b : Bool) : IsMap (M b) := isMapN (h.own b)
theorem zeroRi (W : World) : (zeroValue 57).run Tryz.prog W = .ok (.slice none 0 0) W := Tryz.zeroValue57 W
set_option maxRecDepth 100000 in
theorem Core.has (c : Core w F G (lstD D) hd) {b : Bool} {s : ByteArray} (hs : s ∈ namesT (D.t b)) : ∃ h, hd (some (b, s)) = some h := by
  rcases c.li (some (b, s)) with ⟨y, e, _⟩ | ⟨_, e⟩
  · exact ⟨y, e⟩
  · have := allP_some hs
    have e : allP (D.t b) s = [] := e
    rw [e] at this
    cases this
set_option maxRecDepth 100000 in
theorem Core.no (c : Core w F G (lstD D) hd) {b : Bool} {s : ByteArray} (hs : ¬ s ∈ namesT (D.t b)) : hd (some (b, s)) = none := by
  rcases c.li (some (b, s)) with ⟨y, _, r⟩ | ⟨e, _⟩
  · have h1 := r.len
    have h2 := r.pos
    have e : lstD D (some (b, s)) = [] := allP_none hs
    rw [e] at h1
    simp only [List.length_nil] at h1
    omega
  · exact e
set_option maxRecDepth 100000 in
theorem LnR.look (h : LnR w F G g D mb M hd) (b : Bool) {s : ByteArray} (hs : s.size ≤ maxLen) : (Instr.lookup 58 (.map (some (mb b))) (.string s) false).run Tryz.prog w = .ok (mkL (hd (some (b, s)))) w := by
  obtain ⟨v, ps, hrun, hv'⟩ := (h.own b).lookup keyedN Tryz.underlying58 (zeroRi w) slR_none (keyN_of hs)
  rw [hrun]
  congr 1
  by_cases hk : s ∈ namesT (D.t b)
  · obtain ⟨x, e⟩ := h.co.has hk
    rw [(h.nm b).at_ s hk] at hv'
    have := slR_held _ _ _ hv'
    rw [e] at this ⊢
    exact this
  · rw [atKey_of_not_has ((h.nm b).no hk)] at hv'
    rw [h.co.no hk]
    exact slR_nil hv'
set_option maxRecDepth 100000 in
/-- What a key's list reads as. -/
theorem OldL.rd {old : Option Hr} {l : List Int} (h : OldL w F G old l) : ∃ A n c, mkL old = .slice A n c ∧ RdI w A n c l ∧ (A = none → n = 0) := by
  rcases h with ⟨y, rfl, r⟩ | ⟨rfl, rfl⟩
  · exact ⟨_, _, _, rfl, r.rd, fun e => by cases e⟩
  · exact ⟨none, 0, 0, rfl, RdC.nil _, fun _ => rfl⟩

/-! ### Stores -/
set_option maxRecDepth 100000 in
theorem WOut.other {old : Option Hr} {l : List Int} {p : Int} {h' : Hr} (wo : WOut w w2 F G old l p h') {k : Nat} (hk : k < w.heap.size) (hn : ∀ h, old = some h → k ≠ h.b) : w2.heap[k]? = w.heap[k]? := by
  rcases wo with ⟨_, _, rfl⟩ | ⟨_, ap⟩
  · rfl
  · exact ap.other hk hn
set_option maxRecDepth 100000 in
theorem LnR.with_box (h : LnR w F G g D mb M hd) {k : Ky} {p : Int} {h' : Hr} (wo : WOut w w2 F G (hd k) (lstD D k) p h') : w2.heap[g]? = w.heap[g]? ∧ ∀ b, w2.heap[mb b]? = w.heap[mb b]? := by
  have hne : ∀ x, hd k = some x → x.b ≠ g ∧ ∀ b, x.b ≠ mb b := fun x hx => h.far (h.co.lir hx)
  exact ⟨wo.other h.glt fun x hx => (hne x hx).1.symm, fun b => wo.other (h.mlt b) fun x hx => ((hne x hx).2 b).symm⟩
set_option maxRecDepth 100000 in
theorem LnR.with_own (h : LnR w F G g D mb M hd) {k : Ky} {p : Int} {h' : Hr} (wo : WOut w w2 F G (hd k) (lstD D k) p h') (b : Bool) : w2.ownsMap Tryz.prog 9 slR (mb b) (Maps.size (M b)) (M b) := by
  obtain ⟨es, clock, hb, ft, hn, hD⟩ := h.own b
  exact ⟨es, clock, ((h.with_box wo).2 b).trans hb, ft, hn, hD⟩
set_option maxRecDepth 100000 in
theorem names_addK {T : Tb} {s : ByteArray} {p : Int} (t : ByteArray) : t ∈ namesT (addK T s p) ↔ t = s ∨ t ∈ namesT T := by
  unfold addK
  split
  · rename_i h
    refine ⟨.inr, fun h2 => ?_⟩
    rcases h2 with rfl | h2
    · have hm := List.mem_of_getLast? h
      unfold allP at hm
      obtain ⟨x, hx, _⟩ := List.mem_map.1 hm
      obtain ⟨h3, h4⟩ := List.mem_filter.1 hx
      exact namesT_mem.2 ⟨x, h3, by simpa using h4⟩
    · exact h2
  · exact namesT_more t
set_option maxRecDepth 100000 in
theorem lstD_put (D : Dt) (b : Bool) (s : ByteArray) (p : Int) : lstD ⟨D.all, setB D.t b (addK (D.t b) s p)⟩ = setK (lstD D) (some (b, s)) (withF (lstD D (some (b, s))) p) := by
  funext k
  match k with
  | none => rw [setK_ne _ _ (by simp)]; rfl
  | some (c, t) =>
    show allP (setB D.t b (addK (D.t b) s p) c) t = _
    by_cases ec : c = b
    · subst ec
      rw [setB_at]
      by_cases et : t = s
      · subst et
        rw [setK_at, addK_at]
        rfl
      · rw [setK_ne _ _ (by simp [et]), addK_ne _ et]
        rfl
    · rw [setB_ne _ _ ec, setK_ne _ _ (by simp [ec])]
      rfl
set_option maxRecDepth 100000 in
theorem lstD_all (D : Dt) (p : Int) : lstD ⟨withF D.all p, D.t⟩ = setK (lstD D) none (withF (lstD D none) p) := by
  funext k
  match k with
  | none => rw [setK_at]; rfl
  | some (c, t) => rw [setK_ne _ _ (by simp)]; rfl
/-- What a step comes to, and what it leaves of others. -/
structure Grew (w w' : World) (F G : Nat → Prop) (g : Nat) (mb : Bool → Nat) (hd : HdT) (D1 : Dt) (M1 : Bool → DataW Hr) (hd1 : HdT) : Prop where
  ln : LnR w' (up F w w') (up G w w') g D1 mb M1 hd1
  ch : Ch F w w'
  kin : KinC w w' F hd hd1
theorem KinC.wide {hd1 : HdT} (h : KinC w w' F hd hd1) (hF : ∀ k, F k → F' k) : KinC w w' F' hd hd1 := fun F2 G2 l2 hd2 c hl hx a1 a2 => h F2 G2 l2 hd2 c hl (fun k hk => hx k (hF k hk)) a1 a2
set_option maxRecDepth 100000 in
theorem Grew.refl (h : LnR w F G g D mb M hd) : Grew w w F G g mb hd D M hd :=
  ⟨h.wide (fun _ h => .inl h) (fun _ h => .inl h) (fun k hk => by rcases hk with hk | hk; exact .inl (h.fG k hk); exact .inr hk) (fun k hk => up_lt h.lt (Nat.le_refl _) hk), Ch.refl _ _, KinC.same (Below.refl _ _) _ _⟩
set_option maxRecDepth 100000 in
theorem Grew.trans {D1 D2 : Dt} {M1 M2 : Bool → DataW Hr} {hd1 hd2 : HdT} (h1 : Grew w w1 F G g mb hd D1 M1 hd1) (h2 : Grew w1 w2 (up F w w1) (up G w w1) g mb hd1 D2 M2 hd2) : Grew w w2 F G g mb hd D2 M2 hd2 := by
  have s1 := h1.ch.size
  have s2 := h2.ch.size
  refine ⟨h2.ln.wide (fun k hk => up_up s1 s2 hk) (fun k hk => up_up s1 s2 hk) (fun k hk => ?_) (fun k hk => ?_), h1.ch.trans h2.ch, h1.kin.trans h2.kin s1⟩
  · have := h2.ln.fG k
    rcases hk with hk | hk
    · rcases h1.ln.fG k (.inl hk) with h3 | h3
      · exact .inl h3
      · exact .inr ⟨h3.1, by omega⟩
    · exact .inr hk
  · rcases hk with hk | hk
    · exact h2.ln.lt k (.inl (.inl hk))
    · exact hk.2
set_option maxRecDepth 100000 in
theorem Grew.below (hb : Below w.heap.size w w1) (h : LnR w F G g D mb M hd) : Grew w w1 F G g mb hd D M hd :=
  ⟨(h.below hb).wide (fun _ h => .inl h) (fun _ h => .inl h) (fun k hk => by rcases hk with hk | hk; exact .inl (h.fG k hk); exact .inr hk) (fun k hk => up_lt h.lt hb.size hk), Ch.of_below hb, KinC.same hb _ _⟩
set_option maxRecDepth 100000 in
theorem LnR.put_map (h : LnR w F G g D mb M hd) (b : Bool) {s : ByteArray} {p : Int} {h' : Hr} (wo : WOut w w2 F G (hd (some (b, s))) (lstD D (some (b, s))) p h') (hg : w2.grownBy w3 (some (mb b))) {n : Nat} (ho : w3.ownsMap Tryz.prog 9 slR (mb b) n ((M b).put (keyN s) (.held h'))) :
    Grew w w3 F G g mb hd ⟨D.all, setB D.t b (addK (D.t b) s p)⟩ (setB M b ((M b).put (keyN s) (.held h'))) (setK hd (some (b, s)) (some h')) := by
  obtain ⟨e1, e2⟩ := h.with_box wo
  obtain ⟨c2, k2, ch2⟩ := h.co.with wo
  have z2 := ch2.size
  have z3 := hg.size
  obtain ⟨es, clock, hbm⟩ := h.block b
  have hbm2 := (e2 b).trans hbm
  have hno : ∀ (cs : Array Value) (T : TypeId) (fr : Nat × Nat), (Obj.map es clock) = .cells cs T fr → T ≠ 3 := fun cs T fr e => by cases e
  have ch3 : Ch F w w3 := ch2.then_grown hg fun r e => by injection e with e; subst e; exact .inl (.inl (h.fm b))
  refine ⟨⟨?_, fun c => ?_, fun c => ?_, ?_, h.ne, .inl h.fg, fun c => .inl (h.fm c), fun k hk => ?_, fun k hk => up_lt h.lt ch3.size hk⟩, ch3, k2.trans (KinC.other hg hbm2 hno _ _) z2⟩
  · rw [setK_ne _ _ (by simp)]
    exact ((hg.block g (by have := h.glt; omega) (fun e => h.mg b (by injection e with e; exact e.symm))).trans e1).trans h.box
  · by_cases ec : c = b
    · subst ec
      rw [setB_at]
      exact tightN ho
    · rw [setB_ne _ _ ec]
      obtain ⟨es2, clock2, hb2, ft, hn, hD⟩ := h.own c
      exact ⟨es2, clock2, (hg.block (mb c) (by have := h.mlt c; omega) (fun e => h.ne b c ec (by injection e))).trans ((e2 c).trans hb2), ft, hn, hD⟩
  · by_cases ec : c = b
    · subst ec
      simp only [setB_at]
      have := (h.nm c).put (s := s) (h' := fun t => hv (setK hd (some (c, s)) (some h') (some (c, t)))) (h.isMap c) (ns' := namesT (addK (D.t c) s p)) (fun t => names_addK t) (fun t ht => by rw [setK_ne _ _ (by simp [ht])])
      simp only [setK_at, hv] at this
      exact this
    · simp only [setB_ne _ _ ec]
      exact (h.nm c).same (fun _ => Iff.rfl) fun t _ => by rw [setK_ne _ _ (by simp [ec])]
  · rw [lstD_put]
    exact (c2.other hg hbm2 hno).wide (fun k hk => up_mono z3 hk) (fun k hk => up_mono z3 hk)
  · rcases hk with hk | hk
    · exact .inl (h.fG k hk)
    · exact .inr hk
set_option maxRecDepth 100000 in
theorem three_set0 {w : World} {g : Nat} {a b c v : Value} {t : TypeId} (h : w.heap[g]? = some (.cells #[a, b, c] t (0, 0))) : (w.setCell ⟨g, 0, none⟩ v).heap[g]? = some (.cells #[v, b, c] t (0, 0)) := by
  rw [block_put w g 0 v h]
  rfl
set_option maxRecDepth 100000 in
theorem LnR.put_all (h : LnR w F G g D mb M hd) {p : Int} {h' : Hr} (wo : WOut w w2 F G (hd none) (lstD D none) p h') :
    Grew w (w2.setCell ⟨g, 0, none⟩ (valL h')) F G g mb hd ⟨withF D.all p, D.t⟩ M (setK hd none (some h')) := by
  obtain ⟨e1, e2⟩ := h.with_box wo
  obtain ⟨c2, k2, ch2⟩ := h.co.with wo
  have hg := setGrown w2 g 0 (valL h')
  have z2 := ch2.size
  have z3 := hg.size
  have hbm2 := e1.trans h.box
  have hno : ∀ (cs : Array Value) (T : TypeId) (fr : Nat × Nat), (Obj.cells #[mkL (hd none), .map (some (mb false)), .map (some (mb true))] 60 (0, 0)) = .cells cs T fr → T ≠ 3 := fun cs T fr e => by injection e with _ e _; subst e; decide
  have ch3 : Ch F w (w2.setCell ⟨g, 0, none⟩ (valL h')) := ch2.then_grown hg fun r e => by injection e with e; subst e; exact .inl (.inl h.fg)
  refine ⟨⟨?_, fun c => ?_, fun c => ?_, ?_, h.ne, .inl h.fg, fun c => .inl (h.fm c), fun k hk => ?_, fun k hk => up_lt h.lt ch3.size hk⟩, ch3, k2.trans (KinC.other hg hbm2 hno _ _) z2⟩
  · rw [setK_at]
    exact three_set0 hbm2
  · obtain ⟨es2, clock2, hb2, ft, hn, hD⟩ := h.own c
    exact ⟨es2, clock2, (hg.block (mb c) (by have := h.mlt c; omega) (fun e => h.mg c (by injection e))).trans ((e2 c).trans hb2), ft, hn, hD⟩
  · exact (h.nm c).same (fun _ => Iff.rfl) fun t _ => by rw [setK_ne _ _ (by simp)]
  · rw [lstD_all]
    exact (c2.other hg hbm2 hno).wide (fun k hk => up_mono z3 hk) (fun k hk => up_mono z3 hk)
  · rcases hk with hk | hk
    · exact .inl (h.fG k hk)
    · exact .inr hk
set_option maxRecDepth 100000 in
theorem Grew.from (hb : Below w.heap.size w w1) (h : LnR w F G g D mb M hd) {D1 : Dt} {M1 : Bool → DataW Hr} {hd1 : HdT} (gr : Grew w1 w2 F G g mb hd D1 M1 hd1) : Grew w w2 F G g mb hd D1 M1 hd1 := by
  have s1 := hb.size
  have s2 := gr.ch.size
  have hup : ∀ (H : Nat → Prop) k, up H w1 w2 k → up H w w2 k := fun H k hk => by
    rcases hk with hk | hk
    · exact .inl hk
    · exact .inr ⟨by omega, hk.2⟩
  have hch : Ch F w w2 := (Ch.of_below hb).trans (gr.ch.wide fun k hk => .inl hk)
  exact ⟨gr.ln.wide (hup F) (hup G) (fun k hk => by rcases hk with hk | hk; exact .inl (h.fG k hk); exact .inr hk) (fun k hk => up_lt h.lt hch.size hk), hch, (KinC.same hb F hd).trans (gr.kin.wide fun k hk => .inl hk) s1⟩
set_option maxRecDepth 100000 in
/-- Another one that shares lists, behind a step of the first. -/
theorem Grew.other {D1 : Dt} {M1 : Bool → DataW Hr} {hd1 : HdT} (gr : Grew w w' F G g mb hd D1 M1 hd1) {g' : Nat} {D' : Dt} {mb' : Bool → Nat} {M' : Bool → DataW Hr} {hd' : HdT} (y : LnR w F' G' g' D' mb' M' hd') (hx : ∀ k, F k → ¬ F' k) (a1 : Apt hd hd') (a2 : Apt hd' hd) :
    LnR w' F' G' g' D' mb' M' hd' ∧ Apt hd1 hd' ∧ Apt hd' hd1 := by
  obtain ⟨c, b1, b2⟩ := gr.kin F' G' (lstD D') hd' y.co (fun k hk => y.lt k (y.fG k hk)) hx a1 a2
  have kn : ∀ k, F' k → w'.heap[k]? = w.heap[k]? := fun k hk => gr.ch.block k (y.lt k (y.fG k hk)) fun hf => hx k hf hk
  refine ⟨⟨(kn g' y.fg).trans y.box, fun b => ?_, y.nm, c, y.ne, y.fg, y.fm, y.fG, fun k hk => Nat.lt_of_lt_of_le (y.lt k hk) gr.ch.size⟩, b1, b2⟩
  obtain ⟨es, clock, hb, ft, hn, hD⟩ := y.own b
  exact ⟨es, clock, (kn (mb' b) (y.fm b)).trans hb, ft, hn, hD⟩
end

end Go.Proofs.YtiplfhmimpkplaaGreat.PnWalk

/-
  The landed index in memory: its lists by tag and type; what a number behind the list of a key makes of it.
-/
namespace Go.Proofs.YtiplfhmimpkplaaGreat.PnWalk
open Go.RowKit Go.Maps Go.Proofs.YtiplfhmimpkplaaGreat.MemRow Go.Proofs.YtiplfhmimpkplaaGreat.Ev Go.Proofs.YtiplfhmimpkplaaGreat.NameMath Go.Proofs.YtiplfhmimpkplaaGreat.NameWalk Go.Proofs.YtiplfhmimpkplaaGreat.EvWalk Go.Proofs.YtiplfhmimpkplaaGreat.NumMem Go.Proofs.YtiplfhmimpkplaaGreat.SmWalk Go.Proofs.YtiplfhmimpkplaaGreat.NMap Go.Proofs.YtiplfhmimpkplaaGreat.DkWalk Go.Proofs.YtiplfhmimpkplaaGreat.PoWalk Go.Proofs.YtiplfhmimpkplaaGreat.InWalk

abbrev mapAt (mb : Option (Bool → Nat)) (b : Bool) : Option Nat := mb.map (fun f => f b)
/-- The lists D: their own blocks F, all blocks that they read G; where their three cells lie is said beside. -/
structure LnC (w : World) (F G : Nat → Prop) (D : Dt) (mb : Option (Bool → Nat)) (M : Bool → DataW Hr) (hd : HdT) : Prop where
  own : ∀ b, OwnM slR w (mapAt mb b) (M b)
  nm : ∀ b, NOf (M b) (namesT (D.t b)) (fun s => hv (hd (some (b, s))))
  co : Core w F G (lstD D) hd
  ne : ∀ f, mb = some f → ∀ b c, c ≠ b → f c ≠ f b
  nl : mb = none → D.all = []
  fm : ∀ f, mb = some f → ∀ b, F (f b)
  fG : ∀ k, F k → G k
  lt : ∀ k, G k → k < w.heap.size
/-- The block of the index that has them. -/
abbrev LBx (w : World) (g : Nat) (r m lp : Value) (mb : Option (Bool → Nat)) (hd : HdT) : Prop := XBx w g r m lp (mkL (hd none)) (.map (mapAt mb false)) (.map (mapAt mb true))
section
variable {w w1 w2 w3 w' : World} {F F' G G' : Nat → Prop} {g : Nat} {r m lp : Value} {D : Dt} {mb : Option (Bool → Nat)} {M : Bool → DataW Hr} {hd : HdT} {f : Bool → Nat}
set_option maxRecDepth 100000 in
theorem LnC.mf (h : LnC w F G D mb M hd) {b : Bool} {k : Nat} (e : mapAt mb b = some k) : F k := by
  cases mb with
  | none => cases e
  | some f =>
    injection e with e
    rw [← e]
    exact h.fm f rfl b
set_option maxRecDepth 100000 in
theorem LnC.keep (h : LnC w F G D mb M hd) (hs : w.heap.size ≤ w'.heap.size) (hk : ∀ k, G k → w'.heap[k]? = w.heap[k]?) : LnC w' F G D mb M hd :=
  ⟨fun b => (h.own b).kept fun k e => hk k (h.fG _ (h.mf e)), h.nm, h.co.keep hk, h.ne, h.nl, h.fm, h.fG, fun k hg => Nat.lt_of_lt_of_le (h.lt k hg) hs⟩
theorem LnC.below (h : LnC w F G D mb M hd) (hb : Below w.heap.size w w') : LnC w' F G D mb M hd := h.keep hb.size fun k hk => hb.block k (h.lt k hk)
set_option maxRecDepth 100000 in
theorem LnC.wide (h : LnC w F G D mb M hd) (hF : ∀ k, F k → F' k) (hG : ∀ k, G k → G' k) (hFG : ∀ k, F' k → G' k) (hl : ∀ k, G' k → k < w.heap.size) : LnC w F' G' D mb M hd :=
  ⟨h.own, h.nm, h.co.wide hF hG, h.ne, h.nl, fun f e b => hF _ (h.fm f e b), hFG, hl⟩
theorem LnC.size (h : LnC w F G D mb M hd) (b : Bool) : Maps.size (M b) = (namesT (D.t b)).length := (h.own b).size (h.nm b) (up_nodupN (namesT_up (D.t b)))
set_option maxRecDepth 100000 in
theorem names_none {T : Tb} (h : namesT T = []) : T = [] := by
  cases T with
  | nil => rfl
  | cons x T =>
    have : x.1 ∈ namesT (x :: T) := namesT_mem.2 ⟨x, List.mem_cons_self, rfl⟩
    rw [h] at this
    cases this
theorem LnC.nil (h : LnC w F G D none M hd) : D.all = [] ∧ ∀ b, D.t b = [] := ⟨h.nl rfl, fun b => names_none (OwnM.nil (h.own b) (h.nm b))⟩
set_option maxRecDepth 100000 in
theorem LnC.look (h : LnC w F G D mb M hd) (b : Bool) {s : ByteArray} (hs : s.size ≤ maxLen) : (Instr.lookup 58 (.map (mapAt mb b)) (.string s) false).run Tryz.prog w = .ok (mkL (hd (some (b, s)))) w := by
  obtain ⟨v, ps, hrun, hv'⟩ := (h.own b).lookup Tryz.underlying58 (zeroRi w) slR_none hs
  rw [hrun]
  congr 1
  by_cases hk : s ∈ namesT (D.t b)
  · obtain ⟨x, e⟩ := h.co.has hk
    rw [(h.nm b).at_ s hk] at hv'
    have := slR_held _ _ _ hv'
    rw [e] at this ⊢
    exact this
  · rw [atKey_of_not_has ((h.nm b).no hk)] at hv'
    rw [h.co.no hk]
    exact slR_nil hv'
set_option maxRecDepth 100000 in
theorem LnC.empty (w : World) : LnC w (fun _ => False) (fun _ => False) ⟨[], fun _ => []⟩ none (fun _ => .map []) (fun _ => none) :=
  ⟨fun _ => rfl, fun _ => NOf.empty _, ⟨fun k => .inr ⟨rfl, by match k with | none => rfl | some (b, s) => rfl⟩, fun k k' h h' _ e => by cases e⟩, fun f e => (by cases e), fun _ => rfl, fun f e => (by cases e), fun k hk => hk, fun k hk => hk.elim⟩

/-! ### Stores -/
theorem LnC.far {v t y : Value} (hx : XBx w g r m lp v t y) {F' G' : Nat → Prop} {x : Hr} {l : List Int} (q : LiR w F' G' x l) : x.b ≠ g := q.not hx fun cs T fr e => by injection e with _ e _; subst e; decide
set_option maxRecDepth 100000 in
theorem LnC.with_box (h : LnC w F G D mb M hd) {v t y : Value} (hx : XBx w g r m lp v t y) {k : Ky} {p : Int} {h' : Hr} (wo : WOut w w2 F G (hd k) (lstD D k) p h') : XBx w2 g r m lp v t y :=
  hx.at_ (wo.other hx.lt fun _ e => (LnC.far hx (h.co.lir e)).symm)
set_option maxRecDepth 100000 in
theorem LnC.with_own (h : LnC w F G D (some f) M hd) {k : Ky} {p : Int} {h' : Hr} (wo : WOut w w2 F G (hd k) (lstD D k) p h') (b : Bool) : w2.ownsMap Tryz.prog 9 slR (f b) (Maps.size (M b)) (M b) := by
  obtain ⟨es, clock, hb, ft, hn, hD⟩ := (h.own b : w.ownsMap Tryz.prog 9 slR (f b) (Maps.size (M b)) (M b))
  exact ⟨es, clock, (wo.other (h.lt _ (h.fG _ (h.fm f rfl b))) fun _ e => ((h.co.lir e).not hb fun cs T fr e => by cases e).symm).trans hb, ft, hn, hD⟩
/-- What a step comes to, and what it leaves of others. -/
structure GrewC (w w' : World) (F G : Nat → Prop) (g : Nat) (r m lp : Value) (hd : HdT) (D1 : Dt) (mb1 : Option (Bool → Nat)) (M1 : Bool → DataW Hr) (hd1 : HdT) : Prop where
  bx : LBx w' g r m lp mb1 hd1
  ln : LnC w' (up F w w') (up G w w') D1 mb1 M1 hd1
  ch : Ch (fun k => F k ∨ k = g) w w'
  kin : KinC w w' F hd hd1
set_option maxRecDepth 100000 in
theorem GrewC.below (hb : Below w.heap.size w w1) (hx : LBx w g r m lp mb hd) (h : LnC w F G D mb M hd) : GrewC w w1 F G g r m lp hd D mb M hd :=
  ⟨XBx.below hx hb, (h.below hb).wide (fun _ h => .inl h) (fun _ h => .inl h) (fun k hk => by rcases hk with hk | hk; exact .inl (h.fG k hk); exact .inr hk) (fun k hk => up_lt h.lt hb.size hk), Ch.of_below hb, KinC.same hb _ _⟩
theorem GrewC.refl (hx : LBx w g r m lp mb hd) (h : LnC w F G D mb M hd) : GrewC w w F G g r m lp hd D mb M hd := GrewC.below (Below.refl _ _) hx h
set_option maxRecDepth 100000 in
theorem up_or {k : Nat} (h : up F w w' k ∨ k = g) : up (fun k => F k ∨ k = g) w w' k := by
  rcases h with (h | h) | h
  · exact .inl (.inl h)
  · exact .inr h
  · exact .inl (.inr h)
set_option maxRecDepth 100000 in
theorem GrewC.trans {D1 D2 : Dt} {mb1 mb2 : Option (Bool → Nat)} {M1 M2 : Bool → DataW Hr} {hd1 hd2 : HdT} (h1 : GrewC w w1 F G g r m lp hd D1 mb1 M1 hd1) (h2 : GrewC w1 w2 (up F w w1) (up G w w1) g r m lp hd1 D2 mb2 M2 hd2) : GrewC w w2 F G g r m lp hd D2 mb2 M2 hd2 := by
  have s1 := h1.ch.size
  have s2 := h2.ch.size
  refine ⟨h2.bx, h2.ln.wide (fun k hk => up_up s1 s2 hk) (fun k hk => up_up s1 s2 hk) (fun k hk => ?_) (fun k hk => ?_), h1.ch.trans (h2.ch.wide fun k hk => up_or hk), h1.kin.trans h2.kin s1⟩
  · rcases hk with hk | hk
    · rcases h1.ln.fG k (.inl hk) with h3 | h3
      · exact .inl h3
      · exact .inr ⟨h3.1, by omega⟩
    · exact .inr hk
  · rcases hk with hk | hk
    · exact h2.ln.lt k (.inl (.inl hk))
    · exact hk.2
set_option maxRecDepth 100000 in
theorem GrewC.from (hb : Below w.heap.size w w1) (h : LnC w F G D mb M hd) {D1 : Dt} {mb1 : Option (Bool → Nat)} {M1 : Bool → DataW Hr} {hd1 : HdT} (gr : GrewC w1 w2 F G g r m lp hd D1 mb1 M1 hd1) : GrewC w w2 F G g r m lp hd D1 mb1 M1 hd1 := by
  have s1 := hb.size
  have s2 := gr.ch.size
  have hup : ∀ (H : Nat → Prop) k, up H w1 w2 k → up H w w2 k := fun H k hk => by
    rcases hk with hk | hk
    · exact .inl hk
    · exact .inr ⟨by omega, hk.2⟩
  exact ⟨gr.bx, gr.ln.wide (hup F) (hup G) (fun k hk => by rcases hk with hk | hk; exact .inl (h.fG k hk); exact .inr hk) (fun k hk => up_lt h.lt (by omega) hk), (Ch.of_below hb).trans (gr.ch.wide fun k hk => .inl hk), (KinC.same hb F hd).trans (gr.kin.wide fun k hk => .inl hk) s1⟩
set_option maxRecDepth 100000 in
theorem LnC.put_map (h : LnC w F G D (some f) M hd) (hx : LBx w g r m lp (some f) hd) (b : Bool) {s : ByteArray} {p : Int} {h' : Hr} (wo : WOut w w2 F G (hd (some (b, s))) (lstD D (some (b, s))) p h') (hg : w2.grownBy w3 (some (f b))) {n : Nat} (ho : w3.ownsMap Tryz.prog 9 slR (f b) n ((M b).put (keyN s) (.held h'))) :
    GrewC w w3 F G g r m lp hd ⟨D.all, setB D.t b (addK (D.t b) s p)⟩ (some f) (setB M b ((M b).put (keyN s) (.held h'))) (setK hd (some (b, s)) (some h')) := by
  have e1 := h.with_box hx wo
  obtain ⟨c2, k2, ch2⟩ := h.co.with wo
  have z2 := ch2.size
  have z3 := hg.size
  have own2 := h.with_own wo
  obtain ⟨es, clock, hbm2, _⟩ := own2 b
  have hno : ∀ (cs : Array Value) (T : TypeId) (fr : Nat × Nat), (Obj.map es clock) = .cells cs T fr → T ≠ 3 := fun cs T fr e => by cases e
  have ch3 : Ch F w w3 := ch2.then_grown hg fun r e => by injection e with e; subst e; exact .inl (.inl (h.fm f rfl b))
  refine ⟨?_, ⟨fun c => ?_, fun c => ?_, ?_, h.ne, fun e => (by cases e), fun f' e c => .inl (h.fm f' e c), fun k hk => ?_, fun k hk => up_lt h.lt ch3.size hk⟩, ch3.wide fun k hk => .inl hk, k2.trans (KinC.other hg hbm2 hno _ _) z2⟩
  · show XBx w3 g r m lp (mkL (setK hd (some (b, s)) (some h') none)) _ _
    rw [setK_ne _ _ (by simp)]
    exact e1.at_ (hg.block g e1.lt (fun e => by
      injection e with e
      rw [← e, show w2.heap[g]? = _ from e1] at hbm2
      injection hbm2 with hbm2
      cases hbm2))
  · by_cases ec : c = b
    · subst ec
      rw [setB_at]
      exact tightN ho
    · rw [setB_ne _ _ ec]
      obtain ⟨es2, clock2, hb2, ft, hn, hD⟩ := own2 c
      exact ⟨es2, clock2, (hg.block (f c) (Array.getElem?_eq_some_iff.1 hb2).1 (fun e => h.ne f rfl b c ec (by injection e))).trans hb2, ft, hn, hD⟩
  · by_cases ec : c = b
    · subst ec
      simp only [setB_at]
      have := (h.nm c).put (s := s) (h' := fun t => hv (setK hd (some (c, s)) (some h') (some (c, t)))) (h.own c).isMap (ns' := namesT (addK (D.t c) s p)) (fun t => names_addK t) (fun t ht => by rw [setK_ne _ _ (by simp [ht])])
      simp only [setK_at, hv] at this
      exact this
    · simp only [setB_ne _ _ ec]
      exact (h.nm c).same (fun _ => Iff.rfl) fun t _ => by rw [setK_ne _ _ (by simp [ec])]
  · rw [lstD_put]
    exact (c2.other hg hbm2 hno).wide (fun k hk => up_mono z3 hk) (fun k hk => up_mono z3 hk)
  · rcases hk with hk | hk
    · exact .inl (h.fG k hk)
    · exact .inr hk
set_option maxRecDepth 100000 in
theorem LnC.put_all (h : LnC w F G D (some f) M hd) (hx : LBx w g r m lp (some f) hd) {p : Int} {h' : Hr} (wo : WOut w w2 F G (hd none) (lstD D none) p h') :
    GrewC w (w2.setCell ⟨g, 3, none⟩ (valL h')) F G g r m lp hd ⟨withF D.all p, D.t⟩ (some f) M (setK hd none (some h')) := by
  have e1 := h.with_box hx wo
  obtain ⟨c2, k2, ch2⟩ := h.co.with wo
  have hg := put_grown w2 g 3 (valL h')
  have z2 := ch2.size
  have z3 := hg.size
  have own2 := h.with_own wo
  have hno : ∀ (cs : Array Value) (T : TypeId) (fr : Nat × Nat), (Obj.cells #[r, m, lp, mkL (hd none), .map (mapAt (some f) false), .map (mapAt (some f) true)] 62 (0, 0)) = .cells cs T fr → T ≠ 3 := fun cs T fr e => by injection e with _ e _; subst e; decide
  have ch3 : Ch (fun k => F k ∨ k = g) w (w2.setCell ⟨g, 3, none⟩ (valL h')) := (ch2.wide fun k hk => .inl hk).then_grown hg fun r e => by injection e with e; subst e; exact .inl (.inl (.inr rfl))
  refine ⟨?_, ⟨fun c => ?_, fun c => ?_, ?_, h.ne, fun e => (by cases e), fun f' e c => .inl (h.fm f' e c), fun k hk => ?_, fun k hk => up_lt h.lt ch3.size hk⟩, ch3, k2.trans (KinC.other hg e1 hno _ _) z2⟩
  · show XBx _ g r m lp (mkL (setK hd none (some h') none)) _ _
    rw [setK_at]
    exact e1.set3 _
  · obtain ⟨es2, clock2, hb2, ft, hn, hD⟩ := own2 c
    exact ⟨es2, clock2, (hg.block (f c) (Array.getElem?_eq_some_iff.1 hb2).1 (fun e => by
      injection e with e
      rw [e, show w2.heap[g]? = _ from e1] at hb2
      injection hb2 with hb2
      cases hb2)).trans hb2, ft, hn, hD⟩
  · exact (h.nm c).same (fun _ => Iff.rfl) fun t _ => by rw [setK_ne _ _ (by simp)]
  · rw [lstD_all]
    exact (c2.other hg e1 hno).wide (fun k hk => up_mono z3 hk) (fun k hk => up_mono z3 hk)
  · rcases hk with hk | hk
    · exact .inl (h.fG k hk)
    · exact .inr hk
set_option maxRecDepth 100000 in
/-- A store into the block of an index. -/
theorem LnC.box {v t y : Value} (hx : XBx w g r m lp v t y) (h : LnC w F G D mb M hd) (i : Nat) (x : Value) : LnC (w.setCell ⟨g, i, none⟩ x) F G D mb M hd := by
  refine ⟨fun b => (h.own b).kept fun k e => put_other w g i x fun e2 => ?_, h.nm, h.co.other (put_grown w g i x) hx fun cs T fr e => by injection e with _ e _; subst e; decide, h.ne, h.nl, h.fm, h.fG, fun k hg => by simpa [World.setCell] using h.lt k hg⟩
  obtain ⟨es, clock, hb⟩ := (h.own b).block e
  rw [e2, show w.heap[g]? = _ from hx] at hb
  injection hb with hb
  cases hb
set_option maxRecDepth 100000 in
/-- Others that share lists, behind a step. -/
theorem LnC.other {hd1 : HdT} (k : KinC w w' F hd hd1) (ch : Ch (fun k => F k ∨ k = g) w w') {v t y : Value} (hx : XBx w g r m lp v t y) {D' : Dt} {mb' : Option (Bool → Nat)} {M' : Bool → DataW Hr} {hd' : HdT} (q : LnC w F' G' D' mb' M' hd') (hF : ∀ k, F k → ¬ F' k) (a1 : Apt hd hd') (a2 : Apt hd' hd) :
    LnC w' F' G' D' mb' M' hd' ∧ Apt hd1 hd' ∧ Apt hd' hd1 := by
  obtain ⟨c, b1, b2⟩ := k F' G' (lstD D') hd' q.co (fun k hk => q.lt k (q.fG k hk)) hF a1 a2
  refine ⟨⟨fun b => (q.own b).kept fun j e => ch.block j (q.lt j (q.fG _ (q.mf e))) fun hj => ?_, q.nm, c, q.ne, q.nl, q.fm, q.fG, fun k hk => Nat.lt_of_lt_of_le (q.lt k hk) ch.size⟩, b1, b2⟩
  rcases hj with hj | hj
  · exact hF j hj (q.mf e)
  · subst hj
    obtain ⟨es, clock, hb⟩ := (q.own b).block e
    rw [show w.heap[j]? = _ from hx] at hb
    injection hb with hb
    cases hb
end

end Go.Proofs.YtiplfhmimpkplaaGreat.PnWalk

/-
  Contracts of the document's answers of layer 13: in, Both, Either.
-/
namespace Go.Proofs.YtiplfhmimpkplaaGreat.PoWalk
open Go.RowKit Go.Proofs.YtiplfhmimpkplaaGreat.MemRow Go.Proofs.YtiplfhmimpkplaaGreat.Ev Go.Proofs.YtiplfhmimpkplaaGreat.NameMath Go.Proofs.YtiplfhmimpkplaaGreat.NameWalk Go.Proofs.YtiplfhmimpkplaaGreat.EvWalk Go.Proofs.YtiplfhmimpkplaaGreat.NumMem Go.Proofs.YtiplfhmimpkplaaGreat.SmWalk

theorem both_step {a b : List Int} {j : Nat} (h : j < a.length) : bothF (a.take (j + 1)) b = bothF (a.take j) b ++ (if a.getD j 0 ∈ b then [a.getD j 0] else []) := by
  have hst : a.take (j + 1) = a.take j ++ [a.getD j 0] := by
    rw [List.take_add_one]
    simp [List.getD, List.getElem?_eq_getElem h]
  unfold bothF
  rw [hst, List.filter_append]
  congr 1
  by_cases hm : a.getD j 0 ∈ b
  · rw [if_pos hm, List.filter_cons_of_pos (by simpa using hm)]; rfl
  · rw [if_neg hm, List.filter_cons_of_neg (by simpa using hm)]; rfl
end Go.Proofs.YtiplfhmimpkplaaGreat.PoWalk

/-
  Contracts of the document's answers of layer 13: Either.
-/
namespace Go.Proofs.YtiplfhmimpkplaaGreat.PoWalk
open Go.RowKit Go.Proofs.YtiplfhmimpkplaaGreat.MemRow Go.Proofs.YtiplfhmimpkplaaGreat.Ev Go.Proofs.YtiplfhmimpkplaaGreat.NameMath Go.Proofs.YtiplfhmimpkplaaGreat.NameWalk Go.Proofs.YtiplfhmimpkplaaGreat.EvWalk Go.Proofs.YtiplfhmimpkplaaGreat.NumMem Go.Proofs.YtiplfhmimpkplaaGreat.SmWalk

theorem bel_dn {B : Nat} {w wr : World} (h : Below B w wr) (q : Nat) : Below B w (wr.drewN q) := ⟨h.os, h.tape, h.output, h.size, h.block⟩
theorem filter_step (a : List Int) (p : Int → Bool) {k : Nat} (h : k < a.length) : (a.take (k + 1)).filter p = (a.take k).filter p ++ (if p (a.getD k 0) = true then [a.getD k 0] else []) := by
  have hst : a.take (k + 1) = a.take k ++ [a.getD k 0] := by
    rw [List.take_add_one]
    simp [List.getD, List.getElem?_eq_getElem h]
  rw [hst, List.filter_append]
  congr 1
  by_cases hm : p (a.getD k 0) = true
  · rw [if_pos hm, List.filter_cons_of_pos hm]; rfl
  · rw [if_neg hm, List.filter_cons_of_neg hm]; rfl
theorem out_len (a b : List Int) : ∀ i, (outF a b i).length ≤ i * (a.length + 1)
  | 0 => by simp [outF]
  | i + 1 => by
    have h1 := out_len a b i
    have h2 : (stepF a b i).length ≤ a.length + 1 := by
      unfold stepF
      rw [List.length_append]
      have := List.length_filter_le (fun x => decide (x < b.getD i 0) && lowF b i x) a
      simp only [List.length_singleton]
      omega
    show (outF a b i ++ stepF a b i).length ≤ _
    rw [List.length_append, Nat.succ_mul]
    omega
/-- What the first rounds, and a part of the next one, have laid down. -/
def midF (a b : List Int) (i k : Nat) : List Int := outF a b i ++ (a.take k).filter fun x => decide (x < b.getD i 0) && lowF b i x
theorem mid_len (a b : List Int) {i k : Nat} (ha : a.length ≤ 200) (hi : i ≤ 200) : (midF a b i k).length ≤ 50000 := by
  unfold midF
  rw [List.length_append]
  have h1 := out_len a b i
  have h2 := List.length_filter_le (fun x => decide (x < b.getD i 0) && lowF b i x) (a.take k)
  have h3 : (a.take k).length ≤ a.length := by rw [List.length_take]; omega
  have h4 : i * (a.length + 1) ≤ 200 * 201 := Nat.mul_le_mul hi (by omega)
  omega
def endF (a b : List Int) (k : Nat) : List Int := outF a b b.length ++ (a.take k).filter fun x => decide (b.length = 0 ∨ b.getD (b.length - 1) 0 < x)
theorem end_len (a b : List Int) {k : Nat} (ha : a.length ≤ 200) (hb : b.length ≤ 200) : (endF a b k).length ≤ 50000 := by
  unfold endF
  rw [List.length_append]
  have h1 := out_len a b b.length
  have h2 := List.length_filter_le (fun x => decide (b.length = 0 ∨ b.getD (b.length - 1) 0 < x)) (a.take k)
  have h3 : (a.take k).length ≤ a.length := by rw [List.length_take]; omega
  have h4 : b.length * (a.length + 1) ≤ 200 * 201 := Nat.mul_le_mul hb (by omega)
  omega
end Go.Proofs.YtiplfhmimpkplaaGreat.PoWalk

/-
  Layer 13: what is asked of the landed posting's Both and Either; the laws' words shown, rising.
-/
namespace Go.Proofs.YtiplfhmimpkplaaGreat.PoWalk
open Go.RowKit Go.Proofs.YtiplfhmimpkplaaGreat.MemRow Go.Proofs.YtiplfhmimpkplaaGreat.Ev Go.Proofs.YtiplfhmimpkplaaGreat.NameMath Go.Proofs.YtiplfhmimpkplaaGreat.NameWalk Go.Proofs.YtiplfhmimpkplaaGreat.EvWalk Go.Proofs.YtiplfhmimpkplaaGreat.NumMem Go.Proofs.YtiplfhmimpkplaaGreat.SmWalk

theorem rdi_below {w w' : World} {A : Option Addr} {n cap : Nat} {l : List Int} (h : RdI w A n cap l) (hb : Below w.heap.size w w') : RdI w' A n cap l := RdC.below h hb
theorem lit_ints (w : World) (g : Nat) (hg : g = w.heap.size) (l : List Int) (n : Nat) (ar : Array Value) (he : ar = (nums l).toArray) (hl : l.length = n) (hn : n ≤ 1000) : RdI (w.alloc (.cells ar 3)) (some ⟨g, 0, none⟩) n n l ∧ Below w.heap.size w (w.alloc (.cells ar 3)) := by
  subst he hg
  exact ⟨RdC.new w 3 (nums l) (by rw [nums_length, hl, Nat.mul_one]) (by unfold maxLen; omega), (Below.refl _ _).alloc (Nat.le_refl _) _⟩
/-- Numbers that rise, of the first sixty. -/
def risS (out : List Int) (x : Int) : List Int := if out.length = 0 ∨ out.getD (out.length - 1) 0 < x then out ++ [x] else out
def risF (l : List Int) : List Int := (l.take 60).foldl risS []
theorem inc_last {l : List Int} (h : Inc l) : ∀ x ∈ l, x ≤ l.getD (l.length - 1) 0 := by
  intro x hx
  obtain ⟨i, hi, rfl⟩ := List.getElem_of_mem hx
  by_cases e : i = l.length - 1
  · subst e
    simp [List.getD, List.getElem?_eq_getElem hi]
  · have := inc_lt h (show i < l.length - 1 by omega) (show l.length - 1 < l.length by omega)
    simp only [List.getD, List.getElem?_eq_getElem hi, Option.getD_some] at this
    simp only [List.getD]
    omega
theorem risS_inc {out : List Int} (h : Inc out) (x : Int) : Inc (risS out x) := by
  unfold risS
  by_cases hc : out.length = 0 ∨ out.getD (out.length - 1) 0 < x
  · rw [if_pos hc]
    refine List.pairwise_append.2 ⟨h, by simp, fun a ha b hb => ?_⟩
    rw [List.mem_singleton] at hb
    rw [hb]
    have := inc_last h a ha
    have : 0 < out.length := List.length_pos_of_mem ha
    rcases hc with hc | hc <;> omega
  · rw [if_neg hc]; exact h
theorem risS_len (out : List Int) (x : Int) : (risS out x).length ≤ out.length + 1 := by unfold risS; split <;> simp
theorem ris_fold (l out : List Int) (h : Inc out) : Inc (l.foldl risS out) ∧ (l.foldl risS out).length ≤ out.length + l.length := by
  induction l generalizing out with
  | nil => exact ⟨h, by simp⟩
  | cons x l ih =>
    obtain ⟨h1, h2⟩ := ih (risS out x) (risS_inc h x)
    have := risS_len out x
    exact ⟨h1, by rw [List.foldl_cons, List.length_cons]; omega⟩
theorem ris_inc (l : List Int) : Inc (risF l) := (ris_fold _ [] Inc.nil).1
theorem ris_len (l : List Int) : (risF l).length ≤ 60 := by
  have := (ris_fold (l.take 60) [] Inc.nil).2
  rw [List.length_take] at this
  simp only [List.length_nil] at this
  unfold risF
  omega
theorem int_take (l : List Int) {j : Nat} (h : j < l.length) : l.take (j + 1) = l.take j ++ [l.getD j 0] := by
  rw [List.take_add_one]
  simp [List.getD, List.getElem?_eq_getElem h]
end Go.Proofs.YtiplfhmimpkplaaGreat.PoWalk

/-
  Contracts of the landed posting: two rows gone through together (merged), both, either, Both, Either.
-/
namespace Go.Proofs.YtiplfhmimpkplaaGreat.PnWalk
open Go.RowKit Go.Proofs.YtiplfhmimpkplaaGreat.MemRow Go.Proofs.YtiplfhmimpkplaaGreat.Ev Go.Proofs.YtiplfhmimpkplaaGreat.NameMath Go.Proofs.YtiplfhmimpkplaaGreat.NameWalk Go.Proofs.YtiplfhmimpkplaaGreat.EvWalk Go.Proofs.YtiplfhmimpkplaaGreat.NumMem Go.Proofs.YtiplfhmimpkplaaGreat.SmWalk Go.Proofs.YtiplfhmimpkplaaGreat.Qu Go.Proofs.YtiplfhmimpkplaaGreat.QuWalk Go.Proofs.YtiplfhmimpkplaaGreat.PoWalk

/-- Which of two numbers stands first. -/
def cmpI (x y : Int) : Int := if x < y then -1 else if y < x then 1 else 0
set_option maxRecDepth 100000 in
theorem compare_any (x y : Int) (w : World) : Calls Tryz.prog 109 #[.int .i64 x, .int .i64 y] w fun e w' => e = .returned (.int .i64 (cmpI x y)) ∧ w' = w := by
  unfold cmpI
  by_cases h1 : x < y
  · rw [if_pos h1]
    go_enter Tryz.func109, Tryz.ntmps109
    go_wp2_with (go_at_call 96; refine (cmpNaN_any _ _).mono ?_; rintro e w' ⟨rfl, rfl⟩)
    go_ret
    exact ⟨rfl, rfl⟩
  · rw [if_neg h1]
    by_cases h2 : y < x
    · rw [if_pos h2]
      go_enter Tryz.func109, Tryz.ntmps109
      go_wp2_with (go_at_call 96; refine (cmpNaN_any _ _).mono ?_; rintro e w' ⟨rfl, rfl⟩)
      go_ret
      exact ⟨rfl, rfl⟩
    · rw [if_neg h2]
      go_enter Tryz.func109, Tryz.ntmps109
      go_wp2_with (go_at_call 96; refine (cmpNaN_any _ _).mono ?_; rintro e w' ⟨rfl, rfl⟩)
      go_ret
      exact ⟨rfl, rfl⟩

/-- Which of two rows has the next number. -/
def ordF (a b : List Int) : Int := if b = [] then -1 else if a = [] then 1 else cmpI (a.getD 0 0) (b.getD 0 0)
set_option maxHeartbeats 2000000 in
set_option maxRecDepth 100000 in
theorem firstOf_any {A B : Option Addr} {n m ca cb : Nat} {a b : List Int} {w : World} (ra : RdI w A n ca a) (rb : RdI w B m cb b) :
    Calls Tryz.prog 104 #[.slice A n ca, .slice B m cb] w fun e w' => e = .returned (.int .i64 (ordF a b)) ∧ ∃ q, w' = w.drewN q := by
  have la := ra.len
  have lb := rb.len
  by_cases h1 : m = 0
  · obtain rfl : b = [] := List.eq_nil_of_length_eq_zero (by omega)
    have i1 : ((m : Int) == 0) = true := by rw [beq_iff_eq]; omega
    unfold ordF
    rw [if_pos rfl]
    subst h1
    clear la lb ra rb
    go_enter Tryz.func104, Tryz.ntmps104
    go_wp2_with fail
    go_ret
    exact ⟨rfl, 0, rfl⟩
  · have i1 : ((m : Int) == 0) = false := by rw [beq_eq_false_iff_ne]; omega
    have hb : ¬ b = [] := fun e => by rw [e] at lb; exact h1 lb.symm
    by_cases h2 : n = 0
    · obtain rfl : a = [] := List.eq_nil_of_length_eq_zero (by omega)
      have i2 : ((n : Int) == 0) = true := by rw [beq_iff_eq]; omega
      unfold ordF
      rw [if_neg hb, if_pos rfl]
      subst h2
      clear la lb ra rb
      go_enter Tryz.func104, Tryz.ntmps104
      go_wp2_with fail
      go_ret
      exact ⟨rfl, 0, rfl⟩
    · have i2 : ((n : Int) == 0) = false := by rw [beq_eq_false_iff_ne]; omega
      have ha : ¬ a = [] := fun e => by rw [e] at la; exact h2 la.symm
      unfold ordF
      rw [if_neg hb, if_neg ha]
      obtain ⟨ba, oa, rfl, _, ka⟩ := ra.at_ (by omega)
      obtain ⟨bb, ob, rfl, _, kb⟩ := rb.at_ (by omega)
      have y1 : w.cell? ⟨ba, oa, none⟩ = some (.int .i64 (a.getD 0 0)) := ka 0 (by omega)
      have y2 : w.cell? ⟨bb, ob, none⟩ = some (.int .i64 (b.getD 0 0)) := kb 0 (by omega)
      have p1 : 0 < n := by omega
      have p2 : 0 < m := by omega
      have n1 : (0 : Int) < n := by omega
      have n2 : (0 : Int) < m := by omega
      clear ka kb la lb ra rb ha hb h1 h2
      generalize a.getD 0 0 = x at *
      generalize b.getD 0 0 = y at *
      go_enter Tryz.func104, Tryz.ntmps104
      go_upto_region 5 with (fail)
      have hcq : ∀ q, Calls Tryz.prog 109 #[.int .i64 x, .int .i64 y] (w.drewN q) fun e w' => e = .returned (.int .i64 (cmpI x y)) ∧ ∃ k, w' = w.drewN k := fun q => by
        refine (compare_any x y _).mono ?_
        rintro e w' ⟨rfl, rfl⟩
        exact ⟨rfl, q, rfl⟩
      go_quiet (first | (go_at_call 109; exact hcq _))
      go_wp2_with fail
      go_ret
      exact ⟨rfl, _, rfl⟩

/-- A function value that tells k of two truths, and does nothing else. -/
def KeepFn (g : Nat) (k : Bool → Bool → Bool) : Prop := Runs g ∧ ∀ x y W, Calls Tryz.prog g #[.bool x, .bool y] W fun e W' => e = .returned (.bool (k x y)) ∧ W' = W
set_option maxRecDepth 100000 in
theorem keepBoth : KeepFn 106 (fun x y => x && y) := by
  refine ⟨enters_of Tryz.func106 (by kernel_rfl) rfl, fun x y W => ?_⟩
  cases x <;> cases y
  all_goals
    go_enter Tryz.func106, Tryz.ntmps106
    go_wp2_with fail
    go_ret
    exact ⟨rfl, rfl⟩
set_option maxRecDepth 100000 in
theorem keepEither : KeepFn 87 (fun x y => x || y) := by
  refine ⟨enters_of Tryz.func87 (by kernel_rfl) rfl, fun x y W => ?_⟩
  cases x <;> cases y
  all_goals
    go_enter Tryz.func87, Tryz.ntmps87
    go_wp2_with fail
    go_ret
    exact ⟨rfl, rfl⟩

set_option maxRecDepth 100000 in
theorem elem_rising : Tryz.prog.elem 57 = 3 := by kernel_rfl
set_option maxRecDepth 100000 in
/-- v[1:] -/
theorem tail_any {A : Option Addr} {n c : Nat} {l : List Int} {w : World} (r : RdI w A n c l) (hn : 0 < n) :
    ∃ A1, (∀ W, (Instr.slice 57 (.slice A n c) (some (.int .i64 1)) none none).run Tryz.prog W = .ok (.slice A1 (n - 1) (c - 1)) W) ∧ RdI w A1 (n - 1) (c - 1) (l.drop 1) := by
  obtain ⟨A1, q, d⟩ := slice_lo (P := Tryz.prog) 57 3 Tryz.underlying57 elem_rising (by kernel_rfl) r (m := 1) (by omega)
  refine ⟨A1, q, ?_⟩
  unfold RdI
  have e : nums (l.drop 1) = (nums l).drop (1 * 1) := by simp [nums]
  rw [e]
  exact d
set_option maxRecDepth 100000 in
theorem ord_cases {a b : List Int} (h : ¬ (a = [] ∧ b = [])) :
    (ordF a b = -1 ∧ 0 < a.length ∧ ∀ k, mgF k a b = (if k true false = true then [a.getD 0 0] else []) ++ mgF k (a.drop 1) b) ∨
    (ordF a b = 1 ∧ 0 < b.length ∧ ∀ k, mgF k a b = (if k false true = true then [b.getD 0 0] else []) ++ mgF k a (b.drop 1)) ∨
    (ordF a b = 0 ∧ 0 < a.length ∧ 0 < b.length ∧ ∀ k, mgF k a b = (if k true true = true then [b.getD 0 0] else []) ++ mgF k (a.drop 1) (b.drop 1)) := by
  have pos : ∀ {l : List Int}, ¬ l = [] → 0 < l.length := fun {l} hl => List.length_pos_iff.2 hl
  unfold ordF
  by_cases hb : b = []
  · have ha : ¬ a = [] := fun e => h ⟨e, hb⟩
    rw [if_pos hb]
    subst hb
    exact .inl ⟨rfl, pos ha, fun k => by simpa using mg_a (k := k) (b := []) (i := 0) (j := 0) (pos ha) (Nat.le_refl _)⟩
  · rw [if_neg hb]
    by_cases ha : a = []
    · rw [if_pos ha]
      subst ha
      exact .inr (.inl ⟨rfl, pos hb, fun k => by simpa using mg_b (k := k) (a := []) (i := 0) (j := 0) (Nat.le_refl _) (pos hb)⟩)
    · rw [if_neg ha]
      unfold cmpI
      by_cases h1 : a.getD 0 0 < b.getD 0 0
      · rw [if_pos h1]
        exact .inl ⟨rfl, pos ha, fun k => by simpa using mg_lt (k := k) (i := 0) (j := 0) (pos ha) (pos hb) h1⟩
      · rw [if_neg h1]
        by_cases h2 : b.getD 0 0 < a.getD 0 0
        · rw [if_pos h2]
          exact .inr (.inl ⟨rfl, pos hb, fun k => by simpa using mg_gt (k := k) (i := 0) (j := 0) (pos ha) (pos hb) h2⟩)
        · rw [if_neg h2]
          exact .inr (.inr ⟨rfl, pos ha, pos hb, fun k => by simpa using mg_eq (k := k) (i := 0) (j := 0) (pos ha) (pos hb) (by omega)⟩)
def lenV : Value → Nat
  | .slice _ n _ => n
  | _ => 0
/-- How far the two rows are gone through: what is left of them, what is out. -/
structure MgAt (w wr : World) (k : Bool → Bool → Bool) (a b : List Int) (av bv ov : Value) (A1 : Option Addr) (n1 c1 : Nat) (a1 : List Int) (B1 : Option Addr) (m1 d1 : Nat) (b1 : List Int) (C : Option Addr) (q c : Nat) (O : List Int) : Prop where
  ea : av = .slice A1 n1 c1
  eb : bv = .slice B1 m1 d1
  eo : ov = .slice C q c
  ra : RdI w A1 n1 c1 a1
  rb : RdI w B1 m1 d1 b1
  sz : n1 + m1 + q ≤ 2000
  ow : OwnC 1 wr w.heap.size 3 C q c (nums O)
  be : Below w.heap.size w wr
  eq : O ++ mgF k a1 b1 = mgF k a b
set_option maxHeartbeats 4000000 in
set_option maxRecDepth 100000 in
theorem merged_any {A B : Option Addr} {n m ca cb : Nat} {a b : List Int} {w : World} (ra : RdI w A n ca a) (rb : RdI w B m cb b) (hn : n ≤ 1000) (hm : m ≤ 1000) {g : Nat} {k : Bool → Bool → Bool} (kp : KeepFn g k) :
    Calls Tryz.prog 86 #[.slice A n ca, .slice B m cb, .func (.func g) #[] #[]] w fun e w' => ∃ C q c, e = .returned (.slice C q c) ∧ OwnC 1 w' w.heap.size 3 C q c (nums (mgF k a b)) ∧ Below w.heap.size w w' := by
  obtain ⟨eg, kk⟩ := kp
  unfold Runs at eg
  have KK := Go.Lib.hid kk
  have H0 := Go.Lib.hid (show MgAt w w k a b (.slice A n ca) (.slice B m cb) (.slice none 0 0) A n ca a B m cb b none 0 0 [] from ⟨rfl, rfl, rfl, ra, rb, by omega, OwnC.nil _ _, Below.refl _ _, rfl⟩)
  clear ra rb kk hn hm
  go_enter Tryz.func86, Tryz.ntmps86
  go_wp2_with fail
  go_loopw [0, 1, 7] (fun av bv ov wr => ∃ A1 n1 c1 a1 B1 m1 d1 b1 C q c O, Hid (MgAt w wr k a b av bv ov A1 n1 c1 a1 B1 m1 d1 b1 C q c O)) (fun av bv _ _ => lenV av + lenV bv)
  case atStart => exact ⟨_, _, _, _, _, _, _, _, _, _, _, _, H0⟩
  case round =>
    obtain ⟨A1, n1, c1, a1, B1, m1, d1, b1, C, q, c, O, HA⟩ := hrel
    obtain ⟨rfl, rfl, rfl, ra, rb, hsz, ho, hB, he⟩ := HA.out
    clear HA H0
    have la := ra.len
    have lb := rb.len
    have lo := OwnC.len ho
    rw [nums_length, Nat.mul_one] at lo
    have HE := Go.Lib.hid he
    clear he
    go_upto_region 2 with (fail)
    go_cut [19] (fun v wx => v = .bool (decide (0 < n1 ∨ 0 < m1)) ∧ wr = wx)
    case first =>
      clear ra rb ho hB HE lo la lb
      by_cases h1 : 0 < n1
      · have i1 : (0 : Int) < n1 := by omega
        go_wp2_with fail
        go_meet
        exact ⟨by simp [h1], rfl⟩
      · have i1 : ¬ (0 : Int) < n1 := by omega
        by_cases h2 : 0 < m1
        · have i2 : (0 : Int) < m1 := by omega
          go_wp2_with fail
          go_meet
          exact ⟨by simp [h1, h2], rfl⟩
        · have i2 : ¬ (0 : Int) < m1 := by omega
          go_wp2_with fail
          go_meet
          exact ⟨by simp [h1, h2], rfl⟩
    obtain ⟨rfl, rfl⟩ := hcut
    by_cases hc : 0 < n1 ∨ 0 < m1
    · rw [show decide (0 < n1 ∨ 0 < m1) = true from decide_eq_true hc]
      have ra1 : RdI wr A1 n1 c1 a1 := RdC.below ra hB
      have rb1 : RdI wr B1 m1 d1 b1 := RdC.below rb hB
      have hcs := ord_cases (a := a1) (b := b1) (fun ⟨e1, e2⟩ => by rw [e1] at la; rw [e2] at lb; simp only [List.length_nil] at la lb; omega)
      have HC := Go.Lib.hid hcs
      clear hcs hc
      go_wp2_with fail
      refine (firstOf_any ra1 rb1).mono ?_
      rintro e w3 ⟨rfl, q3, rfl⟩
      have hB3 := bel_dn hB q3
      have o3 := ho.below (w' := wr.drewN q3) (bel_dn (Below.refl _ _) q3)
      clear ra1 rb1 ho hB
      generalize wr.drewN q3 = w3 at *
      rcases HC.out with ⟨e, hp, hk⟩ | ⟨e, hp, hk⟩ | ⟨e, hp, hp2, hk⟩
      · rw [e]
        have hk1 := hk k
        clear hk HC e
        obtain ⟨A2, q2, ra2⟩ := tail_any ra (by omega)
        obtain ⟨ba, oa, rfl, _, ka⟩ := ra.at_ (by omega)
        have y0 : w.cell? ⟨ba, oa, none⟩ = some (.int .i64 (a1.getD 0 0)) := ka 0 (by omega)
        have y1 := bcell hB3 y0
        have i1 : (0 : Int) < n1 := by omega
        have p1 : 0 < n1 := by omega
        clear ka ra la hp y0
        rw [hk1] at HE
        clear hk1
        generalize a1.getD 0 0 = x at *
        generalize a1.drop 1 = a2 at *
        go_upto_region 7 with (fail)
        go_quiet (fail)
        have hB4 := bel_dn hB3 nq
        have o4 := o3.below (w' := w3.drewN nq) (bel_dn (Below.refl _ _) nq)
        clear y1 q2 hB3 o3
        generalize w3.drewN nq = w4 at *
        have ck := Go.Lib.hid (KK.out true false w4)
        cases hk : k true false with
        | true =>
          rw [hk, if_pos rfl, ← List.append_assoc] at HE
          rw [hk] at ck
          have al := (Below.refl w4.heap.size w4).alloc (Nat.le_refl _) (.cells #[.int .i64 x] 3)
          have d1' : RdC 1 (w4.alloc (.cells #[.int .i64 x] 3)) (some ⟨w4.heap.size, 0, none⟩) 1 1 (nums [x]) := RdC.new w4 3 (nums [x]) rfl (by decide)
          have o5 := o4.below al
          clear hk
          go_wp2_with (first | (refine (ck.out).mono ?_; rintro e w5 ⟨rfl, rfl⟩) | (at_builtin; refine wpList_append_cells rfl (.tmp 43) (.tmp 45) 57 rfl 3 (.int .i64 0) 8 Tryz.underlying57 int_info rfl (by decide) rfl rfl o5 d1' (nums_one _) (by unfold maxLen; omega) (by omega) (Nat.le_trans hB4.size al.size) ?_; intro A8 c8 w8 o8 g8 _; have b8 := below_grown_own o5 (hB4.trans (al.mono hB4.size)) g8 (Nat.le_trans hB4.size al.size)))
          go_roundw
          case rel =>
            rw [← nums_append] at o8
            exact ⟨A2, n1 - 1, c1 - 1, a2, B1, m1, d1, b1, A8, q + 1, c8, _, Go.Lib.hid ⟨rfl, rfl, rfl, ra2, rb, by omega, o8, b8, HE.out⟩⟩
          case measure => simp only [lenV]; omega
        | false =>
          rw [hk] at HE ck
          rw [if_neg (by decide), List.nil_append] at HE
          clear hk
          go_wp2_with (refine (ck.out).mono ?_; rintro e w5 ⟨rfl, rfl⟩)
          go_roundw
          case rel => exact ⟨A2, n1 - 1, c1 - 1, a2, B1, m1, d1, b1, C, q, c, _, Go.Lib.hid ⟨rfl, rfl, rfl, ra2, rb, by omega, o4, hB4, HE.out⟩⟩
          case measure => simp only [lenV]; omega
      · rw [e]
        have hk1 := hk k
        clear hk HC e
        obtain ⟨B2, q4, rb2⟩ := tail_any rb (by omega)
        obtain ⟨bb, ob, rfl, _, kb⟩ := rb.at_ (by omega)
        have z0 : w.cell? ⟨bb, ob, none⟩ = some (.int .i64 (b1.getD 0 0)) := kb 0 (by omega)
        have z1 := bcell hB3 z0
        have i2 : (0 : Int) < m1 := by omega
        have p2 : 0 < m1 := by omega
        clear kb rb lb hp z0
        rw [hk1] at HE
        clear hk1
        generalize b1.getD 0 0 = y at *
        generalize b1.drop 1 = b2 at *
        go_upto_region 9 with (fail)
        go_quiet (fail)
        have hB4 := bel_dn hB3 nq
        have o4 := o3.below (w' := w3.drewN nq) (bel_dn (Below.refl _ _) nq)
        clear z1 q4 hB3 o3
        generalize w3.drewN nq = w4 at *
        have ck := Go.Lib.hid (KK.out false true w4)
        cases hk : k false true with
        | true =>
          rw [hk, if_pos rfl, ← List.append_assoc] at HE
          rw [hk] at ck
          have al := (Below.refl w4.heap.size w4).alloc (Nat.le_refl _) (.cells #[.int .i64 y] 3)
          have d1' : RdC 1 (w4.alloc (.cells #[.int .i64 y] 3)) (some ⟨w4.heap.size, 0, none⟩) 1 1 (nums [y]) := RdC.new w4 3 (nums [y]) rfl (by decide)
          have o5 := o4.below al
          clear hk
          go_wp2_with (first | (refine (ck.out).mono ?_; rintro e w5 ⟨rfl, rfl⟩) | (at_builtin; refine wpList_append_cells rfl (.tmp 43) (.tmp 45) 57 rfl 3 (.int .i64 0) 8 Tryz.underlying57 int_info rfl (by decide) rfl rfl o5 d1' (nums_one _) (by unfold maxLen; omega) (by omega) (Nat.le_trans hB4.size al.size) ?_; intro A8 c8 w8 o8 g8 _; have b8 := below_grown_own o5 (hB4.trans (al.mono hB4.size)) g8 (Nat.le_trans hB4.size al.size)))
          go_roundw
          case rel =>
            rw [← nums_append] at o8
            exact ⟨A1, n1, c1, a1, B2, m1 - 1, d1 - 1, b2, A8, q + 1, c8, _, Go.Lib.hid ⟨rfl, rfl, rfl, ra, rb2, by omega, o8, b8, HE.out⟩⟩
          case measure => simp only [lenV]; omega
        | false =>
          rw [hk] at HE ck
          rw [if_neg (by decide), List.nil_append] at HE
          clear hk
          go_wp2_with (refine (ck.out).mono ?_; rintro e w5 ⟨rfl, rfl⟩)
          go_roundw
          case rel => exact ⟨A1, n1, c1, a1, B2, m1 - 1, d1 - 1, b2, C, q, c, _, Go.Lib.hid ⟨rfl, rfl, rfl, ra, rb2, by omega, o4, hB4, HE.out⟩⟩
          case measure => simp only [lenV]; omega
      · rw [e]
        have hk1 := hk k
        clear hk HC e
        obtain ⟨A2, q2, ra2⟩ := tail_any ra (by omega)
        obtain ⟨ba, oa, rfl, _, ka⟩ := ra.at_ (by omega)
        have y0 : w.cell? ⟨ba, oa, none⟩ = some (.int .i64 (a1.getD 0 0)) := ka 0 (by omega)
        have y1 := bcell hB3 y0
        have i1 : (0 : Int) < n1 := by omega
        obtain ⟨B2, q4, rb2⟩ := tail_any rb (by omega)
        obtain ⟨bb, ob, rfl, _, kb⟩ := rb.at_ (by omega)
        have z0 : w.cell? ⟨bb, ob, none⟩ = some (.int .i64 (b1.getD 0 0)) := kb 0 (by omega)
        have z1 := bcell hB3 z0
        have i2 : (0 : Int) < m1 := by omega
        have p1 : 0 < n1 := by omega
        have p2 : 0 < m1 := by omega
        clear ka ra la kb rb lb hp hp2 y0
        rw [hk1] at HE
        clear hk1
        generalize a1.getD 0 0 = x at *
        generalize a1.drop 1 = a2 at *
        generalize b1.getD 0 0 = y at *
        generalize b1.drop 1 = b2 at *
        clear z1
        go_upto_region 7 with (fail)
        go_quiet (fail)
        have hB5 := bel_dn hB3 nq
        have o5' := o3.below (w' := w3.drewN nq) (bel_dn (Below.refl _ _) nq)
        have z1 := bcell hB5 z0
        clear y1 q2 hB3 o3 z0
        generalize w3.drewN nq = w5' at *
        go_upto_region 9 with (fail)
        go_quiet (fail)
        have hB4 := bel_dn hB5 nq
        have o4 := o5'.below (w' := w5'.drewN nq) (bel_dn (Below.refl _ _) nq)
        clear z1 q4 hB5 o5'
        generalize w5'.drewN nq = w4 at *
        have ck := Go.Lib.hid (KK.out true true w4)
        cases hk : k true true with
        | true =>
          rw [hk, if_pos rfl, ← List.append_assoc] at HE
          rw [hk] at ck
          have al := (Below.refl w4.heap.size w4).alloc (Nat.le_refl _) (.cells #[.int .i64 y] 3)
          have d1' : RdC 1 (w4.alloc (.cells #[.int .i64 y] 3)) (some ⟨w4.heap.size, 0, none⟩) 1 1 (nums [y]) := RdC.new w4 3 (nums [y]) rfl (by decide)
          have o5 := o4.below al
          clear hk
          go_wp2_with (first | (refine (ck.out).mono ?_; rintro e w5 ⟨rfl, rfl⟩) | (at_builtin; refine wpList_append_cells rfl (.tmp 43) (.tmp 45) 57 rfl 3 (.int .i64 0) 8 Tryz.underlying57 int_info rfl (by decide) rfl rfl o5 d1' (nums_one _) (by unfold maxLen; omega) (by omega) (Nat.le_trans hB4.size al.size) ?_; intro A8 c8 w8 o8 g8 _; have b8 := below_grown_own o5 (hB4.trans (al.mono hB4.size)) g8 (Nat.le_trans hB4.size al.size)))
          go_roundw
          case rel =>
            rw [← nums_append] at o8
            exact ⟨A2, n1 - 1, c1 - 1, a2, B2, m1 - 1, d1 - 1, b2, A8, q + 1, c8, _, Go.Lib.hid ⟨rfl, rfl, rfl, ra2, rb2, by omega, o8, b8, HE.out⟩⟩
          case measure => simp only [lenV]; omega
        | false =>
          rw [hk] at HE ck
          rw [if_neg (by decide), List.nil_append] at HE
          clear hk
          go_wp2_with (refine (ck.out).mono ?_; rintro e w5 ⟨rfl, rfl⟩)
          go_roundw
          case rel => exact ⟨A2, n1 - 1, c1 - 1, a2, B2, m1 - 1, d1 - 1, b2, C, q, c, _, Go.Lib.hid ⟨rfl, rfl, rfl, ra2, rb2, by omega, o4, hB4, HE.out⟩⟩
          case measure => simp only [lenV]; omega
    · rw [show decide (0 < n1 ∨ 0 < m1) = false from decide_eq_false hc]
      obtain rfl : a1 = [] := List.eq_nil_of_length_eq_zero (by omega)
      obtain rfl : b1 = [] := List.eq_nil_of_length_eq_zero (by omega)
      clear hc ra rb la lb
      go_wp2_with fail
      go_ret
      have he := HE.out
      rw [mgF, List.append_nil] at he
      rw [← he]
      exact ⟨C, _, c, rfl, ho, hB⟩

set_option maxRecDepth 100000 in
theorem both_any {A B : Option Addr} {n m ca cb : Nat} {a b : List Int} {w : World} (ra : RdI w A n ca a) (rb : RdI w B m cb b) (ha : Inc a) (hb : Inc b) (hn : n ≤ 1000) (hm : m ≤ 1000) :
    Calls Tryz.prog 90 #[.slice A n ca, .slice B m cb] w fun e w' => ∃ C q c, e = .returned (.slice C q c) ∧ OwnC 1 w' w.heap.size 3 C q c (nums (bothF a b)) ∧ Below w.heap.size w w' := by
  have c := Go.Lib.hid (merged_any ra rb hn hm keepBoth)
  rw [mg_both ha hb] at c
  clear ra rb ha hb
  go_enter Tryz.func90, Tryz.ntmps90
  go_wp2_with (refine (c.out).mono ?_; rintro e w' ⟨C, q, k, rfl, o, b1⟩)
  go_ret
  exact ⟨C, q, k, rfl, o, b1⟩
set_option maxRecDepth 100000 in
theorem either_any {A B : Option Addr} {n m ca cb : Nat} {a b : List Int} {w : World} (ra : RdI w A n ca a) (rb : RdI w B m cb b) (ha : Inc a) (hb : Inc b) (hn : n ≤ 1000) (hm : m ≤ 1000) :
    Calls Tryz.prog 63 #[.slice A n ca, .slice B m cb] w fun e w' => ∃ C q c, e = .returned (.slice C q c) ∧ OwnC 1 w' w.heap.size 3 C q c (nums (eitherF a b)) ∧ Below w.heap.size w w' := by
  have c := Go.Lib.hid (merged_any ra rb hn hm keepEither)
  rw [mg_either ha hb] at c
  clear ra rb ha hb
  go_enter Tryz.func63, Tryz.ntmps63
  go_wp2_with (refine (c.out).mono ?_; rintro e w' ⟨C, q, k, rfl, o, b1⟩)
  go_ret
  exact ⟨C, q, k, rfl, o, b1⟩
end Go.Proofs.YtiplfhmimpkplaaGreat.PnWalk

/-
  Contracts of the landed posting: with, upTo, shared, New, Tag, Type; Add's closure.
-/
namespace Go.Proofs.YtiplfhmimpkplaaGreat.PnWalk
open Go.RowKit Go.Maps Go.Proofs.YtiplfhmimpkplaaGreat.MemRow Go.Proofs.YtiplfhmimpkplaaGreat.Ev Go.Proofs.YtiplfhmimpkplaaGreat.NameMath Go.Proofs.YtiplfhmimpkplaaGreat.NameWalk Go.Proofs.YtiplfhmimpkplaaGreat.EvWalk Go.Proofs.YtiplfhmimpkplaaGreat.NumMem Go.Proofs.YtiplfhmimpkplaaGreat.SmWalk Go.Proofs.YtiplfhmimpkplaaGreat.NMap Go.Proofs.YtiplfhmimpkplaaGreat.DkWalk Go.Proofs.YtiplfhmimpkplaaGreat.PoWalk

theorem last_getD {l : List Int} (h : 0 < l.length) : l.getLast? = some (l.getD (l.length - 1) 0) := by
  rcases List.eq_nil_or_concat l with rfl | ⟨m, y, rfl⟩
  · simp at h
  · rw [List.concat_eq_append]
    simp [List.getD]
theorem lit_int (w : World) {g : Nat} (hg : g = w.heap.size) (p : Int) : (w.alloc (.cells #[.int .i64 p] 3)).cell? ((⟨g, 0, none⟩ : Addr).add 0) = some (.int .i64 p) := by
  subst hg
  rw [add_plain, cell_of_row _ w.heap.size 0 _ _ _ (heap_alloc_new w (.cells #[.int .i64 p] 3))]
  rfl
section
variable {w : World} {F G : Nat → Prop} {g : Nat} {D : Dt} {mb : Bool → Nat} {M : Bool → DataW Hr} {hd : HdT}
set_option maxHeartbeats 4000000 in
set_option maxRecDepth 100000 in
theorem with_any {old : Option Hr} {l : List Int} (hold : OldL w F G old l) (hlen : l.length ≤ 1000000) (p : Int) :
    Calls Tryz.prog 56 #[mkL old, .int .i64 p] w fun e w' => ∃ h', e = .returned (valL h') ∧ ∃ w1, Below w.heap.size w w1 ∧ WOut w1 w' F G old l p h' := by
  have al : Below w.heap.size w (w.alloc (.cells #[.int .i64 p] 3)) := (Below.refl _ _).alloc (Nat.le_refl _) _
  have hlit := lit_int w rfl p
  have hold1 : OldL (w.alloc (.cells #[.int .i64 p] 3)) F G old l := by
    rcases hold with ⟨y, e, r⟩ | h
    · exact .inl ⟨y, e, r.kept (al.block _ r.blt)⟩
    · exact .inr h
  have AL := Go.Lib.hid al
  clear al
  rcases hold with ⟨⟨hb, hn, hc⟩, rfl, r⟩ | ⟨rfl, rfl⟩
  · have hln : l.length = hn := r.len
    have hpos : 0 < hn := r.pos
    obtain ⟨b, o, e, _, kc⟩ := r.rd.at_ hpos
    injection e with e
    injection e with e1 e2
    subst e1 e2
    have y1 := kc (hn - 1) (show hn - 1 < hn by omega)
    rw [Nat.zero_add] at y1
    have n1 : IntKind.i64.wrap ((hn : Int) - 1) = ((hn - 1 : Nat) : Int) := by rw [IntWalk.i64_in _ (by omega)]; omega
    have i1 : (0 : Int) < hn := by omega
    have hlast := last_getD (l := l) (by omega)
    rw [hln] at hlast
    have j1 : hn - 1 < hn := by omega
    have j2 : ((hn - 1 : Nat) : Int) < hn := by omega
    change Calls Tryz.prog 56 #[.slice (some ⟨hb, 0, none⟩) hn hc, .int .i64 p] w _
    clear kc r
    by_cases hz : l.getD (hn - 1) 0 = p
    · have i2 : ((l.getD (hn - 1) 0) == p) = true := by rw [beq_iff_eq]; exact hz
      rw [hz] at hlast
      have HL := Go.Lib.hid hlast
      clear hold1 hlast hz hlit
      generalize l.getD (hn - 1) 0 = x at *
      generalize hn - 1 = t at *
      go_enter Tryz.func56, Tryz.ntmps56
      go_wp2_with fail
      go_ret
      exact ⟨⟨hb, hn, hc⟩, rfl, w, Below.refl _ _, .inl ⟨rfl, HL.out, rfl⟩⟩
    · have i2 : ((l.getD (hn - 1) 0) == p) = false := by rw [beq_eq_false_iff_ne]; exact hz
      have HL := Go.Lib.hid (show l.getLast? ≠ some p from fun e => by rw [e] at hlast; injection hlast with e2; exact hz e2.symm)
      clear hlast hz
      generalize l.getD (hn - 1) 0 = x at *
      generalize hn - 1 = t at *
      go_enter Tryz.func56, Tryz.ntmps56
      go_wp2_with (at_builtin; refine wpList_app1 (F := F) (G := G) rfl (.tmp 20) (.tmp 22) rfl rfl rfl rfl hold1 (by omega) p hlit ?_; intro h' w2 ap)
      go_ret
      exact ⟨h', rfl, _, AL.out, .inr ⟨HL.out, ap⟩⟩
  · change Calls Tryz.prog 56 #[.slice none 0 0, .int .i64 p] w _
    go_enter Tryz.func56, Tryz.ntmps56
    go_wp2_with (at_builtin; refine wpList_app1 (F := F) (G := G) rfl (.tmp 20) (.tmp 22) rfl rfl rfl rfl hold1 (by simp) p hlit ?_; intro h' w2 ap)
    go_ret
    exact ⟨h', rfl, _, AL.out, .inr ⟨by simp, ap⟩⟩
set_option maxHeartbeats 4000000 in
set_option maxRecDepth 100000 in
/-- Add's closure: the number is laid behind the list of a tag, or of a type. -/
theorem addf_any (h : LnR w F G g D mb M hd) (b : Bool) (hl : (D.t b).length ≤ 1000000) {s : ByteArray} (hs : s.size ≤ maxLen) {p : Int} {pb : Nat} (hp : w.cell? ⟨pb, 0, none⟩ = some (.int .i64 p)) :
    Calls Tryz.prog 55 #[.map (some (mb b)), .string s, .pointer (some ⟨pb, 0, none⟩)] w fun e w' => e = .returned (.tuple #[]) ∧ ∃ M1 hd1, Grew w w' F G g mb hd ⟨D.all, setB D.t b (addK (D.t b) s p)⟩ M1 hd1 := by
  have ql := h.look b hs
  have hlen : (lstD D (some (b, s))).length ≤ 1000000 := Nat.le_trans (allP_len (D.t b) s) hl
  have CW := Go.Lib.hid (with_any (h.co.li (some (b, s))) hlen p)
  have hkey := keyN_of hs
  have hmx : Maps.size (M b) < maxLen := by
    have := h.size b
    have := namesT_len (D.t b)
    unfold maxLen
    omega
  have H := Go.Lib.hid h
  clear h hlen hl
  go_enter Tryz.func55, Tryz.ntmps55
  go_wp2_with (first
    | (refine (CW.out).mono ?_; rintro e w2 ⟨h', rfl, w1, b1, wo⟩; have H1 := Go.Lib.hid (H.out.below b1); have own2 := H1.out.with_own wo b; have WO := Go.Lib.hid wo; clear wo ql)
    | (at_mapUpdate; refine wpList_mapUpdate_own _ rfl _ _ _ 58 rfl 9 57 keyedN Tryz.underlying58 slR (mb b) (Maps.size (M b)) (M b) rfl own2 hmx _ _ _ rfl rfl hkey _ [] (slR_some h') ?_; intro w3 ho3 hg3))
  go_end0
  exact ⟨rfl, _, _, Grew.from b1 H.out (H1.out.put_map b WO.out hg3 ho3)⟩
end

end Go.Proofs.YtiplfhmimpkplaaGreat.PnWalk

/-
  The laws' words of layer 13: few, less.
-/
namespace Go.Proofs.YtiplfhmimpkplaaGreat.PoWalk
open Go.RowKit Go.Proofs.YtiplfhmimpkplaaGreat.MemRow Go.Proofs.YtiplfhmimpkplaaGreat.Ev Go.Proofs.YtiplfhmimpkplaaGreat.NameMath Go.Proofs.YtiplfhmimpkplaaGreat.NameWalk Go.Proofs.YtiplfhmimpkplaaGreat.EvWalk Go.Proofs.YtiplfhmimpkplaaGreat.NumMem Go.Proofs.YtiplfhmimpkplaaGreat.Qu Go.Proofs.YtiplfhmimpkplaaGreat.QuWalk

/-- An event with at most ten tags. -/
def fewT (e : Ev) : Ev := ⟨e.s, e.t, e.tags.take 10, e.fs⟩
end Go.Proofs.YtiplfhmimpkplaaGreat.PoWalk

/-
  Contracts of the document's answers of layer 13: the lists: Tag, Type, Find.
-/
namespace Go.Proofs.YtiplfhmimpkplaaGreat.PoWalk
open Go.Proofs.YtiplfhmimpkplaaGreat.HeldAt Go.RowKit Go.Proofs.YtiplfhmimpkplaaGreat.MemRow Go.Proofs.YtiplfhmimpkplaaGreat.Ev Go.Proofs.YtiplfhmimpkplaaGreat.NameMath Go.Proofs.YtiplfhmimpkplaaGreat.NameWalk Go.Proofs.YtiplfhmimpkplaaGreat.EvWalk Go.Proofs.YtiplfhmimpkplaaGreat.NumMem Go.Proofs.YtiplfhmimpkplaaGreat.SmWalk Go.Proofs.YtiplfhmimpkplaaGreat.Qu Go.Proofs.YtiplfhmimpkplaaGreat.QuWalk Go.Proofs.YtiplfhmimpkplaaGreat.DkWalk

theorem rdc_keep {k : Nat} {w w' : World} {A : Option Addr} {n cap : Nat} {cs : List Value} (h : RdC k w A n cap cs) (hk : ∀ a, A = some a → w'.heap[a.block]? = w.heap[a.block]?) : RdC k w' A n cap cs :=
  h.keep fun b o hA i v hc => by
    have e := hk _ hA
    exact (World.cell?_of_block (w := w) (a := ⟨b, o + i, none⟩) e).trans hc
theorem ls_get (L : Ls) {j : Nat} (h : j < L.length) : (L.map (·.1)).getD j noEv = (L.getD j (noEv, 0)).1 ∧ (L.map (·.2)).getD j 0 = (L.getD j (noEv, 0)).2 := by
  simp [List.getD, List.getElem?_eq_getElem h]
/-- An event of the row. -/
theorem ev_at {W0 w : World} {A : Option Addr} {n c : Nat} {es : List Ev} {cs : List Value} (h : RdC 4 w A n c cs) (he : EvsR W0 es cs) (hl : es.length = n) (hB : Below W0.heap.size W0 w) {j : Nat} (hj : j < n) :
    ∃ b o T nT cT F nF cF, A = some ⟨b, o, none⟩ ∧ w.cell? ⟨b, o + j * 4, none⟩ = some (.string (es.getD j noEv).s) ∧ w.cell? ⟨b, o + j * 4 + 1, none⟩ = some (.string (es.getD j noEv).t) ∧ w.cell? ⟨b, o + j * 4 + 2, none⟩ = some (.slice T nT cT) ∧ w.cell? ⟨b, o + j * 4 + 3, none⟩ = some (.slice F nF cF) ∧ RdS w T nT cT (es.getD j noEv).tags ∧ RdF w F nF cF (es.getD j noEv).fs := by
  obtain ⟨b, o, hA, _, hc⟩ := h.at_ (by decide) (by omega)
  obtain ⟨T, nT, cT, F, nF, cF, q0, q1, q2, q3, p1, p2⟩ := EvsR.at_ es cs he j (by omega)
  exact ⟨b, o, T, nT, cT, F, nF, cF, hA, hc _ _ q0, hc _ _ q1, hc _ _ q2, hc _ _ q3, RdC.below p1 hB, RdC.below p2 hB⟩

end Go.Proofs.YtiplfhmimpkplaaGreat.PoWalk

/-
  Contracts of the document's answers of layer 13: the lists: Type, Find.
-/
namespace Go.Proofs.YtiplfhmimpkplaaGreat.PoWalk
open Go.Proofs.YtiplfhmimpkplaaGreat.HeldAt Go.RowKit Go.Proofs.YtiplfhmimpkplaaGreat.MemRow Go.Proofs.YtiplfhmimpkplaaGreat.Ev Go.Proofs.YtiplfhmimpkplaaGreat.NameMath Go.Proofs.YtiplfhmimpkplaaGreat.NameWalk Go.Proofs.YtiplfhmimpkplaaGreat.EvWalk Go.Proofs.YtiplfhmimpkplaaGreat.NumMem Go.Proofs.YtiplfhmimpkplaaGreat.SmWalk Go.Proofs.YtiplfhmimpkplaaGreat.Qu Go.Proofs.YtiplfhmimpkplaaGreat.QuWalk Go.Proofs.YtiplfhmimpkplaaGreat.DkWalk

theorem find_step (q : List Cl) (u : Int) (L : Ls) {j : Nat} (h : j < L.length) : findP (L.take (j + 1)) q u = findP (L.take j) q u ++ (if matchQ q (L.getD j (noEv, 0)).1 = true ∧ (L.getD j (noEv, 0)).2 ≤ u then [(L.getD j (noEv, 0)).2] else []) := by
  unfold findP upF
  rw [posP_step _ L h, List.filter_append]
  congr 1
  by_cases h1 : matchQ q (L.getD j (noEv, 0)).1 = true
  · rw [if_pos h1]
    by_cases h2 : (L.getD j (noEv, 0)).2 ≤ u
    · rw [if_pos ⟨h1, h2⟩, List.filter_cons_of_pos (by simpa using h2)]; rfl
    · rw [if_neg (fun h => h2 h.2), List.filter_cons_of_neg (by simpa using h2)]; rfl
  · rw [if_neg h1, if_neg (fun h => h1 h.1)]; rfl
theorem own_ne {k : Nat} {w : World} {base : Nat} {t T : TypeId} {A : Option Addr} {n cap g : Nat} {cs : List Value} {x : Array Value} {fr : Nat × Nat} (h : OwnC k w base t A n cap cs) (hg : w.heap[g]? = some (.cells x T fr)) (ht : t ≠ T) : some g ≠ A.map (·.block) := by
  intro e
  cases A with
  | none => cases e
  | some a =>
    injection e with e
    exact own_not h hg ht a rfl e.symm
theorem own_low {k : Nat} {w : World} {b b' : Nat} {t : TypeId} {A : Option Addr} {n cap : Nat} {cs : List Value} (hb : b' ≤ b) (h : OwnC k w b t A n cap cs) : OwnC k w b' t A n cap cs := by
  refine ⟨h.1, ?_⟩
  rcases h.2 with h2 | ⟨g, c, cur, hv, h3, rest⟩
  · exact .inl h2
  · exact .inr ⟨g, c, cur, hv, Nat.le_trans hb h3, rest⟩
end Go.Proofs.YtiplfhmimpkplaaGreat.PoWalk

/-
  Layer 13: what is asked of the landed lists; a query, a row of numbers as things.
-/
namespace Go.Proofs.YtiplfhmimpkplaaGreat.PoWalk
open Go.RowKit Go.Proofs.YtiplfhmimpkplaaGreat.MemRow Go.Proofs.YtiplfhmimpkplaaGreat.Ev Go.Proofs.YtiplfhmimpkplaaGreat.NameMath Go.Proofs.YtiplfhmimpkplaaGreat.NameWalk Go.Proofs.YtiplfhmimpkplaaGreat.EvWalk Go.Proofs.YtiplfhmimpkplaaGreat.NumMem Go.Proofs.YtiplfhmimpkplaaGreat.SmWalk Go.Proofs.YtiplfhmimpkplaaGreat.Qu Go.Proofs.YtiplfhmimpkplaaGreat.QuWalk Go.Proofs.YtiplfhmimpkplaaGreat.DkWalk

/-- A row of numbers that a call gave: the caller's own. -/
def RiT (A : Option Addr) (n c : Nat) (l : List Int) : Thing := fun w G => RdI w A n c l ∧ (∀ a, A = some a → G a.block) ∧ ∀ k, G k → k < w.heap.size
theorem riT_keeps (A : Option Addr) (n c : Nat) (l : List Int) : Keeps (RiT A n c l) :=
  ⟨fun ⟨h, i, hl⟩ hs hk => ⟨rdc_keep h fun a ha => hk _ (i a ha), i, fun k h => Nat.lt_of_lt_of_le (hl k h) hs⟩, fun h => h.2.2⟩
theorem pair_ri {base : Nat} {w : World} {P Q R : Thing} {A : Option Addr} {n c : Nat} {l : List Int} (h : Pair base w P (With Q (With R (RiT A n c l)))) : RdI w A n c l := by
  obtain ⟨_, _, _, ⟨_, _, _, ⟨_, _, _, hr, _⟩, _⟩, _⟩ := h
  exact hr.1
theorem pair_ri1 {base : Nat} {w : World} {P R : Thing} {A : Option Addr} {n c : Nat} {l : List Int} (h : Pair base w P (With R (RiT A n c l))) : RdI w A n c l := by
  obtain ⟨_, _, _, ⟨_, _, _, hr, _⟩, _⟩ := h
  exact hr.1
theorem pair_impL {base : Nat} {w : World} {P P' Q : Thing} (i : Imp P P') (h : Pair base w P Q) : Pair base w P' Q := (pair_imp i h.swap).swap

theorem with_no {w : World} {G : Nat → Prop} {R : Thing} (h : R w G) (k : Keeps R) : With NoT R w G := ⟨fun _ => False, G, fun _ h => h, h, fun _ h => h.elim, fun _ h => h, k.lt h, fun _ h => h.elim⟩
/-- A query's clauses, told by whatever agrees on its blocks. -/
def OqT (W0 : World) (A : Option Addr) (n c : Nat) (q : List Cl) : Thing := fun w G => (∀ w', Below W0.heap.size W0 w' → (∀ k, G k → w'.heap[k]? = w.heap[k]?) → RdQ w' A n c q) ∧ ∀ k, G k → k < w.heap.size
theorem oqT_keeps (W0 : World) (A : Option Addr) (n c : Nat) (q : List Cl) : Keeps (OqT W0 A n c q) :=
  ⟨fun h hs hk => ⟨fun w2 hb h2 => h.1 w2 hb fun k hk2 => (h2 k hk2).trans (hk k hk2), fun k h3 => Nat.lt_of_lt_of_le (h.2 k h3) hs⟩, fun h => h.2⟩
theorem oqT_of {W0 w w' : World} {lo : Nat} {A : Option Addr} {n c : Nat} {q : List Cl} (h : OwnQ W0 w' lo A n c q) (hlo : w.heap.size ≤ lo) : OqT W0 A n c q w' (fun k => w.heap.size ≤ k ∧ k < w'.heap.size) := by
  refine ⟨fun w2 hb h2 => ?_, fun k hk => hk.2⟩
  obtain ⟨cs, o, hl, hc⟩ := h
  refine OwnQ.rd ⟨cs, own_keep o fun a ha => h2 _ ?_, hl, hc⟩ hb
  have := OwnC.lt o a ha
  exact ⟨by omega, this.2⟩
theorem pair_oq {base : Nat} {W0 w : World} {P Q : Thing} {A : Option Addr} {n c : Nat} {q : List Cl} (h : Pair base w P (With Q (OqT W0 A n c q))) (hB : Below W0.heap.size W0 w) : RdQ w A n c q := by
  obtain ⟨_, _, _, ⟨_, _, _, hr, _⟩, _⟩ := h
  exact hr.1 w hB fun _ _ => rfl
/-- A row of numbers of the law's own. -/
def IwT (lo : Nat) (A : Option Addr) (n c : Nat) (l : List Int) : Thing := fun w G => OwnC 1 w lo 3 A n c (nums l) ∧ (∀ a, A = some a → G a.block) ∧ ∀ k, G k → k < w.heap.size
theorem iwT_keeps (lo : Nat) (A : Option Addr) (n c : Nat) (l : List Int) : Keeps (IwT lo A n c l) :=
  ⟨fun ⟨h, i, hl⟩ hs hk => ⟨own_keep h fun a ha => hk _ (i a ha), i, fun k h => Nat.lt_of_lt_of_le (hl k h) hs⟩, fun h => h.2.2⟩
theorem pair_iw {base lo : Nat} {w : World} {P Q : Thing} {A : Option Addr} {n c : Nat} {l : List Int} (h : Pair base w P (With Q (IwT lo A n c l))) : OwnC 1 w lo 3 A n c (nums l) := by
  obtain ⟨_, _, _, ⟨_, _, _, hr, _⟩, _⟩ := h
  exact hr.1
theorem pair_push {base lo : Nat} {w : World} {P Z : Thing} {A : Option Addr} {n c : Nat} {l : List Int} (hp : Pair base w P (With Z (IwT lo A n c l))) (kp : Keeps P) (kz : Keeps Z) (hb : base ≤ w.heap.size) {A' : Option Addr} {n' c' : Nat} {l' : List Int} {w' : World}
    (oo : OwnC 1 w' lo 3 A' n' c' (nums l')) (hg : w.grownBy w' (A.map (·.block))) (hbl : A'.map (·.block) = A.map (·.block) ∨ A'.map (·.block) = some w.heap.size) :
    Pair base w' P (With Z (IwT lo A' n' c' l')) ∧ Below base w w' := by
  obtain ⟨F, G, hpF, ⟨G1, G2, hz, ⟨o, ha, hlt2⟩, i1, i2, hlt, hx⟩, hF, hG, hd⟩ := hp
  have na : ∀ k, (∀ a, A = some a → a.block ≠ k) → some k ≠ A.map (·.block) := fun k hk e => by
    cases A with
    | none => cases e
    | some a => injection e with e; exact hk a rfl e.symm
  obtain ⟨g1, g2, g3, gs, gb⟩ := hg
  have same : ∀ k, k < w.heap.size → (∀ a, A = some a → a.block ≠ k) → w'.heap[k]? = w.heap[k]? := fun k hk hn => gb k hk (na k hn)
  have hA' : ∀ a, A' = some a → (∃ b, A = some b ∧ b.block = a.block) ∨ a.block = w.heap.size := fun a e => by
    rw [e] at hbl
    rcases hbl with q | q
    · cases A with
      | none => cases q
      | some b => injection q with q; exact .inl ⟨b, rfl, q.symm⟩
    · injection q with q; exact .inr q
  have hA2 : ∀ a, A' = some a → a.block < w'.heap.size := fun a e => (OwnC.lt oo a e).2
  refine ⟨⟨F, fun k => G k ∨ k = w.heap.size ∧ k < w'.heap.size, kp.keep hpF gs fun k hf => same k (kp.lt hpF k hf) (fun a e e2 => hd k hf (i2 k (by rw [← e2]; exact ha a e))),
    ⟨G1, fun k => G2 k ∨ ∃ a, A' = some a ∧ a.block = k, kz.keep hz gs fun k hf => same k (kz.lt hz k hf) (fun a e e2 => hx k hf (by rw [← e2]; exact ha a e)), ⟨oo, fun a e => .inr ⟨a, e, rfl⟩, fun k hk => ?_⟩, fun k hk => .inl (i1 k hk), fun k hk => ?_, fun k hk => ?_, fun k h1 h2 => ?_⟩, hF, fun k hk => ?_, fun k hf hk => ?_⟩, ?_⟩
  · rcases hk with hk | ⟨a, e, rfl⟩
    · exact Nat.lt_of_lt_of_le (hlt2 k hk) gs
    · exact hA2 a e
  · rcases hk with hk | ⟨a, e, rfl⟩
    · exact .inl (i2 k hk)
    · rcases hA' a e with ⟨b, hb1, hb2⟩ | q
      · rw [← hb2]; exact .inl (i2 _ (ha b hb1))
      · exact .inr ⟨q, hA2 a e⟩
  · rcases hk with h | ⟨_, h⟩
    · exact Nat.lt_of_lt_of_le (hlt k h) gs
    · exact h
  · rcases h2 with h2 | ⟨a, e, rfl⟩
    · exact hx k h1 h2
    · rcases hA' a e with ⟨b, hb1, hb2⟩ | q
      · exact hx _ h1 (by rw [← hb2]; exact ha b hb1)
      · have := kz.lt hz _ h1; omega
  · rcases hk with hk | ⟨hk, _⟩
    · exact hG k hk
    · omega
  · rcases hk with hk | ⟨hk, _⟩
    · exact hd k hf hk
    · have := kp.lt hpF k hf; omega
  · exact (Below.refl base w).grown ⟨g1, g2, g3, gs, gb⟩ hb fun k e => by
      cases A with
      | none => cases e
      | some a =>
        injection e with e
        rw [← e]
        exact hG _ (i2 _ (ha a rfl))

/-- Events, each at the next of the positions 1, 4, 7 .. -/
def lsM (es : List Ev) : Ls := es.mapIdx fun i e => (fewT e, 3 * (i : Int) + 1)
theorem lsM_snoc (es : List Ev) (e : Ev) : lsM (es ++ [e]) = lsM es ++ [(fewT e, 3 * (es.length : Int) + 1)] := by simp [lsM, List.mapIdx_append]
theorem lsM_len (es : List Ev) : (lsM es).length = es.length := by simp [lsM]
theorem snoc_ind {α : Type} {P : List α → Prop} (h0 : P []) (h1 : ∀ L y, P L → P (L ++ [y])) (l : List α) : P l := by
  suffices h : ∀ l : List α, P l.reverse by simpa using h l.reverse
  intro l
  induction l with
  | nil => exact h0
  | cons a l ih => rw [List.reverse_cons]; exact h1 _ _ ih
theorem lsM_last (es : List Ev) : lastL (lsM es) < 3 * (es.length : Int) + 1 := by
  rcases List.eq_nil_or_concat es with rfl | ⟨M, y, rfl⟩
  · simp [lsM, lastL]
  · rw [List.concat_eq_append, lsM_snoc, lastL_snoc, List.length_append]
    simp only [List.length_singleton]
    omega
theorem lsM_ok (es : List Ev) (h : es.length ≤ 60) : LOk (lsM es) := by
  refine snoc_ind (P := fun es => es.length ≤ 60 → LOk (lsM es)) (fun _ => LOk.nil) (fun L y ih hl => ?_) es h
  rw [List.length_append, List.length_singleton] at hl
  have h1 := ih (by omega)
  have h2 := addL_ok h1 (fewT y) (p := 3 * (L.length : Int) + 1) (by omega) (by rw [lsM_len]; omega)
  rw [addL_yes (by omega) (lsM_last L)] at h2
  rw [lsM_snoc]
  exact h2
theorem ev_take (l : List Ev) (j : Nat) (h : j < l.length) : l.take (j + 1) = l.take j ++ [l.getD j noEv] := by
  rw [List.take_add_one]
  simp [List.getD, List.getElem?_eq_getElem h]
theorem lsM_next {es : List Ev} {j : Nat} (h : j < es.length) : addL (lsM (es.take j)) (fewT (es.getD j noEv)) (3 * (j : Int) + 1) = (0, lsM (es.take (j + 1))) := by
  have hl : (es.take j).length = j := by rw [List.length_take]; omega
  have h1 := lsM_last (es.take j)
  rw [hl] at h1
  rw [addL_yes (by omega) h1, ev_take es j h, lsM_snoc, hl]
theorem find_snoc (L : Ls) (e : Ev) (p : Int) (q : List Cl) (u : Int) : findP (L ++ [(e, p)]) q u = findP L q u ++ (if matchQ q e = true ∧ p ≤ u then [p] else []) := by
  have h := find_step q u (L ++ [(e, p)]) (j := L.length) (by simp)
  rw [List.take_of_length_le (by simp), List.take_left] at h
  rw [h]
  simp [List.getD]
theorem fewT_ok {e : Ev} (h : EvOk e) : EvOk (fewT e) := by
  obtain ⟨h1, h2, h3, h4, h5⟩ := h
  exact ⟨h1, h2, fun x hx => h3 x (List.mem_of_mem_take hx), h4, h5⟩
theorem fewT_len (e : Ev) : (fewT e).tags.length ≤ 10 := by simp only [fewT, List.length_take]; omega
theorem ev_ok {es : List Ev} (h : ∀ e ∈ es, EvOk e) {j : Nat} (hj : j < es.length) : EvOk (es.getD j noEv) := by
  simp only [List.getD, List.getElem?_eq_getElem hj, Option.getD_some]
  exact h _ (List.getElem_mem hj)

end Go.Proofs.YtiplfhmimpkplaaGreat.PoWalk

/-
  Contracts of the landed posting: New, Add.
-/
namespace Go.Proofs.YtiplfhmimpkplaaGreat.PnWalk
open Go.RowKit Go.Maps Go.Proofs.YtiplfhmimpkplaaGreat.MemRow Go.Proofs.YtiplfhmimpkplaaGreat.Ev Go.Proofs.YtiplfhmimpkplaaGreat.NameMath Go.Proofs.YtiplfhmimpkplaaGreat.NameWalk Go.Proofs.YtiplfhmimpkplaaGreat.EvWalk Go.Proofs.YtiplfhmimpkplaaGreat.NumMem Go.Proofs.YtiplfhmimpkplaaGreat.SmWalk Go.Proofs.YtiplfhmimpkplaaGreat.NMap Go.Proofs.YtiplfhmimpkplaaGreat.DkWalk Go.Proofs.YtiplfhmimpkplaaGreat.PoWalk Go.Proofs.YtiplfhmimpkplaaGreat.Qu Go.Proofs.YtiplfhmimpkplaaGreat.QuWalk

/-- The landed lists of the events at positions L, behind g. -/
def LnT (g : Nat) (L : Ls) : Thing := fun w G => ∃ F D mb M hd, LnR w F G g D mb M hd ∧ DOf D L
theorem lnT_keeps (g : Nat) (L : Ls) : Keeps (LnT g L) := ⟨fun ⟨F, D, mb, M, hd, h, d⟩ hs hk => ⟨F, D, mb, M, hd, h.keep hs hk, d⟩, fun ⟨_, _, _, _, _, h, _⟩ => h.lt⟩
set_option maxHeartbeats 4000000 in
set_option maxRecDepth 100000 in
theorem new13_any (w : World) : Calls Tryz.prog 54 #[] w fun e w' => ∃ g, e = .returned (.pointer (some ⟨g, 0, none⟩)) ∧ LnT g [] w' (fun k => w.heap.size ≤ k ∧ k < w'.heap.size) ∧ Below w.heap.size w w' := by
  have hmm := fun W => run_makeMap (P := Tryz.prog) 58 W
  go_enter Tryz.func54, Tryz.ntmps54
  go_wp2_with fail
  go_ret
  have s1 : (w.alloc (.map #[] 0)).heap.size = w.heap.size + 1 := by simp
  have s2 : ((w.alloc (.map #[] 0)).alloc (.map #[] 0)).heap.size = w.heap.size + 2 := by simp
  have b1 : Below w.heap.size w (w.alloc (.map #[] 0)) := (Below.refl _ w).alloc (Nat.le_refl _) _
  have b2 := b1.alloc b1.size (.map #[] 0)
  have b3 := b2.alloc b2.size (.cells #[.slice none 0 0, .map (some w.heap.size), .map (some (w.heap.size + 1))] 60)
  have o1 := ((World.ownsMap_made w Tryz.prog 9 slR).alloc (.map #[] 0)).alloc (.cells #[.slice none 0 0, .map (some w.heap.size), .map (some (w.heap.size + 1))] 60)
  have o2 := (World.ownsMap_made (w.alloc (.map #[] 0)) Tryz.prog 9 slR).alloc (.cells #[.slice none 0 0, .map (some w.heap.size), .map (some (w.heap.size + 1))] 60)
  have bx := heap_alloc_new ((w.alloc (.map #[] 0)).alloc (.map #[] 0)) (.cells #[.slice none 0 0, .map (some w.heap.size), .map (some (w.heap.size + 1))] 60)
  have s3 : (((w.alloc (.map #[] 0)).alloc (.map #[] 0)).alloc (.cells #[.slice none 0 0, .map (some w.heap.size), .map (some (w.heap.size + 1))] 60)).heap.size = w.heap.size + 3 := by simp
  rw [s2] at bx
  rw [s1] at o2
  refine ⟨w.heap.size + 2, rfl, ⟨fun k => w.heap.size ≤ k ∧ k < w.heap.size + 3, ⟨[], fun _ => []⟩, fun b => if b then w.heap.size + 1 else w.heap.size, fun _ => .map [], fun _ => none, ⟨bx, fun b => ?_, fun b => NOf.empty _, ⟨fun k => .inr ⟨rfl, ?_⟩, fun k k' h h' _ e => by cases e⟩, fun b c e => ?_, ⟨by omega, by omega⟩, fun b => ?_, fun k hk => by rw [s3]; exact hk, fun k hk => hk.2⟩, DOf.nil⟩, b3⟩
  · cases b
    · exact o1
    · exact o2
  · match k with
    | none => rfl
    | some (b, s) => rfl
  · cases b <;> cases c <;> simp at e ⊢
  · cases b <;> simp

section
variable {w : World} {F G : Nat → Prop} {g : Nat} {D : Dt} {mb : Bool → Nat} {M : Bool → DataW Hr} {hd : HdT} {L : Ls}
set_option maxHeartbeats 4000000 in
set_option maxRecDepth 100000 in
theorem add13_any (h : LnR w F G g D mb M hd) (d : DOf D L) (ok : LOk L) (hl : L.length < 200) {ev : Ev} {T Y : Option Addr} {nT cT nY cY : Nat} (hev : ∀ w', Ch F w w' → RdS w' T nT cT ev.tags) (hok : EvOk ev) (ht : ev.tags.length ≤ 100) {p : Int} (hp : -9223372036854775808 ≤ p ∧ p ≤ 9223372036854775807) :
    Calls Tryz.prog 35 #[.pointer (some ⟨g, 0, none⟩), .agg #[.string ev.s, .string ev.t, .slice T nT cT, .slice Y nY cY], .int .i64 p] w fun e w' => e = .returned (.int .i64 (addL L ev p).1) ∧
      ∃ D1 M1 hd1, Grew w w' F G g mb hd D1 M1 hd1 ∧ DOf D1 (addL L ev p).2 := by
  obtain ⟨es, et, ts, fs⟩ := ev
  simp only at hev ht
  have b1 : Below w.heap.size w (w.alloc (.cells #[.string es, .string et, .slice T nT cT, .slice Y nY cY] 42)) := (Below.refl _ _).alloc (Nat.le_refl _) _
  have b2 := b1.alloc b1.size (.cells #[.int .i64 p] 3)
  have x1 := heap_alloc_new w (.cells #[.string es, .string et, .slice T nT cT, .slice Y nY cY] 42)
  have x2 := heap_alloc_new (w.alloc (.cells #[.string es, .string et, .slice T nT cT, .slice Y nY cY] 42)) (.cells #[.int .i64 p] 3)
  have s1 : (w.alloc (.cells #[.string es, .string et, .slice T nT cT, .slice Y nY cY] 42)).heap.size = w.heap.size + 1 := by simp
  rw [s1] at x2
  go_enter Tryz.func35, Tryz.ntmps35
  go_upto_region 1 with (fail)
  have x1 := (((Below.refl _ (w.alloc (.cells #[.string es, .string et, .slice T nT cT, .slice Y nY cY] 42))).alloc (Nat.le_refl _) (.cells #[.int .i64 p] 3)).block w.heap.size (by omega)).trans x1
  have s2 : ((w.alloc (.cells #[.string es, .string et, .slice T nT cT, .slice Y nY cY] 42)).alloc (.cells #[.int .i64 p] 3)).heap.size = w.heap.size + 2 := by simp
  clear b1 s1
  generalize (w.alloc (.cells #[.string es, .string et, .slice T nT cT, .slice Y nY cY] 42)).alloc (.cells #[.int .i64 p] 3) = w1 at *
  have h1 := h.below b2
  have HEV := Go.Lib.hid (fun w' (c : Ch F w1 w') => hev w' ((Ch.of_below b2).trans (c.wide fun k hk => .inl hk)))
  obtain ⟨A, n, c, eA, rA, _⟩ := (h1.co.li none).rd
  have k0 := h1.c0
  have k1 := h1.c1
  have z0 := h1.frozen 0
  rw [eA] at k0
  have hln : n = L.length := by rw [← rA.len]; exact d.len
  have hall := posP_lt (p := p) ok
  have hlast : 0 < n → (lstD D none).getD (n - 1) 0 = lastL L := fun h0 => by rw [hln]; exact d.last (by omega)
  have hlast0 : n = 0 → lastL L = 0 := fun h0 => by
    have : L = [] := List.eq_nil_of_length_eq_zero (by omega)
    rw [this]
    rfl
  have y0 : w1.cell? ⟨w.heap.size + 1, 0, none⟩ = some (.int .i64 p) := by rw [cell_of_row w1 _ 0 _ _ _ x2]; rfl
  have H := Go.Lib.hid h
  have H1 := Go.Lib.hid h1
  have DD := Go.Lib.hid d
  have OK := Go.Lib.hid ok
  have X1 := Go.Lib.hid x1
  have X2 := Go.Lib.hid x2
  have B2 := Go.Lib.hid b2
  have HOK := Go.Lib.hid hok
  have HLN := Go.Lib.hid hln
  have hn200 : n < 200 := by omega
  clear h h1 d ok x1 x2 b2 hev hok hall hln
  go_upto_region 2 with (fail)
  go_cut [33] (fun v wx => v = .bool (decide (p < 1 ∨ p ≤ lastL L)) ∧ ∃ q, wx = w1.drewN q)
  case first =>
    by_cases h1 : p < 1
    · have hd1 : decide (p < 1 ∨ p ≤ lastL L) = true := decide_eq_true (.inl h1)
      have HD := Go.Lib.hid hd1
      clear hd1 rA hlast hlast0
      go_quiet (fail)
      go_wp2_with fail
      go_meet
      exact ⟨by rw [HD.out], _, rfl⟩
    · by_cases h2 : 0 < n
      · have hl1 := hlast h2
        obtain ⟨b, o, rfl, _, kc⟩ := rA.at_ h2
        have yc := kc (n - 1) (by omega)
        rw [hl1] at yc
        have n1 : IntKind.i64.wrap ((n : Int) - 1) = ((n - 1 : Nat) : Int) := by rw [IntWalk.i64_in _ (by omega)]; omega
        have i2 : (0 : Int) < n := by omega
        have g2 : decide ((n : Int) > 0) = true := decide_eq_true i2
        have g3 : decide (0 < n) = true := decide_eq_true h2
        have j2 : ((n - 1 : Nat) : Int) < n := by omega
        by_cases h3 : p ≤ lastL L
        · have hd1 : decide (p < 1 ∨ p ≤ lastL L) = true := decide_eq_true (.inr h3)
          have HD := Go.Lib.hid hd1
          clear hd1 rA kc hlast hlast0 hl1
          generalize lastL L = x at *
          generalize n - 1 = t at *
          go_quiet (fail)
          go_wp2_with fail
          go_meet
          exact ⟨by rw [HD.out], _, rfl⟩
        · have hd1 : decide (p < 1 ∨ p ≤ lastL L) = false := decide_eq_false (by omega)
          have HD := Go.Lib.hid hd1
          clear hd1 rA kc hlast hlast0 hl1
          generalize lastL L = x at *
          generalize n - 1 = t at *
          go_quiet (fail)
          go_wp2_with fail
          go_meet
          exact ⟨by rw [HD.out], _, rfl⟩
      · have hl1 := hlast0 (by omega)
        have hd1 : decide (p < 1 ∨ p ≤ lastL L) = false := decide_eq_false (by omega)
        have HD := Go.Lib.hid hd1
        have i2 : ¬ (0 : Int) < n := by omega
        have g2 : decide ((n : Int) > 0) = false := decide_eq_false i2
        have g3 : decide (0 < n) = false := decide_eq_false h2
        clear hd1 rA hlast hlast0 hl1
        go_quiet (fail)
        go_wp2_with fail
        go_meet
        exact ⟨by rw [HD.out], _, rfl⟩
  case rest =>
    obtain ⟨rfl, q, rfl⟩ := hcut
    have bq : Below w1.heap.size w1 (w1.drewN q) := bel_dn (Below.refl _ _) q
    have h2 := H1.out.below bq
    have b2 := B2.out.trans (bq.mono B2.out.size)
    have x1 := (bq.block w.heap.size (by omega)).trans X1.out
    have x2 := (bq.block (w.heap.size + 1) (by omega)).trans X2.out
    have s2 : (w1.drewN q).heap.size = w.heap.size + 2 := s2
    have HEV := Go.Lib.hid (fun w' (c : Ch F (w1.drewN q) w') => HEV.out w' ((Ch.of_below bq).trans (c.wide fun k hk => .inl hk)))
    have k0 : (w1.drewN q).cell? ⟨g, 0, none⟩ = some (.slice A n c) := k0
    have k1 : (w1.drewN q).cell? ⟨g, 1, none⟩ = some (.map (some (mb false))) := k1
    have y0 : (w1.drewN q).cell? ⟨w.heap.size + 1, 0, none⟩ = some (.int .i64 p) := y0
    clear hlast hlast0 rA bq
    generalize w1.drewN q = w2 at *
    clear H1 B2 X1 X2
    have H2 := Go.Lib.hid h2
    have B2 := Go.Lib.hid b2
    have X1 := Go.Lib.hid x1
    have X2 := Go.Lib.hid x2
    clear h2 b2 x1 x2
    by_cases hc : p < 1 ∨ p ≤ lastL L
    · rw [decide_eq_true hc]
      have HL := Go.Lib.hid (show addL L ⟨es, et, ts, fs⟩ p = (1, L) by unfold addL; rw [if_pos hc])
      clear hc
      go_wp2_with fail
      go_ret
      rw [HL.out]
      exact ⟨rfl, D, M, hd, Grew.below B2.out H.out, DD.out⟩
    · rw [decide_eq_false hc]
      have HY := Go.Lib.hid (show addL L ⟨es, et, ts, fs⟩ p = (0, L ++ [(⟨es, et, ts, fs⟩, p)]) from addL_yes (by omega) (by omega))
      have HLP := Go.Lib.hid (show lastL L < p by omega)
      clear hc
      have qm : ∀ W, (binOp .eql 58 (.map (some (mb false))) (.map none)).run Tryz.prog W = .ok (.bool (some (mb false)).isNone) W := fun W => run_eql_map_nil W _ _ _ _ Tryz.underlying58
      have cw := fun W (b : Below w2.heap.size w2 W) => with_any ((H2.out.below b).co.li none) (by show D.all.length ≤ _; rw [DD.out.len]; omega) p
      simp only [eA] at cw
      have CW := Go.Lib.hid cw
      clear cw
      go_upto_region 7 with (fail)
      go_cut [8] (fun v wx => v = .func (.func 55) #[] #[.pointer (some ⟨w.heap.size + 1, 0, none⟩)] ∧ ∃ hd1, Hid (Grew w2 wx F G g mb hd ⟨withF D.all p, D.t⟩ M hd1))
      case first =>
        have bd : Below w2.heap.size w2 w2.drew := ⟨rfl, rfl, rfl, Nat.le_refl _, fun _ _ => rfl⟩
        have BD := Go.Lib.hid bd
        have HD := Go.Lib.hid (H2.out.below bd)
        clear bd
        have AFTER := Go.Lib.hid (fun (w4 w5 : World) (h' : Hr) (b4 : Below w2.drew.heap.size w2.drew w4) (wo : WOut w4 w5 F G (hd none) (lstD D none) p h') => show Hid (Grew w2 (w5.setCell ⟨g, 0, none⟩ (valL h')) F G g mb hd ⟨withF D.all p, D.t⟩ M (setK hd none (some h'))) ∧ w5.cell? ⟨g, 0, none⟩ = some (.slice A n c) ∧ w5.frozen? ⟨g, 0, none⟩ = false by
          have h4 := HD.out.below b4
          have bx5 := (h4.with_box wo).1.trans h4.box
          refine ⟨Go.Lib.hid (Grew.from (BD.out.trans b4) H2.out (h4.put_all wo)), ?_, by simp [World.frozen?, bx5]⟩
          rw [cell_of_row w5 g 0 _ _ _ bx5, eA]
          rfl)
        go_region_with (first | (go_at_call 56; refine (CW.out _ BD.out).mono ?_; rintro e w5 ⟨h', rfl, w4, b4, wo⟩; obtain ⟨gr, y5, z5⟩ := AFTER.out w4 w5 h' b4 wo; clear wo b4))
        all_goals
          go_wp2_with fail
          go_meet
          exact ⟨rfl, _, gr⟩
      case rest =>
        obtain ⟨rfl, hd1, g1⟩ := hcut
        have HB := Go.Lib.hid (fun (wx : World) (c : Ch F w2 wx) => (⟨(c.block _ (by omega) (fun hf => by have := H.out.lt _ (H.out.fG _ hf); omega)).trans X1.out, (c.block _ (by omega) (fun hf => by have := H.out.lt _ (H.out.fG _ hf); omega)).trans X2.out⟩ : wx.heap[w.heap.size]? = some (.cells #[.string es, .string et, .slice T nT cT, .slice Y nY cY] 42 (0, 0)) ∧ wx.heap[w.heap.size + 1]? = some (.cells #[.int .i64 p] 3 (0, 0))))
        have e2 : wc.cell? ⟨w.heap.size, 2, none⟩ = some (.slice T nT cT) := by rw [cell_of_row wc _ 2 _ _ _ (HB.out _ g1.out.ch).1]; rfl
        have htn : ts.length = nT := (HEV.out _ g1.out.ch).len
        have HTN := Go.Lib.hid htn
        have hn100 : nT ≤ 100 := by omega
        have eg : Runs 55 := enters_of Tryz.func55 (by kernel_rfl) rfl
        unfold Runs at eg
        have G1 := Go.Lib.hid (show ∃ D1 M1 hd1, Grew w2 wc F G g mb hd D1 M1 hd1 ∧ D1.all = withF D.all p ∧ D1.t false = addKs (D.t false) (ts.take 0) p ∧ D1.t true = D.t true from ⟨_, _, _, g1.out, rfl, rfl, rfl⟩)
        clear g1 k0 k1 y0 htn qm CW eA
        go_wp2_with fail
        go_loopw [57] (fun i wr => ∃ j : Nat, i = .int .i64 j ∧ j ≤ nT ∧ Hid (∃ D1 M1 hd1, Grew w2 wr F G g mb hd D1 M1 hd1 ∧ D1.all = withF D.all p ∧ D1.t false = addKs (D.t false) (ts.take j) p ∧ D1.t true = D.t true)) (fun i _ => nT - (intOf i).toNat)
        case atStart => exact ⟨0, rfl, Nat.zero_le _, G1⟩
        case round =>
          obtain ⟨j, rfl, hj, HG⟩ := hrel
          clear G1 e2
          obtain ⟨D1, M1, hd2, gr, q1, q2, q3⟩ := HG.out
          have GR := Go.Lib.hid gr
          have Q1 := Go.Lib.hid q1
          have Q2 := Go.Lib.hid q2
          have Q3 := Go.Lib.hid q3
          clear HG
          by_cases hlt : j < nT
          · have rT := HEV.out _ gr.ch
            obtain ⟨bt, ot, rfl, _, kt⟩ := RdS.at_ rT (by omega)
            have yt := kt j hlt
            have yg := gr.ln.c1
            have yp : wr.cell? ⟨w.heap.size + 1, 0, none⟩ = some (.int .i64 p) := by rw [cell_of_row wr _ 0 _ _ _ (HB.out _ gr.ch).2]; rfl
            have hsz : (ts.getD j ByteArray.empty).size ≤ maxLen := HOK.out.tags _ (mem_getD ts j (by rw [HTN.out]; exact hlt))
            have ca := Go.Lib.hid (addf_any gr.ln false (by
              rw [q2]
              have := addKs_len (D.t false) (ts.take j) p
              have := DD.out.tl
              rw [List.length_take] at *
              omega) hsz yp)
            have hst : addK (D1.t false) (ts.getD j ByteArray.empty) p = addKs (D.t false) (ts.take (j + 1)) p := by
              rw [q2, ← addKs_snoc, List.take_add_one]
              simp [List.getD, List.getElem?_eq_getElem (show j < ts.length by rw [HTN.out]; exact hlt)]
            have HST := Go.Lib.hid hst
            have i1 : (j : Int) < nT := by omega
            clear rT kt hst gr q1 q2 q3 yp hsz
            generalize ts.getD j ByteArray.empty = t at *
            go_wp2_with (refine (ca.out).mono ?_; rintro e w5 ⟨rfl, M5, hd5, g5⟩)
            go_roundw
            case rel => exact ⟨j + 1, by go_num, by omega, Go.Lib.hid ⟨_, _, _, GR.out.trans g5, Q1.out, by rw [← HST.out]; show setB D1.t false _ false = _; exact setB_at _ _ _, by show setB D1.t false (addK (D1.t false) t p) true = _; exact (setB_ne _ _ (by decide)).trans Q3.out⟩⟩
            case measure => simp [intOf]; omega
          · obtain rfl : nT = j := by omega
            have i1 : ¬ (nT : Int) < nT := by omega
            have bd : Below wr.heap.size wr wr.drew := ⟨rfl, rfl, rfl, Nat.le_refl _, fun _ _ => rfl⟩
            have yg := gr.ln.c2
            have ye : wr.cell? ⟨w.heap.size, 1, none⟩ = some (.string et) := by rw [cell_of_row wr _ 1 _ _ _ (HB.out _ gr.ch).1]; rfl
            have yp : wr.drew.cell? ⟨w.heap.size + 1, 0, none⟩ = some (.int .i64 p) := by
              show wr.cell? _ = _
              rw [cell_of_row wr _ 0 _ _ _ (HB.out _ gr.ch).2]
              rfl
            have ca := Go.Lib.hid (addf_any (gr.ln.below bd) true (by
              rw [q3]
              have := DD.out.yl
              omega) HOK.out.t yp)
            have BD := Go.Lib.hid bd
            clear q1 q2 q3 yp bd gr hlt
            go_upto_region 13 with (fail)
            go_region_with (first | (refine (ca.out).mono ?_; rintro e w5 ⟨rfl, M5, hd5, g5⟩))
            all_goals
              go_wp2_with fail
              go_ret
              rw [HY.out]
              refine ⟨rfl, _, _, _, Grew.from B2.out H.out (GR.out.trans (Grew.from BD.out GR.out.ln g5)), DD.out.add OK.out HLP.out ht Q1.out ?_ ?_⟩
              · show setB D1.t true (addK (D1.t true) et p) false = _
                rw [setB_ne _ _ (by decide), Q2.out, List.take_of_length_le (by rw [HTN.out]; exact Nat.le_refl _)]
              · show setB D1.t true _ true = _
                rw [setB_at, Q3.out]
                rfl
end

end Go.Proofs.YtiplfhmimpkplaaGreat.PnWalk

/-
  Contracts of the landed posting, its lists a part of an index: New, Add.
-/
namespace Go.Proofs.YtiplfhmimpkplaaGreat.PnWalk
open Go.RowKit Go.Maps Go.Proofs.YtiplfhmimpkplaaGreat.MemRow Go.Proofs.YtiplfhmimpkplaaGreat.Ev Go.Proofs.YtiplfhmimpkplaaGreat.NameMath Go.Proofs.YtiplfhmimpkplaaGreat.NameWalk Go.Proofs.YtiplfhmimpkplaaGreat.EvWalk Go.Proofs.YtiplfhmimpkplaaGreat.NumMem Go.Proofs.YtiplfhmimpkplaaGreat.SmWalk Go.Proofs.YtiplfhmimpkplaaGreat.NMap Go.Proofs.YtiplfhmimpkplaaGreat.DkWalk Go.Proofs.YtiplfhmimpkplaaGreat.PoWalk Go.Proofs.YtiplfhmimpkplaaGreat.Qu Go.Proofs.YtiplfhmimpkplaaGreat.QuWalk Go.Proofs.YtiplfhmimpkplaaGreat.InWalk

set_option maxHeartbeats 4000000 in
set_option maxRecDepth 100000 in
theorem new14p_any (w : World) : Calls Tryz.prog 54 #[] w fun e w' => ∃ (g : Nat) (f : Bool → Nat), e = .returned (.pointer (some ⟨g, 0, none⟩)) ∧ w'.cell? ⟨g, 0, none⟩ = some (.slice none 0 0) ∧ w'.cell? ⟨g, 1, none⟩ = some (.map (some (f false))) ∧ w'.cell? ⟨g, 2, none⟩ = some (.map (some (f true))) ∧ Below w.heap.size w w' ∧
    (∀ b, w'.ownsMap Tryz.prog 9 slR (f b) 0 (.map [])) ∧ (∀ b, w.heap.size ≤ f b ∧ f b < w'.heap.size) ∧ f true ≠ f false := by
  have hmm := fun W => run_makeMap (P := Tryz.prog) 58 W
  go_enter Tryz.func54, Tryz.ntmps54
  go_wp2_with fail
  go_ret
  have s1 : (w.alloc (.map #[] 0)).heap.size = w.heap.size + 1 := by simp
  have s2 : ((w.alloc (.map #[] 0)).alloc (.map #[] 0)).heap.size = w.heap.size + 2 := by simp
  have b1 : Below w.heap.size w (w.alloc (.map #[] 0)) := (Below.refl _ w).alloc (Nat.le_refl _) _
  have b2 := b1.alloc b1.size (.map #[] 0)
  have b3 := b2.alloc b2.size (.cells #[.slice none 0 0, .map (some w.heap.size), .map (some (w.heap.size + 1))] 60)
  have o1 := ((World.ownsMap_made w Tryz.prog 9 slR).alloc (.map #[] 0)).alloc (.cells #[.slice none 0 0, .map (some w.heap.size), .map (some (w.heap.size + 1))] 60)
  have o2 := (World.ownsMap_made (w.alloc (.map #[] 0)) Tryz.prog 9 slR).alloc (.cells #[.slice none 0 0, .map (some w.heap.size), .map (some (w.heap.size + 1))] 60)
  have bx := heap_alloc_new ((w.alloc (.map #[] 0)).alloc (.map #[] 0)) (.cells #[.slice none 0 0, .map (some w.heap.size), .map (some (w.heap.size + 1))] 60)
  have s3 : (((w.alloc (.map #[] 0)).alloc (.map #[] 0)).alloc (.cells #[.slice none 0 0, .map (some w.heap.size), .map (some (w.heap.size + 1))] 60)).heap.size = w.heap.size + 3 := by simp
  rw [s2] at bx
  rw [s1] at o2
  refine ⟨w.heap.size + 2, fun b => if b then w.heap.size + 1 else w.heap.size, rfl, by rw [cell_of_row _ _ 0 _ _ _ bx]; rfl, by rw [cell_of_row _ _ 1 _ _ _ bx]; rfl, by rw [cell_of_row _ _ 2 _ _ _ bx]; rfl, b3, fun b => ?_, fun b => ?_, by simp⟩
  · cases b
    · exact o1
    · exact o2
  · rw [s3]
    cases b <;> simp
section
variable {w : World} {F G : Nat → Prop} {g : Nat} {r m lp : Value} {D : Dt} {mb : Option (Bool → Nat)} {M : Bool → DataW Hr} {hd : HdT} {L : Ls}
set_option maxRecDepth 100000 in
/-- Maps where there were none. -/
theorem GrewC.made {f : Bool → Nat} {w5 : World} (hx : LBx w g r m lp none hd) (h : LnC w F G D none M hd) (b5 : Below w.heap.size w w5) (o : ∀ b, w5.ownsMap Tryz.prog 9 slR (f b) 0 (.map [])) (hf : ∀ b, w.heap.size ≤ f b ∧ f b < w5.heap.size) (hne : f true ≠ f false) :
    GrewC w (((w5.setCell ⟨g, 3, none⟩ (.slice none 0 0)).setCell ⟨g, 4, none⟩ (.map (some (f false)))).setCell ⟨g, 5, none⟩ (.map (some (f true)))) F G g r m lp hd D (some f) (fun _ => .map []) hd := by
  obtain ⟨hall, ht⟩ := h.nil
  have glt := XBx.lt hx
  have hx5 := XBx.below hx b5
  have h5 := h.below b5
  have e0 : mkL (hd none) = .slice none 0 0 := by
    rcases h.co.li none with ⟨y, _, q⟩ | ⟨e, _⟩
    · have h1 := q.len
      have h2 := q.pos
      have h3 : lstD D none = [] := hall
      rw [h3] at h1
      simp only [List.length_nil] at h1
      omega
    · rw [e]; rfl
  have X := ((XBx.set3 hx5 (.slice none 0 0)).set4 (.map (some (f false)))).set5 (.map (some (f true)))
  have s5 : (((w5.setCell ⟨g, 3, none⟩ (.slice none 0 0)).setCell ⟨g, 4, none⟩ (.map (some (f false)))).setCell ⟨g, 5, none⟩ (.map (some (f true)))).heap.size = w5.heap.size := by simp [World.setCell]
  have k5 : ∀ k, k ≠ g → (((w5.setCell ⟨g, 3, none⟩ (.slice none 0 0)).setCell ⟨g, 4, none⟩ (.map (some (f false)))).setCell ⟨g, 5, none⟩ (.map (some (f true)))).heap[k]? = w5.heap[k]? := fun k hk => ((put_other _ g 5 _ hk).trans (put_other _ g 4 _ hk)).trans (put_other _ g 3 _ hk)
  have hbs := b5.size
  have ch : Ch (fun k => F k ∨ k = g) w (((w5.setCell ⟨g, 3, none⟩ (.slice none 0 0)).setCell ⟨g, 4, none⟩ (.map (some (f false)))).setCell ⟨g, 5, none⟩ (.map (some (f true)))) := ⟨b5.os, b5.tape, b5.output, by omega, fun k hk hn => (k5 k fun e => hn (.inr e)).trans (b5.block k hk)⟩
  have c1 := ((h5.box hx5 3 (.slice none 0 0)).box (XBx.set3 hx5 _) 4 (.map (some (f false)))).box ((XBx.set3 hx5 _).set4 _) 5 (.map (some (f true)))
  refine ⟨?_, ⟨fun b => ?_, fun b => ?_, c1.co.wide (fun _ h => .inl h) (fun _ h => .inl h), fun f' e => ?_, fun e => (by cases e), fun f' e b => ?_, fun k hk => ?_, fun k hk => up_lt h.lt ch.size hk⟩, ch, ?_⟩
  · show XBx _ g r m lp (mkL (hd none)) _ _
    rw [e0]
    exact X
  · obtain ⟨es, clock, hb, ft, hn, hD⟩ := o b
    exact ⟨es, clock, (k5 (f b) (by have := hf b; omega)).trans hb, ft, hn, hD⟩
  · rw [ht b]
    exact NOf.empty _
  · injection e with e
    subst e
    intro b c hbc
    cases b <;> cases c <;> simp at hbc ⊢
    · exact hne
    · exact fun e => hne e.symm
  · injection e with e
    subst e
    exact .inr ⟨(hf b).1, by rw [s5]; exact (hf b).2⟩
  · rcases hk with hk | hk
    · exact .inl (h.fG k hk)
    · exact .inr hk
  · have hno : ∀ {a b c d e f : Value} (cs : Array Value) (T : TypeId) (fr : Nat × Nat), (Obj.cells #[a, b, c, d, e, f] 62 (0, 0)) = .cells cs T fr → T ≠ 3 := fun cs T fr e => by injection e with _ e _; subst e; decide
    intro F' G' l' hd' c hl hFF a1 a2
    exact ⟨(((c.below b5).other (put_grown w5 g 3 _) hx5 hno).other (put_grown _ g 4 _) (XBx.set3 hx5 _) hno).other (put_grown _ g 5 _) ((XBx.set3 hx5 _).set4 _) hno, a1, a2⟩
set_option maxHeartbeats 4000000 in
set_option maxRecDepth 100000 in
/-- Add's closure: the number is laid behind the list of a tag, or of a type. -/
theorem addf14_any {f : Bool → Nat} (hx : LBx w g r m lp (some f) hd) (h : LnC w F G D (some f) M hd) (b : Bool) (hl : (D.t b).length ≤ 1000000) {s : ByteArray} (hs : s.size ≤ maxLen) {p : Int} {pb : Nat} (hp : w.cell? ⟨pb, 0, none⟩ = some (.int .i64 p)) :
    Calls Tryz.prog 55 #[.map (some (f b)), .string s, .pointer (some ⟨pb, 0, none⟩)] w fun e w' => e = .returned (.tuple #[]) ∧ ∃ M1 hd1, GrewC w w' F G g r m lp hd ⟨D.all, setB D.t b (addK (D.t b) s p)⟩ (some f) M1 hd1 := by
  have ql : (Instr.lookup 58 (.map (some (f b))) (.string s) false).run Tryz.prog w = .ok (mkL (hd (some (b, s)))) w := h.look b hs
  have hlen : (lstD D (some (b, s))).length ≤ 1000000 := Nat.le_trans (allP_len (D.t b) s) hl
  have CW := Go.Lib.hid (with_any (h.co.li (some (b, s))) hlen p)
  have hkey := keyN_of hs
  have hmx : Maps.size (M b) < maxLen := by
    have := h.size b
    have := namesT_len (D.t b)
    unfold maxLen
    omega
  have H := Go.Lib.hid h
  have HX := Go.Lib.hid hx
  clear h hx hlen hl
  go_enter Tryz.func55, Tryz.ntmps55
  go_wp2_with (first
    | (refine (CW.out).mono ?_; rintro e w2 ⟨h', rfl, w1, b1, wo⟩; have H1 := Go.Lib.hid (H.out.below b1); have HX1 := Go.Lib.hid (XBx.below HX.out b1); have own2 := H1.out.with_own wo b; have WO := Go.Lib.hid wo; clear wo ql)
    | (at_mapUpdate; refine wpList_mapUpdate_own _ rfl _ _ _ 58 rfl 9 57 keyedN Tryz.underlying58 slR (f b) (Maps.size (M b)) (M b) rfl own2 hmx _ _ _ rfl rfl hkey _ [] (slR_some h') ?_; intro w3 ho3 hg3))
  go_end0
  exact ⟨rfl, _, _, GrewC.from b1 H.out (H1.out.put_map HX1.out b WO.out hg3 ho3)⟩
set_option maxHeartbeats 4000000 in
set_option maxRecDepth 100000 in
theorem add14p_any (hx : LBx w g r m lp mb hd) (h : LnC w F G D mb M hd) (d : DOf D L) (ok : LOk L) (hl : L.length < 400) {ev : Ev} {T Y : Option Addr} {nT cT nY cY : Nat} (hev : ∀ w', Ch (fun k => F k ∨ k = g) w w' → RdS w' T nT cT ev.tags) (hok : EvOk ev) (ht : ev.tags.length ≤ 100) {p : Int} (hp : -9223372036854775808 ≤ p ∧ p ≤ 9223372036854775807) :
    Calls Tryz.prog 35 #[.pointer (some ⟨g, 3, none⟩), .agg #[.string ev.s, .string ev.t, .slice T nT cT, .slice Y nY cY], .int .i64 p] w fun e w' => e = .returned (.int .i64 (addL L ev p).1) ∧
      ∃ D1 mb1 M1 hd1, GrewC w w' F G g r m lp hd D1 mb1 M1 hd1 ∧ DOf D1 (addL L ev p).2 := by
  obtain ⟨es, et, ts, fs⟩ := ev
  simp only at hev ht
  have b1 : Below w.heap.size w (w.alloc (.cells #[.string es, .string et, .slice T nT cT, .slice Y nY cY] 42)) := (Below.refl _ _).alloc (Nat.le_refl _) _
  have b2 := b1.alloc b1.size (.cells #[.int .i64 p] 3)
  have x1 := heap_alloc_new w (.cells #[.string es, .string et, .slice T nT cT, .slice Y nY cY] 42)
  have x2 := heap_alloc_new (w.alloc (.cells #[.string es, .string et, .slice T nT cT, .slice Y nY cY] 42)) (.cells #[.int .i64 p] 3)
  have s1 : (w.alloc (.cells #[.string es, .string et, .slice T nT cT, .slice Y nY cY] 42)).heap.size = w.heap.size + 1 := by simp
  rw [s1] at x2
  go_enter Tryz.func35, Tryz.ntmps35
  go_upto_region 1 with (fail)
  have x1 := (((Below.refl _ (w.alloc (.cells #[.string es, .string et, .slice T nT cT, .slice Y nY cY] 42))).alloc (Nat.le_refl _) (.cells #[.int .i64 p] 3)).block w.heap.size (by omega)).trans x1
  have s2 : ((w.alloc (.cells #[.string es, .string et, .slice T nT cT, .slice Y nY cY] 42)).alloc (.cells #[.int .i64 p] 3)).heap.size = w.heap.size + 2 := by simp
  clear b1 s1
  generalize (w.alloc (.cells #[.string es, .string et, .slice T nT cT, .slice Y nY cY] 42)).alloc (.cells #[.int .i64 p] 3) = w1 at *
  have h1 := h.below b2
  have hx1 := XBx.below hx b2
  have hglt := XBx.lt hx
  have HEV := Go.Lib.hid (fun w' (c : Ch (fun k => F k ∨ k = g) w1 w') => hev w' ((Ch.of_below b2).trans (c.wide fun k hk => .inl hk)))
  obtain ⟨A, n, c, eA, rA, _⟩ := (h1.co.li none).rd
  have k0 := XBx.c3 hx1
  have k1 := XBx.c4 hx1
  have z0 := XBx.frozen hx1 3
  rw [eA] at k0
  have hln : n = L.length := by rw [← rA.len]; exact d.len
  have hall := posP_lt (p := p) ok
  have hlast : 0 < n → (lstD D none).getD (n - 1) 0 = lastL L := fun h0 => by rw [hln]; exact d.last (by omega)
  have hlast0 : n = 0 → lastL L = 0 := fun h0 => by
    have : L = [] := List.eq_nil_of_length_eq_zero (by omega)
    rw [this]
    rfl
  have y0 : w1.cell? ⟨w.heap.size + 1, 0, none⟩ = some (.int .i64 p) := by rw [cell_of_row w1 _ 0 _ _ _ x2]; rfl
  have H := Go.Lib.hid h
  have HX := Go.Lib.hid hx
  have HX1 := Go.Lib.hid hx1
  have H1 := Go.Lib.hid h1
  have DD := Go.Lib.hid d
  have OK := Go.Lib.hid ok
  have X1 := Go.Lib.hid x1
  have X2 := Go.Lib.hid x2
  have B2 := Go.Lib.hid b2
  have HOK := Go.Lib.hid hok
  have HLN := Go.Lib.hid hln
  have hn200 : n < 400 := by omega
  clear h hx hx1 h1 d ok x1 x2 b2 hev hok hall hln
  go_upto_region 2 with (fail)
  go_cut [33] (fun v wx => v = .bool (decide (p < 1 ∨ p ≤ lastL L)) ∧ ∃ q, wx = w1.drewN q)
  case first =>
    by_cases h1 : p < 1
    · have hd1 : decide (p < 1 ∨ p ≤ lastL L) = true := decide_eq_true (.inl h1)
      have HD := Go.Lib.hid hd1
      clear hd1 rA hlast hlast0
      go_quiet (fail)
      go_wp2_with fail
      go_meet
      exact ⟨by rw [HD.out], _, rfl⟩
    · by_cases h2 : 0 < n
      · have hl1 := hlast h2
        obtain ⟨b, o, rfl, _, kc⟩ := rA.at_ h2
        have yc := kc (n - 1) (by omega)
        rw [hl1] at yc
        have n1 : IntKind.i64.wrap ((n : Int) - 1) = ((n - 1 : Nat) : Int) := by rw [IntWalk.i64_in _ (by omega)]; omega
        have i2 : (0 : Int) < n := by omega
        have g2 : decide ((n : Int) > 0) = true := decide_eq_true i2
        have g3 : decide (0 < n) = true := decide_eq_true h2
        have j2 : ((n - 1 : Nat) : Int) < n := by omega
        by_cases h3 : p ≤ lastL L
        · have hd1 : decide (p < 1 ∨ p ≤ lastL L) = true := decide_eq_true (.inr h3)
          have HD := Go.Lib.hid hd1
          clear hd1 rA kc hlast hlast0 hl1
          generalize lastL L = x at *
          generalize n - 1 = t at *
          go_quiet (fail)
          go_wp2_with fail
          go_meet
          exact ⟨by rw [HD.out], _, rfl⟩
        · have hd1 : decide (p < 1 ∨ p ≤ lastL L) = false := decide_eq_false (by omega)
          have HD := Go.Lib.hid hd1
          clear hd1 rA kc hlast hlast0 hl1
          generalize lastL L = x at *
          generalize n - 1 = t at *
          go_quiet (fail)
          go_wp2_with fail
          go_meet
          exact ⟨by rw [HD.out], _, rfl⟩
      · have hl1 := hlast0 (by omega)
        have hd1 : decide (p < 1 ∨ p ≤ lastL L) = false := decide_eq_false (by omega)
        have HD := Go.Lib.hid hd1
        have i2 : ¬ (0 : Int) < n := by omega
        have g2 : decide ((n : Int) > 0) = false := decide_eq_false i2
        have g3 : decide (0 < n) = false := decide_eq_false h2
        clear hd1 rA hlast hlast0 hl1
        go_quiet (fail)
        go_wp2_with fail
        go_meet
        exact ⟨by rw [HD.out], _, rfl⟩
  case rest =>
    obtain ⟨rfl, q, rfl⟩ := hcut
    have bq : Below w1.heap.size w1 (w1.drewN q) := bel_dn (Below.refl _ _) q
    have h2 := H1.out.below bq
    have hx2 := XBx.below HX1.out bq
    have b2 := B2.out.trans (bq.mono B2.out.size)
    have x1 := (bq.block w.heap.size (by omega)).trans X1.out
    have x2 := (bq.block (w.heap.size + 1) (by omega)).trans X2.out
    have s2 : (w1.drewN q).heap.size = w.heap.size + 2 := s2
    have HEV := Go.Lib.hid (fun w' (c : Ch (fun k => F k ∨ k = g) (w1.drewN q) w') => HEV.out w' ((Ch.of_below bq).trans (c.wide fun k hk => .inl hk)))
    have k0 : (w1.drewN q).cell? ⟨g, 3, none⟩ = some (.slice A n c) := k0
    have k1 : (w1.drewN q).cell? ⟨g, 4, none⟩ = some (.map (mapAt mb false)) := k1
    have y0 : (w1.drewN q).cell? ⟨w.heap.size + 1, 0, none⟩ = some (.int .i64 p) := y0
    clear hlast hlast0 rA bq
    generalize w1.drewN q = w2 at *
    clear H1 HX1 B2 X1 X2
    have H2 := Go.Lib.hid h2
    have HX2 := Go.Lib.hid hx2
    have B2 := Go.Lib.hid b2
    have X1 := Go.Lib.hid x1
    have X2 := Go.Lib.hid x2
    clear h2 hx2 b2 x1 x2
    by_cases hc : p < 1 ∨ p ≤ lastL L
    · rw [decide_eq_true hc]
      have HL := Go.Lib.hid (show addL L ⟨es, et, ts, fs⟩ p = (1, L) by unfold addL; rw [if_pos hc])
      clear hc
      go_wp2_with fail
      go_ret
      rw [HL.out]
      exact ⟨rfl, D, mb, M, hd, GrewC.below B2.out HX.out H.out, DD.out⟩
    · rw [decide_eq_false hc]
      have HY := Go.Lib.hid (show addL L ⟨es, et, ts, fs⟩ p = (0, L ++ [(⟨es, et, ts, fs⟩, p)]) from addL_yes (by omega) (by omega))
      have HLP := Go.Lib.hid (show lastL L < p by omega)
      clear hc
      have qm : ∀ W, (binOp .eql 58 (.map (mapAt mb false)) (.map none)).run Tryz.prog W = .ok (.bool (mapAt mb false).isNone) W := fun W => run_eql_map_nil W _ _ _ _ Tryz.underlying58
      go_upto_region 4 with (fail)
      go_upto_if 38 with (fail)
      go_cut [6] (fun _ wx => ∃ f M1, Hid (GrewC w2 wx F G g r m lp hd D (some f) M1 hd))
      case first =>
        cases mb with
        | none =>
          have NEWC := Go.Lib.hid (new14p_any w2)
          have MADE := Go.Lib.hid (fun (w5 : World) (f : Bool → Nat) (b5 : Below w2.heap.size w2 w5) (o : ∀ b, w5.ownsMap Tryz.prog 9 slR (f b) 0 (.map [])) (hf : ∀ b, w2.heap.size ≤ f b ∧ f b < w5.heap.size) (hne : f true ≠ f false) => GrewC.made HX2.out H2.out b5 o hf hne)
          have HC := Go.Lib.hid (fun (w5 : World) (f5 : Bool → Nat) (b5 : Below w2.heap.size w2 w5) => And.intro ((XBx.below HX2.out b5).frozen 3) (And.intro (((XBx.below HX2.out b5).set3 (.slice none 0 0)).frozen 4) ((((XBx.below HX2.out b5).set3 (.slice none 0 0)).set4 (.map (some (f5 false)))).frozen 5)))
          clear eA k0
          go_wp2_with (first | (go_at_call 54; refine (NEWC.out).mono ?_; rintro e w5 ⟨g5, f, rfl, q0, q1, q2, b5, o5, hf5, hne5⟩; have Q := Go.Lib.hid (MADE.out w5 f b5 o5 hf5 hne5); obtain ⟨z3, z4, z5⟩ := HC.out w5 f b5; have k3 := (XBx.below HX2.out b5).c3; have k4 := ((XBx.below HX2.out b5).set3 (.slice none 0 0)).c4; have k5 := (((XBx.below HX2.out b5).set3 (.slice none 0 0)).set4 (.map (some (f false)))).c5; clear b5 o5 hf5 hne5))
          go_meet
          exact ⟨_, _, Q⟩
        | some f =>
          have Q := Go.Lib.hid (GrewC.refl HX2.out H2.out)
          clear eA k0
          go_wp2_with fail
          go_meet
          exact ⟨_, _, Q⟩
      case rest =>
        obtain ⟨f, M0, G0⟩ := hcut
        obtain ⟨wv, rfl⟩ : ∃ wv, wv = wc := ⟨_, rfl⟩
        have HB := Go.Lib.hid (fun (wx : World) (c : Ch (fun k => F k ∨ k = g) w2 wx) => (⟨(c.block _ (by omega) (fun hf => by rcases hf with hf | hf; (have := H.out.lt _ (H.out.fG _ hf); omega); omega)).trans X1.out, (c.block _ (by omega) (fun hf => by rcases hf with hf | hf; (have := H.out.lt _ (H.out.fG _ hf); omega); omega)).trans X2.out⟩ : wx.heap[w.heap.size]? = some (.cells #[.string es, .string et, .slice T nT cT, .slice Y nY cY] 42 (0, 0)) ∧ wx.heap[w.heap.size + 1]? = some (.cells #[.int .i64 p] 3 (0, 0))))
        have y0 : wv.cell? ⟨w.heap.size + 1, 0, none⟩ = some (.int .i64 p) := by rw [cell_of_row wv _ 0 _ _ _ (HB.out _ G0.out.ch).2]; rfl
        have h3 := G0.out.ln
        have hx3 := G0.out.bx
        have H3 := Go.Lib.hid h3
        have HX3 := Go.Lib.hid hx3
        have k0 := XBx.c3 hx3
        have z0 := XBx.frozen hx3 3
        have k1 : wv.cell? ⟨g, 4, none⟩ = some (.map (some (f false))) := XBx.c4 hx3
        rw [eA] at k0
        have cw := fun W (b : Below wv.heap.size wv W) => with_any ((H3.out.below b).co.li none) (by show D.all.length ≤ _; rw [DD.out.len]; omega) p
        simp only [eA] at cw
        have CW := Go.Lib.hid cw
        have HEV := Go.Lib.hid (fun w' (c : Ch (fun k => F k ∨ k = g) w2 w') => HEV.out w' c)
        clear cw h3 hx3 qm
        go_upto_region 7 with (fail)
        go_cut [8] (fun v wx => v = .func (.func 55) #[] #[.pointer (some ⟨w.heap.size + 1, 0, none⟩)] ∧ ∃ hd1, Hid (GrewC wv wx (up F w2 wv) (up G w2 wv) g r m lp hd ⟨withF D.all p, D.t⟩ (some f) M0 hd1))
        case first =>
          have bd : Below wv.heap.size wv wv.drew := ⟨rfl, rfl, rfl, Nat.le_refl _, fun _ _ => rfl⟩
          have BD := Go.Lib.hid bd
          have HD := Go.Lib.hid (H3.out.below bd)
          have HXD := Go.Lib.hid (XBx.below HX3.out bd)
          clear bd
          have AFTER := Go.Lib.hid (fun (w4 w5 : World) (h' : Hr) (b4 : Below wv.drew.heap.size wv.drew w4) (wo : WOut w4 w5 (up F w2 wv) (up G w2 wv) (hd none) (lstD D none) p h') => show Hid (GrewC wv (w5.setCell ⟨g, 3, none⟩ (valL h')) (up F w2 wv) (up G w2 wv) g r m lp hd ⟨withF D.all p, D.t⟩ (some f) M0 (setK hd none (some h'))) ∧ w5.cell? ⟨g, 3, none⟩ = some (.slice A n c) ∧ w5.frozen? ⟨g, 3, none⟩ = false by
            have h4 := HD.out.below b4
            have hx4 := XBx.below HXD.out b4
            have bx5 := h4.with_box hx4 wo
            refine ⟨Go.Lib.hid (GrewC.from (BD.out.trans b4) H3.out (h4.put_all hx4 wo)), ?_, bx5.frozen 3⟩
            rw [bx5.c3, eA])
          go_region_with (first | (go_at_call 56; refine (CW.out _ BD.out).mono ?_; rintro e w5 ⟨h', rfl, w4, b4, wo⟩; obtain ⟨gr, y5, z5⟩ := AFTER.out w4 w5 h' b4 wo; clear wo b4))
          all_goals
            go_wp2_with fail
            go_meet
            exact ⟨rfl, _, gr⟩
        case rest =>
          obtain ⟨rfl, hd1, g1⟩ := hcut
          have G1 := Go.Lib.hid (G0.out.trans g1.out)
          clear g1
          have g1 := G1
          clear G1
          have e2 : wc.cell? ⟨w.heap.size, 2, none⟩ = some (.slice T nT cT) := by rw [cell_of_row wc _ 2 _ _ _ (HB.out _ g1.out.ch).1]; rfl
          have htn : ts.length = nT := (HEV.out _ g1.out.ch).len
          have HTN := Go.Lib.hid htn
          have hn100 : nT ≤ 100 := by omega
          have eg : Runs 55 := enters_of Tryz.func55 (by kernel_rfl) rfl
          unfold Runs at eg
          have G1 := Go.Lib.hid (show ∃ D1 M1 hd1, GrewC w2 wc F G g r m lp hd D1 (some f) M1 hd1 ∧ D1.all = withF D.all p ∧ D1.t false = addKs (D.t false) (ts.take 0) p ∧ D1.t true = D.t true from ⟨_, _, _, g1.out, rfl, rfl, rfl⟩)
          clear g1 k0 k1 y0 htn CW eA
          go_wp2_with fail
          go_loopw [57] (fun i wr => ∃ j : Nat, i = .int .i64 j ∧ j ≤ nT ∧ Hid (∃ D1 M1 hd1, GrewC w2 wr F G g r m lp hd D1 (some f) M1 hd1 ∧ D1.all = withF D.all p ∧ D1.t false = addKs (D.t false) (ts.take j) p ∧ D1.t true = D.t true)) (fun i _ => nT - (intOf i).toNat)
          case atStart => exact ⟨0, rfl, Nat.zero_le _, G1⟩
          case round =>
            obtain ⟨j, rfl, hj, HG⟩ := hrel
            clear G1 e2
            obtain ⟨D1, M1, hd2, gr, q1, q2, q3⟩ := HG.out
            have GR := Go.Lib.hid gr
            have Q1 := Go.Lib.hid q1
            have Q2 := Go.Lib.hid q2
            have Q3 := Go.Lib.hid q3
            clear HG
            by_cases hlt : j < nT
            · have rT := HEV.out _ gr.ch
              obtain ⟨bt, ot, rfl, _, kt⟩ := RdS.at_ rT (by omega)
              have yt := kt j hlt
              have yg : wr.cell? ⟨g, 4, none⟩ = some (.map (some (f false))) := XBx.c4 gr.bx
              have yp : wr.cell? ⟨w.heap.size + 1, 0, none⟩ = some (.int .i64 p) := by rw [cell_of_row wr _ 0 _ _ _ (HB.out _ gr.ch).2]; rfl
              have hsz : (ts.getD j ByteArray.empty).size ≤ maxLen := HOK.out.tags _ (mem_getD ts j (by rw [HTN.out]; exact hlt))
              have ca := Go.Lib.hid (addf14_any gr.bx gr.ln false (by
                rw [q2]
                have := addKs_len (D.t false) (ts.take j) p
                have := DD.out.tl
                rw [List.length_take] at *
                omega) hsz yp)
              have hst : addK (D1.t false) (ts.getD j ByteArray.empty) p = addKs (D.t false) (ts.take (j + 1)) p := by
                rw [q2, ← addKs_snoc, List.take_add_one]
                simp [List.getD, List.getElem?_eq_getElem (show j < ts.length by rw [HTN.out]; exact hlt)]
              have HST := Go.Lib.hid hst
              have i1 : (j : Int) < nT := by omega
              clear rT kt hst gr q1 q2 q3 yp hsz
              generalize ts.getD j ByteArray.empty = t at *
              go_wp2_with (refine (ca.out).mono ?_; rintro e w5 ⟨rfl, M5, hd5, g5⟩)
              go_roundw
              case rel => exact ⟨j + 1, by go_num, by omega, Go.Lib.hid ⟨_, _, _, GR.out.trans g5, Q1.out, by rw [← HST.out]; show setB D1.t false _ false = _; exact setB_at _ _ _, by show setB D1.t false (addK (D1.t false) t p) true = _; exact (setB_ne _ _ (by decide)).trans Q3.out⟩⟩
              case measure => simp [intOf]; omega
            · obtain rfl : nT = j := by omega
              have i1 : ¬ (nT : Int) < nT := by omega
              have bd : Below wr.heap.size wr wr.drew := ⟨rfl, rfl, rfl, Nat.le_refl _, fun _ _ => rfl⟩
              have yg : wr.cell? ⟨g, 5, none⟩ = some (.map (some (f true))) := XBx.c5 gr.bx
              have ye : wr.cell? ⟨w.heap.size, 1, none⟩ = some (.string et) := by rw [cell_of_row wr _ 1 _ _ _ (HB.out _ gr.ch).1]; rfl
              have yp : wr.drew.cell? ⟨w.heap.size + 1, 0, none⟩ = some (.int .i64 p) := by
                show wr.cell? _ = _
                rw [cell_of_row wr _ 0 _ _ _ (HB.out _ gr.ch).2]
                rfl
              have ca := Go.Lib.hid (addf14_any (XBx.below gr.bx bd) (gr.ln.below bd) true (by
                rw [q3]
                have := DD.out.yl
                omega) HOK.out.t yp)
              have BD := Go.Lib.hid bd
              clear q1 q2 q3 bd gr hlt
              go_upto_region 13 with (fail)
              go_region_with (first | (refine (ca.out).mono ?_; rintro e w5 ⟨rfl, M5, hd5, g5⟩))
              all_goals
                go_wp2_with fail
                go_ret
                rw [HY.out]
                refine ⟨rfl, _, _, _, _, GrewC.from B2.out H.out (GR.out.trans (GrewC.from BD.out GR.out.ln g5)), DD.out.add OK.out HLP.out ht Q1.out ?_ ?_⟩
                · show setB D1.t true (addK (D1.t true) et p) false = _
                  rw [setB_ne _ _ (by decide), Q2.out, List.take_of_length_le (by rw [HTN.out]; exact Nat.le_refl _)]
                · show setB D1.t true _ true = _
                  rw [setB_at, Q3.out]
                  rfl
end

end Go.Proofs.YtiplfhmimpkplaaGreat.PnWalk

/-
  Contracts of the landed posting: upTo, Tag, Type, ofTypes.
-/
namespace Go.Proofs.YtiplfhmimpkplaaGreat.PnWalk
open Go.RowKit Go.Maps Go.Proofs.YtiplfhmimpkplaaGreat.MemRow Go.Proofs.YtiplfhmimpkplaaGreat.Ev Go.Proofs.YtiplfhmimpkplaaGreat.NameMath Go.Proofs.YtiplfhmimpkplaaGreat.NameWalk Go.Proofs.YtiplfhmimpkplaaGreat.EvWalk Go.Proofs.YtiplfhmimpkplaaGreat.NumMem Go.Proofs.YtiplfhmimpkplaaGreat.SmWalk Go.Proofs.YtiplfhmimpkplaaGreat.NMap Go.Proofs.YtiplfhmimpkplaaGreat.DkWalk Go.Proofs.YtiplfhmimpkplaaGreat.PoWalk Go.Proofs.YtiplfhmimpkplaaGreat.Qu Go.Proofs.YtiplfhmimpkplaaGreat.QuWalk

set_option maxHeartbeats 4000000 in
set_option maxRecDepth 100000 in
theorem upTo_any {A : Option Addr} {n c : Nat} {l : List Int} {w : World} (rd : RdI w A n c l) (hi : Inc l) (hn : n ≤ 1000000) (u : Int) :
    Calls Tryz.prog 88 #[.slice A n c, .int .i64 u] w fun e w' => ∃ m, e = .returned (.slice A m c) ∧ (∀ W, RdI W A n c l → RdI W A m c (upF u l)) ∧ m ≤ n ∧ ∃ q, w' = w.drewN q := by
  have hp : l.Pairwise (· ≤ ·) := hi.imp fun h => by omega
  have hln := rd.len
  have hv := verN_le hi u
  obtain ⟨qs, rs⟩ := slice_hi (k := 1) 57 3 Tryz.underlying57 elem_rising (by kernel_rfl) rd (m := verN l u) (by omega)
  have rs' : ∀ W, RdI W A n c l → RdI W A (verN l u) c (upF u l) := fun W r => by
    rw [upF_take hi]
    unfold RdI
    have e2 : nums (l.take (verN l u)) = (nums l).take (verN l u * 1) := by simp [nums, List.map_take]
    rw [e2]
    exact RdC.first r (by omega)
  have RS := Go.Lib.hid rs'
  have hcp := List.countP_le_length (p := fun x : Int => decide (x < u)) (l := l)
  have HV : Hid (verN l u = l.countP (· < u) + if u ∈ l then 1 else 0) := Go.Lib.hid rfl
  have hm : verN l u ≤ n := by omega
  clear rs' hi hv rs
  generalize verN l u = V at *
  generalize upF u l = ul at *
  go_enter Tryz.func88, Tryz.ntmps88
  go_wp2_with fail
  refine (search_any A n c l u w rd hn hp).mono ?_
  rintro e w1 ⟨rfl, q, rfl⟩
  clear rd hp
  by_cases hu : u ∈ l
  · have hv := HV.out
    rw [if_pos hu] at hv
    rw [decide_eq_true hu]
    generalize l.countP (· < u) = cn at *
    subst hv
    clear HV hu
    have i1 : IntKind.i64.wrap ((cn : Int) + 1) = (cn : Int) + 1 := IntWalk.i64_in _ (by omega)
    have qs2 : ∀ W, (Instr.slice 57 (.slice A n c) none (some (.int .i64 ((cn : Int) + 1))) none).run Tryz.prog W = .ok (.slice A (cn + 1) c) W := qs
    clear qs
    go_wp2_with fail
    go_ret
    exact ⟨_, rfl, RS.out, hm, _, rfl⟩
  · have hv := HV.out
    rw [if_neg hu, Nat.add_zero] at hv
    rw [decide_eq_false hu]
    generalize l.countP (· < u) = cn at *
    subst hv
    clear HV hu
    go_wp2_with fail
    go_ret
    exact ⟨_, rfl, RS.out, hm, _, rfl⟩
section
variable {w : World} {F G : Nat → Prop} {g : Nat} {D : Dt} {mb : Bool → Nat} {M : Bool → DataW Hr} {hd : HdT} {L : Ls}
set_option maxRecDepth 100000 in
theorem DOf.inc (d : DOf D L) (ok : LOk L) (k : Ky) : Inc (lstD D k) := by
  match k with
  | none => show Inc D.all; rw [d.all]; exact posP_inc ok _
  | some (false, s) => show Inc (allP (D.t false) s); rw [d.tg]; exact posP_inc ok _
  | some (true, s) => show Inc (allP (D.t true) s); rw [d.ty]; exact posP_inc ok _
set_option maxRecDepth 100000 in
theorem DOf.le (d : DOf D L) (ok : LOk L) (k : Ky) : (lstD D k).length ≤ 400 := by
  have := ok.len
  match k with
  | none => show D.all.length ≤ _; rw [d.len]; exact this
  | some (false, s) => show (allP (D.t false) s).length ≤ _; rw [d.tg]; exact Nat.le_trans (posP_len _ _) this
  | some (true, s) => show (allP (D.t true) s).length ≤ _; rw [d.ty]; exact Nat.le_trans (posP_len _ _) this
set_option maxHeartbeats 4000000 in
set_option maxRecDepth 100000 in
theorem ofTypes_any (h : LnR w F G g D mb M hd) (d : DOf D L) (ok : LOk L) {T : Option Addr} {nT cT : Nat} {ts : List ByteArray} (rT : RdS w T nT cT ts) (hs : ∀ x ∈ ts, x.size ≤ maxLen) (u : Int) :
    Calls Tryz.prog 89 #[.pointer (some ⟨g, 0, none⟩), .slice T nT cT, .int .i64 u] w fun e w' => ∃ B m c, e = .returned (.slice B m c) ∧ OwnC 1 w' w.heap.size 3 B m c (nums (seP L u fun e => hasB ts e.t)) ∧ Below w.heap.size w w' := by
  have hnm := rT.le
  unfold maxLen at hnm
  have HTN := Go.Lib.hid rT.len
  have H := Go.Lib.hid h
  have DD := Go.Lib.hid d
  have OK := Go.Lib.hid ok
  have RT := Go.Lib.hid rT
  have HS := Go.Lib.hid hs
  have e0 : seP L u (fun e => hasB (ts.take 0) e.t) = [] := se_none L u fun _ => by simp [hasB]
  have O0 := Go.Lib.hid (show OwnC 1 w w.heap.size 3 none 0 0 (nums (seP L u fun e => hasB (ts.take 0) e.t)) by rw [e0]; exact OwnC.nil _ _)
  clear h d ok rT hs e0
  go_enter Tryz.func89, Tryz.ntmps89
  go_wp2_with fail
  go_loopw [7, 12] (fun ov i wr => ∃ (C : Option Addr) (m c j : Nat), ov = .slice C m c ∧ i = .int .i64 (j : Int) ∧ j ≤ nT ∧ Hid (OwnC 1 wr w.heap.size 3 C m c (nums (seP L u fun e => hasB (ts.take j) e.t))) ∧ Below w.heap.size w wr) (fun _ i _ => nT - (intOf i).toNat)
  case atStart => exact ⟨_, _, _, 0, rfl, rfl, Nat.zero_le _, O0, Below.refl _ _⟩
  case round =>
    obtain ⟨C, m, c, j, rfl, rfl, hj, HO, hB⟩ := hrel
    clear O0
    by_cases hlt : j < nT
    · have hr := H.out.below hB
      obtain ⟨bt, ot, rfl, _, kt⟩ := RdS.at_ (RdC.below RT.out hB) (by omega)
      have yt := kt j hlt
      have hsz : (ts.getD j ByteArray.empty).size ≤ maxLen := HS.out _ (mem_getD ts j (by rw [HTN.out]; exact hlt))
      have k2 := hr.c2
      have ql := hr.look true hsz
      obtain ⟨A, n, ca, e, rd, _⟩ := (hr.co.li (some (true, ts.getD j ByteArray.empty))).rd
      rw [e] at ql
      have hl2 := DD.out.le OK.out (some (true, ts.getD j ByteArray.empty))
      have hin := DD.out.inc OK.out (some (true, ts.getD j ByteArray.empty))
      have hnl := rd.len
      have RD := Go.Lib.hid rd
      have CU := Go.Lib.hid (upTo_any rd hin (by omega) u)
      have e2 : upF u (lstD D (some (true, ts.getD j ByteArray.empty))) = upF u (typP L (ts.getD j ByteArray.empty)) := congrArg _ (DD.out.ty _)
      rw [e2] at CU
      have hst := se_types OK.out u ts (k := j) (by rw [HTN.out]; exact hlt)
      have HST := Go.Lib.hid hst
      have hin2 : Inc (upF u (typP L (ts.getD j ByteArray.empty))) := up_inc (posP_inc OK.out _) u
      have HI2 := Go.Lib.hid hin2
      have HI1 := Go.Lib.hid (se_inc OK.out u fun e => hasB (ts.take j) e.t)
      have rO := OwnC.rd HO.out
      have hm : m ≤ 1000 := by
        have := RdI.len rO
        have := se_len L u fun e => hasB (ts.take j) e.t
        have := OK.out.len
        omega
      have hn1 : n ≤ 1000 := by omega
      have RO := Go.Lib.hid rO
      have i1 : (j : Int) < nT := by omega
      clear kt hr hsz e rd hl2 hin e2 hst hin2 rO HO hnl
      generalize ts.getD j ByteArray.empty = t at *
      generalize upF u (typP L t) = lt at *
      go_wp2_with (first
        | (go_at_call 88; refine (CU.out).mono ?_; rintro e w4 ⟨m4, rfl, r4, h4, q, rfl⟩; have bq := bel_dn (Below.refl wr.heap.size wr) q)
        | (go_at_call 63; refine (either_any (RdC.below RO.out bq) (RdC.below (r4 _ RD.out) bq) HI1.out HI2.out hm (by omega)).mono ?_; rintro e w5 ⟨C5, m5, c5, rfl, o5, b5⟩))
      rw [HST.out] at o5
      have B5 := below_chain hB (bq.trans b5)
      go_roundw
      case rel => exact ⟨C5, m5, c5, j + 1, rfl, by go_num, by omega, Go.Lib.hid (own_low hB.size o5), B5⟩
      case measure => simp [intOf]; omega
    · obtain rfl : nT = j := by omega
      have i1 : ¬ (nT : Int) < nT := by omega
      have he : ts.take nT = ts := List.take_of_length_le (by rw [HTN.out]; exact Nat.le_refl _)
      rw [he] at HO
      clear he hlt
      go_wp2_with fail
      go_ret
      exact ⟨_, _, _, rfl, HO.out, hB⟩
end

end Go.Proofs.YtiplfhmimpkplaaGreat.PnWalk

/-
  Contracts of the landed posting, its lists a part of an index: ofTypes.
-/
namespace Go.Proofs.YtiplfhmimpkplaaGreat.PnWalk
open Go.RowKit Go.Maps Go.Proofs.YtiplfhmimpkplaaGreat.MemRow Go.Proofs.YtiplfhmimpkplaaGreat.Ev Go.Proofs.YtiplfhmimpkplaaGreat.NameMath Go.Proofs.YtiplfhmimpkplaaGreat.NameWalk Go.Proofs.YtiplfhmimpkplaaGreat.EvWalk Go.Proofs.YtiplfhmimpkplaaGreat.NumMem Go.Proofs.YtiplfhmimpkplaaGreat.SmWalk Go.Proofs.YtiplfhmimpkplaaGreat.NMap Go.Proofs.YtiplfhmimpkplaaGreat.DkWalk Go.Proofs.YtiplfhmimpkplaaGreat.PoWalk Go.Proofs.YtiplfhmimpkplaaGreat.Qu Go.Proofs.YtiplfhmimpkplaaGreat.QuWalk Go.Proofs.YtiplfhmimpkplaaGreat.InWalk

section
variable {w : World} {F G : Nat → Prop} {g : Nat} {r m0 lp : Value} {D : Dt} {mb : Option (Bool → Nat)} {M : Bool → DataW Hr} {hd : HdT} {L : Ls}
set_option maxHeartbeats 4000000 in
set_option maxRecDepth 100000 in
theorem ofTypes14_any (hx : LBx w g r m0 lp mb hd) (h : LnC w F G D mb M hd) (d : DOf D L) (ok : LOk L) {T : Option Addr} {nT cT : Nat} {ts : List ByteArray} (rT : RdS w T nT cT ts) (hs : ∀ x ∈ ts, x.size ≤ maxLen) (u : Int) :
    Calls Tryz.prog 89 #[.pointer (some ⟨g, 3, none⟩), .slice T nT cT, .int .i64 u] w fun e w' => ∃ B m c, e = .returned (.slice B m c) ∧ OwnC 1 w' w.heap.size 3 B m c (nums (seP L u fun e => hasB ts e.t)) ∧ Below w.heap.size w w' := by
  have hnm := rT.le
  unfold maxLen at hnm
  have HTN := Go.Lib.hid rT.len
  have H := Go.Lib.hid h
  have HX := Go.Lib.hid hx
  have DD := Go.Lib.hid d
  have OK := Go.Lib.hid ok
  have RT := Go.Lib.hid rT
  have HS := Go.Lib.hid hs
  have e0 : seP L u (fun e => hasB (ts.take 0) e.t) = [] := se_none L u fun _ => by simp [hasB]
  have O0 := Go.Lib.hid (show OwnC 1 w w.heap.size 3 none 0 0 (nums (seP L u fun e => hasB (ts.take 0) e.t)) by rw [e0]; exact OwnC.nil _ _)
  clear h hx d ok rT hs e0
  go_enter Tryz.func89, Tryz.ntmps89
  go_wp2_with fail
  go_loopw [7, 12] (fun ov i wr => ∃ (C : Option Addr) (m c j : Nat), ov = .slice C m c ∧ i = .int .i64 (j : Int) ∧ j ≤ nT ∧ Hid (OwnC 1 wr w.heap.size 3 C m c (nums (seP L u fun e => hasB (ts.take j) e.t))) ∧ Below w.heap.size w wr) (fun _ i _ => nT - (intOf i).toNat)
  case atStart => exact ⟨_, _, _, 0, rfl, rfl, Nat.zero_le _, O0, Below.refl _ _⟩
  case round =>
    obtain ⟨C, m, c, j, rfl, rfl, hj, HO, hB⟩ := hrel
    clear O0
    by_cases hlt : j < nT
    · have hr := H.out.below hB
      obtain ⟨bt, ot, rfl, _, kt⟩ := RdS.at_ (RdC.below RT.out hB) (by omega)
      have yt := kt j hlt
      have hsz : (ts.getD j ByteArray.empty).size ≤ maxLen := HS.out _ (mem_getD ts j (by rw [HTN.out]; exact hlt))
      have k2 : wr.cell? ⟨g, 5, none⟩ = some (.map (mapAt mb true)) := XBx.c5 (XBx.below HX.out hB)
      have ql := hr.look true hsz
      obtain ⟨A, n, ca, e, rd, _⟩ := (hr.co.li (some (true, ts.getD j ByteArray.empty))).rd
      rw [e] at ql
      have hl2 := DD.out.le OK.out (some (true, ts.getD j ByteArray.empty))
      have hin := DD.out.inc OK.out (some (true, ts.getD j ByteArray.empty))
      have hnl := rd.len
      have RD := Go.Lib.hid rd
      have CU := Go.Lib.hid (upTo_any rd hin (by omega) u)
      have e2 : upF u (lstD D (some (true, ts.getD j ByteArray.empty))) = upF u (typP L (ts.getD j ByteArray.empty)) := congrArg _ (DD.out.ty _)
      rw [e2] at CU
      have hst := se_types OK.out u ts (k := j) (by rw [HTN.out]; exact hlt)
      have HST := Go.Lib.hid hst
      have hin2 : Inc (upF u (typP L (ts.getD j ByteArray.empty))) := up_inc (posP_inc OK.out _) u
      have HI2 := Go.Lib.hid hin2
      have HI1 := Go.Lib.hid (se_inc OK.out u fun e => hasB (ts.take j) e.t)
      have rO := OwnC.rd HO.out
      have hm : m ≤ 1000 := by
        have := RdI.len rO
        have := se_len L u fun e => hasB (ts.take j) e.t
        have := OK.out.len
        omega
      have hn1 : n ≤ 1000 := by omega
      have RO := Go.Lib.hid rO
      have i1 : (j : Int) < nT := by omega
      clear kt hr hsz e rd hl2 hin e2 hst hin2 rO HO hnl
      generalize ts.getD j ByteArray.empty = t at *
      generalize upF u (typP L t) = lt at *
      go_wp2_with (first
        | (go_at_call 88; refine (CU.out).mono ?_; rintro e w4 ⟨m4, rfl, r4, h4, q, rfl⟩; have bq := bel_dn (Below.refl wr.heap.size wr) q)
        | (go_at_call 63; refine (either_any (RdC.below RO.out bq) (RdC.below (r4 _ RD.out) bq) HI1.out HI2.out hm (by omega)).mono ?_; rintro e w5 ⟨C5, m5, c5, rfl, o5, b5⟩))
      rw [HST.out] at o5
      have B5 := below_chain hB (bq.trans b5)
      go_roundw
      case rel => exact ⟨C5, m5, c5, j + 1, rfl, by go_num, by omega, Go.Lib.hid (own_low hB.size o5), B5⟩
      case measure => simp [intOf]; omega
    · obtain rfl : nT = j := by omega
      have i1 : ¬ (nT : Int) < nT := by omega
      have he : ts.take nT = ts := List.take_of_length_le (by rw [HTN.out]; exact Nat.le_refl _)
      rw [he] at HO
      clear he hlt
      go_wp2_with fail
      go_ret
      exact ⟨_, _, _, rfl, HO.out, hB⟩
end

end Go.Proofs.YtiplfhmimpkplaaGreat.PnWalk

/-
  Contracts of the landed posting: clause.
-/
namespace Go.Proofs.YtiplfhmimpkplaaGreat.PnWalk
open Go.RowKit Go.Maps Go.Proofs.YtiplfhmimpkplaaGreat.MemRow Go.Proofs.YtiplfhmimpkplaaGreat.Ev Go.Proofs.YtiplfhmimpkplaaGreat.NameMath Go.Proofs.YtiplfhmimpkplaaGreat.NameWalk Go.Proofs.YtiplfhmimpkplaaGreat.EvWalk Go.Proofs.YtiplfhmimpkplaaGreat.NumMem Go.Proofs.YtiplfhmimpkplaaGreat.SmWalk Go.Proofs.YtiplfhmimpkplaaGreat.NMap Go.Proofs.YtiplfhmimpkplaaGreat.DkWalk Go.Proofs.YtiplfhmimpkplaaGreat.PoWalk Go.Proofs.YtiplfhmimpkplaaGreat.Qu Go.Proofs.YtiplfhmimpkplaaGreat.QuWalk

set_option maxRecDepth 100000 in
theorem rising_info : (Tryz.prog.info? 57).map (fun i => (i.zero, i.size, i.bytes)) = some (some (.slice none 0 0), 1, 24) := by kernel_rfl
set_option maxRecDepth 100000 in
theorem elem_asked : Tryz.prog.elem 125 = 57 := by kernel_rfl
/-- The cells cs are rows that read as xs. -/
def RsC (w : World) : List (List Int) → List Value → Prop
  | [], cs => cs = []
  | x :: xs, cs => ∃ A n c cs', cs = .slice A n c :: cs' ∧ RdI w A n c x ∧ RsC w xs cs'
set_option maxRecDepth 100000 in
theorem RsC.below {w w' : World} (hb : Below w.heap.size w w') : ∀ (xs : List (List Int)) (cs : List Value), RsC w xs cs → RsC w' xs cs
  | [], _, k => k
  | _ :: xs, _, ⟨A, n, c, cs', e, r, k⟩ => ⟨A, n, c, cs', e, RdC.below r hb, RsC.below hb xs cs' k⟩
set_option maxRecDepth 100000 in
theorem RsC.snoc {w : World} {x : List Int} {A : Option Addr} {n c : Nat} (r : RdI w A n c x) : ∀ (xs : List (List Int)) (cs : List Value), RsC w xs cs → RsC w (xs ++ [x]) (cs ++ [.slice A n c])
  | [], cs, h => by
    obtain rfl : cs = [] := h
    exact ⟨A, n, c, [], rfl, r, rfl⟩
  | y :: xs, cs, ⟨A1, n1, c1, cs', hc, r1, h⟩ => by
    subst hc
    exact ⟨A1, n1, c1, cs' ++ [.slice A n c], rfl, r1, RsC.snoc r xs cs' h⟩
set_option maxRecDepth 100000 in
theorem RsC.len {w : World} : ∀ (xs : List (List Int)) (cs : List Value), RsC w xs cs → cs.length = xs.length
  | [], cs, h => by
    obtain rfl : cs = [] := h
    rfl
  | _ :: xs, _, ⟨_, _, _, cs', e, _, k⟩ => by
    subst e
    rw [List.length_cons, List.length_cons, RsC.len xs cs' k]
set_option maxRecDepth 100000 in
theorem RsC.at_ {w : World} : ∀ (xs : List (List Int)) (cs : List Value), RsC w xs cs → ∀ i, i < xs.length → ∃ A n c, cs[i]? = some (.slice A n c) ∧ RdI w A n c (xs.getD i [])
  | [], _, _, i, hi => by simp at hi
  | x :: xs, cs, ⟨A, n, c, cs', hc, r, h⟩, i, hi => by
    subst hc
    cases i with
    | zero => exact ⟨A, n, c, rfl, r⟩
    | succ i =>
      obtain ⟨A1, n1, c1, q, r1⟩ := RsC.at_ xs cs' h i (by simpa using hi)
      exact ⟨A1, n1, c1, by simpa using q, by simpa using r1⟩
set_option maxRecDepth 100000 in
theorem RsC.one {w : World} : ∀ (xs : List (List Int)) (cs : List Value), RsC w xs cs → ∀ v ∈ cs, v.oneCell' = true
  | [], cs, h => by
    obtain rfl : cs = [] := h
    simp
  | _ :: xs, cs, ⟨A, n, c, cs', hc, _, h⟩ => by
    subst hc
    intro v hv
    rcases List.mem_cons.1 hv with rfl | hv
    · rfl
    · exact RsC.one xs cs' h v hv
/-- The rows that a clause asks for, in a row of the call's own; they read as world w0 has them. -/
def AskR (w0 wr : World) (base : Nat) (A : Option Addr) (n c : Nat) (xs : List (List Int)) : Prop := ∃ cs, OwnC 1 wr base 57 A n c cs ∧ RsC w0 xs cs
set_option maxRecDepth 100000 in
theorem AskR.len {w0 wr : World} {base : Nat} {A : Option Addr} {n c : Nat} {xs : List (List Int)} (h : AskR w0 wr base A n c xs) : xs.length = n := by
  obtain ⟨cs, o, r⟩ := h
  have := OwnC.len o
  have := r.len
  omega
set_option maxRecDepth 100000 in
theorem own_far8 {k k' : Nat} {w : World} {base base' : Nat} {t t' : TypeId} {A A' : Option Addr} {n n' cap cap' : Nat} {cs cs' : List Value} (h : OwnC k w base t A n cap cs) (h' : OwnC k' w base' t' A' n' cap' cs') (ht : t ≠ t') : ∀ a, A = some a → some a.block ≠ A'.map (·.block) := by
  rintro a rfl e
  cases A' with
  | none => cases e
  | some a' =>
    simp only [Option.map_some, Option.some.injEq] at e
    rcases h.2 with ⟨hv, _⟩ | ⟨g, c, cur, hv, _, hg, _⟩
    · cases hv
    · rcases h'.2 with ⟨hv', _⟩ | ⟨g', c', cur', hv', _, hg', _⟩
      · cases hv'
      · injection hv with e1
        injection e1 with e1
        injection hv' with e2
        injection e2 with e2
        subst e1 e2
        simp only at e
        subst e
        rw [hg] at hg'
        injection hg' with hg'
        injection hg' with _ e3
        exact ht e3
def seL (L : Ls) (u : Int) (ps : List (Ev → Bool)) : List (List Int) := ps.map fun p => seP L u p
theorem seL_len (L : Ls) (u : Int) (ps : List (Ev → Bool)) : (seL L u ps).length = ps.length := by unfold seL; rw [List.length_map]
theorem seL_snoc (L : Ls) (u : Int) (ps : List (Ev → Bool)) (p : Ev → Bool) : seL L u (ps ++ [p]) = seL L u ps ++ [seP L u p] := by unfold seL; rw [List.map_append]; rfl
def tagPs (ts : List ByteArray) : List (Ev → Bool) := ts.map fun t e => hasB e.tags t
set_option maxRecDepth 100000 in
theorem tagPs_step (ts : List ByteArray) {j : Nat} (h : j < ts.length) : tagPs (ts.take (j + 1)) = tagPs (ts.take j) ++ [fun e => hasB e.tags (ts.getD j ByteArray.empty)] := by
  have e : ts.take (j + 1) = ts.take j ++ [ts.getD j ByteArray.empty] := by
    rw [List.take_add_one]
    simp [List.getD, List.getElem?_eq_getElem h]
  unfold tagPs
  rw [e, List.map_append]
  rfl
set_option maxRecDepth 100000 in
theorem seL_get {L : Ls} {u : Int} {ps : List (Ev → Bool)} {i : Nat} (h : i < ps.length) : ∃ p, (seL L u ps).getD i [] = seP L u p ∧ ps.take (i + 1) = ps.take i ++ [p] := by
  refine ⟨ps[i], ?_, ?_⟩
  · unfold seL
    simp [List.getD, List.getElem?_eq_getElem h]
  · rw [List.take_add_one]
    simp [List.getElem?_eq_getElem h]

section
variable {w : World} {F G : Nat → Prop} {g : Nat} {D : Dt} {mb : Bool → Nat} {M : Bool → DataW Hr} {hd : HdT} {L : Ls}
set_option maxHeartbeats 4000000 in
set_option maxRecDepth 100000 in
theorem clause13_any (h : LnR w F G g D mb M hd) (d : DOf D L) (ok : LOk L) {c : Cl} {T Y : Option Addr} {nT cT nY cY : Nat} (rT : RdS w T nT cT c.tags) (rY : RdS w Y nY cY c.types) (hsT : ∀ x ∈ c.tags, x.size ≤ maxLen) (hsY : ∀ x ∈ c.types, x.size ≤ maxLen) (hnT : nT ≤ 1000) (u : Int) :
    Calls Tryz.prog 64 #[.pointer (some ⟨g, 0, none⟩), .agg #[.slice T nT cT, .slice Y nY cY], .int .i64 u] w fun e w' => ∃ B m k, e = .returned (.slice B m k) ∧ RdI w' B m k (seP L u (clauseB c)) ∧ Below w.heap.size w w' := by
  obtain ⟨ts, ys⟩ := c
  simp only at rT rY hsT hsY
  have b1 : Below w.heap.size w (w.alloc (.cells #[.slice T nT cT, .slice Y nY cY] 87)) := (Below.refl _ _).alloc (Nat.le_refl _) _
  have x1 := heap_alloc_new w (.cells #[.slice T nT cT, .slice Y nY cY] 87)
  have hnY := rY.le
  unfold maxLen at hnY
  have s1 : (w.alloc (.cells #[.slice T nT cT, .slice Y nY cY] 87)).heap.size = w.heap.size + 1 := by simp
  have HTN := Go.Lib.hid rT.len
  have HYN := Go.Lib.hid rY.len
  have H := Go.Lib.hid (h.below b1)
  have DD := Go.Lib.hid d
  have OK := Go.Lib.hid ok
  have RT := Go.Lib.hid (RdC.below rT b1)
  have RY := Go.Lib.hid (RdC.below rY b1)
  have HST := Go.Lib.hid hsT
  have HSY := Go.Lib.hid hsY
  clear h d ok rT rY hsT hsY
  go_enter Tryz.func64, Tryz.ntmps64
  go_upto_region 1 with (fail)
  have HX := Go.Lib.hid (fun (wx : World) (b : Below (w.alloc (.cells #[.slice T nT cT, .slice Y nY cY] 87)).heap.size (w.alloc (.cells #[.slice T nT cT, .slice Y nY cY] 87)) wx) => (b.block w.heap.size (by omega)).trans x1)
  have y0 : (w.alloc (.cells #[.slice T nT cT, .slice Y nY cY] 87)).cell? ⟨w.heap.size, 0, none⟩ = some (.slice T nT cT) := by rw [cell_of_row _ _ 0 _ _ _ x1]; rfl
  have B1 := Go.Lib.hid b1
  have S1 := Go.Lib.hid s1
  clear b1 x1 s1
  generalize w.alloc (.cells #[.slice T nT cT, .slice Y nY cY] 87) = w1 at *
  have A0 := Go.Lib.hid (show AskR w1 w1 w1.heap.size none 0 0 (seL L u (tagPs (ts.take 0))) from ⟨[], OwnC.nil _ _, rfl⟩)
  go_upto_region 2 with (fail)
  go_wp2_with fail
  go_loopw [7, 16] (fun av i wr => ∃ (A : Option Addr) (n c j : Nat), av = .slice A n c ∧ i = .int .i64 (j : Int) ∧ j ≤ nT ∧ Hid (AskR w1 wr w1.heap.size A n c (seL L u (tagPs (ts.take j)))) ∧ Below w1.heap.size w1 wr) (fun _ i _ => nT - (intOf i).toNat)
  case atStart => exact ⟨none, 0, 0, 0, rfl, rfl, Nat.zero_le _, A0, Below.refl _ _⟩
  case round =>
    obtain ⟨A, n, c, j, rfl, rfl, hj, HA, hB⟩ := hrel
    clear A0 y0
    have hn : n = j := by
      rw [← HA.out.len, seL_len]
      unfold tagPs
      rw [List.length_map, List.length_take, HTN.out]
      omega
    by_cases hlt : j < nT
    · have hr := H.out.below hB
      obtain ⟨bt, ot, rfl, _, kt⟩ := RdS.at_ (RdC.below RT.out hB) (by omega)
      have yt := kt j hlt
      have hjl : j < ts.length := by rw [HTN.out]; exact hlt
      have hsz : (ts.getD j ByteArray.empty).size ≤ maxLen := HST.out _ (mem_getD ts j hjl)
      have k2 := hr.c1
      have ql := hr.look false hsz
      obtain ⟨Al, nl, cl, e, rd1, _⟩ := (H.out.co.li (some (false, ts.getD j ByteArray.empty))).rd
      rw [e] at ql
      have rd := RdC.below rd1 hB
      have hl2 := DD.out.le OK.out (some (false, ts.getD j ByteArray.empty))
      have hin := DD.out.inc OK.out (some (false, ts.getD j ByteArray.empty))
      have hnl := rd1.len
      have CU := Go.Lib.hid (upTo_any rd hin (by omega) u)
      have RD1 := Go.Lib.hid rd1
      have e2 : upF u (lstD D (some (false, ts.getD j ByteArray.empty))) = seP L u (fun e => hasB e.tags (ts.getD j ByteArray.empty)) := congrArg _ (DD.out.tg _)
      rw [e2] at CU
      have HSL := Go.Lib.hid (show seL L u (tagPs (ts.take (j + 1))) = seL L u (tagPs (ts.take j)) ++ [seP L u (fun e => hasB e.tags (ts.getD j ByteArray.empty))] by rw [tagPs_step ts hjl, seL_snoc])
      have i1 : (j : Int) < nT := by omega
      obtain ⟨cs, oc, rc⟩ := HA.out
      have RC := Go.Lib.hid rc
      have OC := Go.Lib.hid oc
      have HN := Go.Lib.hid hn
      clear kt hr hsz e rd rd1 hl2 hin e2 hnl HA hjl oc rc hn
      generalize seP L u (fun e => hasB e.tags (ts.getD j ByteArray.empty)) = sj at *
      generalize lstD D (some (false, ts.getD j ByteArray.empty)) = lj at *
      generalize ts.getD j ByteArray.empty = t at *
      generalize seL L u (tagPs (ts.take j)) = xs at *
      go_wp2_with (first
        | (go_at_call 88; refine (CU.out).mono ?_; rintro e w4 ⟨m4, rfl, r4, h4, q, rfl⟩; have B5 := bel_dn hB q; have o5 := OC.out.below (w' := wr.drewN q) (bel_dn (Below.refl _ _) q); have R4 := Go.Lib.hid (r4 _ RD1.out); clear r4 hB k2 ql yt OC CU; generalize wr.drewN q = w5 at *; have al := (Below.refl w5.heap.size w5).alloc (Nat.le_refl _) (.cells #[.slice Al m4 cl] 57); have d1 : RdC 1 (w5.alloc (.cells #[.slice Al m4 cl] 57)) (some ⟨w5.heap.size, 0, none⟩) 1 1 [.slice Al m4 cl] := RdC.new w5 57 [.slice Al m4 cl] rfl (by decide); have o6 := o5.below al)
        | (at_builtin; refine wpList_append_cells rfl (.tmp 20) (.tmp 29) 125 rfl 57 (.slice none 0 0) 24 Tryz.underlying125 rising_info rfl (by decide) rfl rfl o6 d1 (fun v hv => by rw [List.mem_singleton] at hv; rw [hv]; rfl) (by have := HN.out; unfold maxLen; omega) (by have := HN.out; omega) (Nat.le_trans B5.size al.size) ?_; intro A8 c8 w8 o8 g8 _; have b8 := below_grown_own o6 (B5.trans (al.mono B5.size)) g8 (Nat.le_trans B5.size al.size)))
      go_roundw
      case rel => exact ⟨A8, n + 1, c8, j + 1, rfl, by go_num, by omega, Go.Lib.hid (by rw [HSL.out]; exact ⟨_, o8, RsC.snoc R4.out _ _ RC.out⟩), b8⟩
      case measure => simp [intOf]; omega
    · obtain rfl : nT = j := by omega
      have i1 : ¬ (nT : Int) < nT := by omega
      have he : ts.take nT = ts := List.take_of_length_le (by rw [HTN.out]; exact Nat.le_refl _)
      rw [he] at HA
      have HN := Go.Lib.hid hn
      go_upto_region 7 with (fail)
      clear he hlt hn i1 hj
      have ye : wr.cell? ⟨w.heap.size, 1, none⟩ = some (.slice Y nY cY) := by rw [cell_of_row wr _ 1 _ _ _ (HX.out _ hB)]; rfl
      go_upto_if 35 with (fail)
      go_cut [7] (fun v wx => ∃ (A : Option Addr) (n c : Nat), v = .slice A n c ∧ Hid (AskR wx wx w1.heap.size A n c (seL L u (psF ⟨ts, ys⟩))) ∧ Below w1.heap.size w1 wx)
      case first =>
        obtain ⟨cs, oc, rc⟩ := HA.out
        by_cases h0 : nY = 0
        · have hy : ys = [] := List.eq_nil_of_length_eq_zero (by rw [HYN.out]; exact h0)
          have i0 : ¬ (0 : Int) < nY := by omega
          have j0 : decide (0 < nY) = false := decide_eq_false (by omega)
          have j1 : decide ((nY : Int) > 0) = false := decide_eq_false i0
          have HQ := Go.Lib.hid (show seL L u (psF ⟨ts, ys⟩) = seL L u (tagPs ts) by subst hy; unfold psF tagPs; simp)
          have RC := Go.Lib.hid (RsC.below hB _ _ rc)
          have OC := Go.Lib.hid oc
          clear hy h0 HA oc rc
          go_wp2_with fail
          go_meet
          exact ⟨A, n, c, rfl, Go.Lib.hid (by rw [HQ.out]; exact ⟨cs, OC.out, RC.out⟩), hB⟩
        · have hy : ¬ ys = [] := fun e => h0 (by rw [← HYN.out, e]; rfl)
          have i0 : (0 : Int) < nY := by omega
          have j0 : decide (0 < nY) = true := decide_eq_true (by omega)
          have j1 : decide ((nY : Int) > 0) = true := decide_eq_true i0
          have HQ := Go.Lib.hid (show seL L u (psF ⟨ts, ys⟩) = seL L u (tagPs ts) ++ [seP L u fun e => hasB ys e.t] by unfold psF; rw [if_neg hy, seL_snoc]; rfl)
          have CO := Go.Lib.hid (ofTypes_any (H.out.below hB) DD.out OK.out (RdC.below RY.out hB) HSY.out u)
          have RC := Go.Lib.hid (fun wx (b : Below w1.heap.size w1 wx) => RsC.below b _ _ rc)
          have OC := Go.Lib.hid oc
          clear hy h0 HA oc rc
          generalize seP L u (fun e => hasB ys e.t) = sj at *
          generalize seL L u (tagPs ts) = xs at *
          go_wp2_with (first
            | (go_at_call 89; refine (CO.out).mono ?_; rintro e w5 ⟨C5, m5, c5, rfl, p5, b5⟩; have B5 := below_chain hB b5; have o5 := OC.out.below b5; clear hB b5 ye OC CO; have al := (Below.refl w5.heap.size w5).alloc (Nat.le_refl _) (.cells #[.slice C5 m5 c5] 57); have d1 : RdC 1 (w5.alloc (.cells #[.slice C5 m5 c5] 57)) (some ⟨w5.heap.size, 0, none⟩) 1 1 [.slice C5 m5 c5] := RdC.new w5 57 [.slice C5 m5 c5] rfl (by decide); have o6 := o5.below al; have P6 := Go.Lib.hid (OwnC.below p5 al))
            | (at_builtin; refine wpList_append_cells rfl (.tmp 36) (.tmp 42) 125 rfl 57 (.slice none 0 0) 24 Tryz.underlying125 rising_info rfl (by decide) rfl rfl o6 d1 (fun v hv => by rw [List.mem_singleton] at hv; rw [hv]; rfl) (by have := HN.out; unfold maxLen; omega) (by have := HN.out; omega) (Nat.le_trans B5.size al.size) ?_; intro A8 c8 w8 o8 g8 _; have b8 := below_grown_own o6 (B5.trans (al.mono B5.size)) g8 (Nat.le_trans B5.size al.size)))
          have p8 := P6.out.grown g8 (own_far8 P6.out o6 (by decide))
          go_meet
          exact ⟨A8, n + 1, c8, rfl, Go.Lib.hid (by rw [HQ.out]; exact ⟨_, o8, RsC.snoc (OwnC.rd p8) _ _ (RC.out _ b8)⟩), b8⟩
      case rest =>
        obtain ⟨A2, n2, c2, rfl, HA2, hB2⟩ := hcut
        have hn2 : n2 = (psF ⟨ts, ys⟩).length := by rw [← HA2.out.len, seL_len]
        have hcl : seP L u (clauseB ⟨ts, ys⟩) = seP L u (conF (psF ⟨ts, ys⟩)) := by rw [con_psF]
        have BW := Go.Lib.hid (B1.out.trans (hB2.mono B1.out.size))
        clear HA ye HN
        by_cases h0 : n2 = 0
        · have hr := H.out.below hB2
          have k0 := hr.c0
          obtain ⟨Al, nl, cl, e, rd, _⟩ := (hr.co.li none).rd
          rw [e] at k0
          have hl2 := DD.out.le OK.out none
          have hin := DD.out.inc OK.out none
          have hnl := rd.len
          have hps : psF ⟨ts, ys⟩ = [] := List.eq_nil_of_length_eq_zero (by omega)
          have e2 : upF u (lstD D none) = seP L u (clauseB ⟨ts, ys⟩) := by
            rw [hcl, hps, con_none]
            exact congrArg _ DD.out.all
          have RD := Go.Lib.hid rd
          have CU := Go.Lib.hid (upTo_any rd hin (by omega) u)
          rw [e2] at CU
          have i0 : ((n2 : Int) == 0) = true := by rw [beq_iff_eq]; omega
          clear hr e rd hl2 hin hnl hps e2 hcl hn2 HA2 hB hB2 h0
          go_wp2_with (refine (CU.out).mono ?_; rintro e w4 ⟨m4, rfl, r4, h4, q, rfl⟩)
          go_ret
          exact ⟨_, _, _, rfl, RdC.drewN (r4 _ RD.out) q, bel_dn BW.out q⟩
        · obtain ⟨cs, oc, rc⟩ := HA2.out
          have oc' := OwnC.rd oc
          obtain ⟨p0, e0, t0⟩ := seL_get (L := L) (u := u) (ps := psF ⟨ts, ys⟩) (i := 0) (by omega)
          obtain ⟨A0, m0, k0, q0, r0⟩ := RsC.at_ _ _ rc 0 (by rw [seL_len]; omega)
          rw [e0] at r0
          obtain ⟨A3, q3, d3⟩ := slice_lo (P := Tryz.prog) 125 57 Tryz.underlying125 elem_asked (by kernel_rfl) oc' (m := 1) (by omega)
          obtain ⟨b2, o2, rfl, _, kc⟩ := RdC.at_ oc' (by decide) (by omega)
          have y0 : wc.cell? ⟨b2, o2, none⟩ = some (.slice A0 m0 k0) := kc 0 _ q0
          have q3 : ∀ W, (Instr.slice 125 (.slice (some ⟨b2, o2, none⟩) n2 c2) (some (.int .i64 1)) none none).run Tryz.prog W = .ok (.slice A3 (n2 - 1) (c2 - 1)) W := q3
          have hst : seP L u p0 = seP L u (conF ((psF ⟨ts, ys⟩).take 1)) := by rw [t0, List.take_zero, List.nil_append]; exact con_one L u p0
          rw [hst] at r0
          have R0 := Go.Lib.hid r0
          have RC := Go.Lib.hid rc
          have D3 := Go.Lib.hid d3
          have HCL := Go.Lib.hid hcl
          have HN2 := Go.Lib.hid hn2
          have i0 : ((n2 : Int) == 0) = false := by rw [beq_eq_false_iff_ne]; omega
          have i1 : (0 : Int) < n2 := by omega
          have i2 : 0 < n2 := by omega
          have hle : n2 ≤ c2 := oc'.le_cap
          have hmx : n2 ≤ 2 ^ 63 - 1 := by have := oc'.le; unfold maxLen at this; exact this
          clear oc oc' rc kc q0 e0 t0 r0 hst d3 hcl hn2 HA2 hB hB2 h0
          go_upto_region 12 with (fail)
          go_wp2_with fail
          go_loopw [10, 59] (fun ov i wr => ∃ (C : Option Addr) (m k j : Nat), ov = .slice C m k ∧ i = .int .i64 (j : Int) ∧ j ≤ n2 - 1 ∧ Hid (RdI wr C m k (seP L u (conF ((psF ⟨ts, ys⟩).take (j + 1))))) ∧ Below wc.heap.size wc wr) (fun _ i _ => n2 - 1 - (intOf i).toNat)
          case atStart => exact ⟨A0, m0, k0, 0, rfl, rfl, Nat.zero_le _, R0, Below.refl _ _⟩
          case round =>
            obtain ⟨C, m, k, j, rfl, rfl, hj, HR, hB⟩ := hrel
            clear R0 y0 q3
            by_cases hlt : j < n2 - 1
            · obtain ⟨p1, e1, t1⟩ := seL_get (L := L) (u := u) (ps := psF ⟨ts, ys⟩) (i := j + 1) (by rw [← HN2.out]; omega)
              obtain ⟨A1, m1, k1, q1, r1⟩ := RsC.at_ _ _ RC.out (j + 1) (by rw [seL_len, ← HN2.out]; omega)
              rw [e1] at r1
              obtain ⟨b3, o3, rfl, _, kc⟩ := RdC.at_ D3.out (by decide) (by omega)
              have y3 := kc j (.slice A1 m1 k1) (by rw [List.getElem?_drop, show 1 * 1 + j = j + 1 by omega]; exact q1)
              have y3 := bcell hB y3
              have hst := con_step OK.out u ((psF ⟨ts, ys⟩).take (j + 1)) p1
              rw [← t1] at hst
              have hm : m ≤ 1000 := by
                have := RdI.len HR.out
                have := se_len L u (conF ((psF ⟨ts, ys⟩).take (j + 1)))
                have := OK.out.len
                omega
              have hm1 : m1 ≤ 1000 := by
                have := RdI.len r1
                have := se_len L u p1
                have := OK.out.len
                omega
              have CB := Go.Lib.hid (both_any HR.out (RdC.below r1 hB) (se_inc OK.out u _) (se_inc OK.out u _) hm hm1)
              rw [hst] at CB
              have i3 : (j : Int) < ((n2 - 1 : Nat) : Int) := by omega
              clear e1 t1 q1 r1 kc hst hm hm1 HR
              go_wp2_with (refine (CB.out).mono ?_; rintro e w5 ⟨C5, m5, c5, rfl, o5, b5⟩)
              go_roundw
              case rel => exact ⟨C5, m5, c5, j + 1, rfl, by go_num, by omega, Go.Lib.hid (OwnC.rd o5), below_chain hB b5⟩
              case measure => simp [intOf]; omega
            · have hjn : j + 1 = n2 := by omega
              have i3 : ¬ (j : Int) < ((n2 - 1 : Nat) : Int) := by omega
              have HF := Go.Lib.hid (show seP L u (conF ((psF ⟨ts, ys⟩).take (j + 1))) = seP L u (clauseB ⟨ts, ys⟩) by rw [HCL.out, List.take_of_length_le (by rw [← HN2.out]; omega)])
              have BF := Go.Lib.hid (below_chain BW.out hB)
              clear hlt hjn hj
              go_wp2_with fail
              go_ret
              exact ⟨C, m, k, rfl, by rw [← HF.out]; exact HR.out, BF.out⟩
end

end Go.Proofs.YtiplfhmimpkplaaGreat.PnWalk

/-
  Contracts of the landed posting, its lists a part of an index: clause.
-/
namespace Go.Proofs.YtiplfhmimpkplaaGreat.PnWalk
open Go.RowKit Go.Maps Go.Proofs.YtiplfhmimpkplaaGreat.MemRow Go.Proofs.YtiplfhmimpkplaaGreat.Ev Go.Proofs.YtiplfhmimpkplaaGreat.NameMath Go.Proofs.YtiplfhmimpkplaaGreat.NameWalk Go.Proofs.YtiplfhmimpkplaaGreat.EvWalk Go.Proofs.YtiplfhmimpkplaaGreat.NumMem Go.Proofs.YtiplfhmimpkplaaGreat.SmWalk Go.Proofs.YtiplfhmimpkplaaGreat.NMap Go.Proofs.YtiplfhmimpkplaaGreat.DkWalk Go.Proofs.YtiplfhmimpkplaaGreat.PoWalk Go.Proofs.YtiplfhmimpkplaaGreat.Qu Go.Proofs.YtiplfhmimpkplaaGreat.QuWalk Go.Proofs.YtiplfhmimpkplaaGreat.InWalk

section
variable {w : World} {F G : Nat → Prop} {g : Nat} {r m0 lp : Value} {D : Dt} {mb : Option (Bool → Nat)} {M : Bool → DataW Hr} {hd : HdT} {L : Ls}
set_option maxHeartbeats 4000000 in
set_option maxRecDepth 100000 in
theorem clause14_any (hx : LBx w g r m0 lp mb hd) (h : LnC w F G D mb M hd) (d : DOf D L) (ok : LOk L) {c : Cl} {T Y : Option Addr} {nT cT nY cY : Nat} (rT : RdS w T nT cT c.tags) (rY : RdS w Y nY cY c.types) (hsT : ∀ x ∈ c.tags, x.size ≤ maxLen) (hsY : ∀ x ∈ c.types, x.size ≤ maxLen) (hnT : nT ≤ 1000) (u : Int) :
    Calls Tryz.prog 64 #[.pointer (some ⟨g, 3, none⟩), .agg #[.slice T nT cT, .slice Y nY cY], .int .i64 u] w fun e w' => ∃ B m k, e = .returned (.slice B m k) ∧ RdI w' B m k (seP L u (clauseB c)) ∧ Below w.heap.size w w' := by
  obtain ⟨ts, ys⟩ := c
  simp only at rT rY hsT hsY
  have b1 : Below w.heap.size w (w.alloc (.cells #[.slice T nT cT, .slice Y nY cY] 87)) := (Below.refl _ _).alloc (Nat.le_refl _) _
  have x1 := heap_alloc_new w (.cells #[.slice T nT cT, .slice Y nY cY] 87)
  have hnY := rY.le
  unfold maxLen at hnY
  have s1 : (w.alloc (.cells #[.slice T nT cT, .slice Y nY cY] 87)).heap.size = w.heap.size + 1 := by simp
  have HTN := Go.Lib.hid rT.len
  have HYN := Go.Lib.hid rY.len
  have H := Go.Lib.hid (h.below b1)
  have HXB := Go.Lib.hid (XBx.below hx b1)
  have DD := Go.Lib.hid d
  have OK := Go.Lib.hid ok
  have RT := Go.Lib.hid (RdC.below rT b1)
  have RY := Go.Lib.hid (RdC.below rY b1)
  have HST := Go.Lib.hid hsT
  have HSY := Go.Lib.hid hsY
  clear h hx d ok rT rY hsT hsY
  go_enter Tryz.func64, Tryz.ntmps64
  go_upto_region 1 with (fail)
  have HX := Go.Lib.hid (fun (wx : World) (b : Below (w.alloc (.cells #[.slice T nT cT, .slice Y nY cY] 87)).heap.size (w.alloc (.cells #[.slice T nT cT, .slice Y nY cY] 87)) wx) => (b.block w.heap.size (by omega)).trans x1)
  have y0 : (w.alloc (.cells #[.slice T nT cT, .slice Y nY cY] 87)).cell? ⟨w.heap.size, 0, none⟩ = some (.slice T nT cT) := by rw [cell_of_row _ _ 0 _ _ _ x1]; rfl
  have B1 := Go.Lib.hid b1
  have S1 := Go.Lib.hid s1
  clear b1 x1 s1
  generalize w.alloc (.cells #[.slice T nT cT, .slice Y nY cY] 87) = w1 at *
  have A0 := Go.Lib.hid (show AskR w1 w1 w1.heap.size none 0 0 (seL L u (tagPs (ts.take 0))) from ⟨[], OwnC.nil _ _, rfl⟩)
  go_upto_region 2 with (fail)
  go_wp2_with fail
  go_loopw [7, 16] (fun av i wr => ∃ (A : Option Addr) (n c j : Nat), av = .slice A n c ∧ i = .int .i64 (j : Int) ∧ j ≤ nT ∧ Hid (AskR w1 wr w1.heap.size A n c (seL L u (tagPs (ts.take j)))) ∧ Below w1.heap.size w1 wr) (fun _ i _ => nT - (intOf i).toNat)
  case atStart => exact ⟨none, 0, 0, 0, rfl, rfl, Nat.zero_le _, A0, Below.refl _ _⟩
  case round =>
    obtain ⟨A, n, c, j, rfl, rfl, hj, HA, hB⟩ := hrel
    clear A0 y0
    have hn : n = j := by
      rw [← HA.out.len, seL_len]
      unfold tagPs
      rw [List.length_map, List.length_take, HTN.out]
      omega
    by_cases hlt : j < nT
    · have hr := H.out.below hB
      obtain ⟨bt, ot, rfl, _, kt⟩ := RdS.at_ (RdC.below RT.out hB) (by omega)
      have yt := kt j hlt
      have hjl : j < ts.length := by rw [HTN.out]; exact hlt
      have hsz : (ts.getD j ByteArray.empty).size ≤ maxLen := HST.out _ (mem_getD ts j hjl)
      have k2 : wr.cell? ⟨g, 4, none⟩ = some (.map (mapAt mb false)) := XBx.c4 (XBx.below HXB.out hB)
      have ql := hr.look false hsz
      obtain ⟨Al, nl, cl, e, rd1, _⟩ := (H.out.co.li (some (false, ts.getD j ByteArray.empty))).rd
      rw [e] at ql
      have rd := RdC.below rd1 hB
      have hl2 := DD.out.le OK.out (some (false, ts.getD j ByteArray.empty))
      have hin := DD.out.inc OK.out (some (false, ts.getD j ByteArray.empty))
      have hnl := rd1.len
      have CU := Go.Lib.hid (upTo_any rd hin (by omega) u)
      have RD1 := Go.Lib.hid rd1
      have e2 : upF u (lstD D (some (false, ts.getD j ByteArray.empty))) = seP L u (fun e => hasB e.tags (ts.getD j ByteArray.empty)) := congrArg _ (DD.out.tg _)
      rw [e2] at CU
      have HSL := Go.Lib.hid (show seL L u (tagPs (ts.take (j + 1))) = seL L u (tagPs (ts.take j)) ++ [seP L u (fun e => hasB e.tags (ts.getD j ByteArray.empty))] by rw [tagPs_step ts hjl, seL_snoc])
      have i1 : (j : Int) < nT := by omega
      obtain ⟨cs, oc, rc⟩ := HA.out
      have RC := Go.Lib.hid rc
      have OC := Go.Lib.hid oc
      have HN := Go.Lib.hid hn
      clear kt hr hsz e rd rd1 hl2 hin e2 hnl HA hjl oc rc hn
      generalize seP L u (fun e => hasB e.tags (ts.getD j ByteArray.empty)) = sj at *
      generalize lstD D (some (false, ts.getD j ByteArray.empty)) = lj at *
      generalize ts.getD j ByteArray.empty = t at *
      generalize seL L u (tagPs (ts.take j)) = xs at *
      go_wp2_with (first
        | (go_at_call 88; refine (CU.out).mono ?_; rintro e w4 ⟨m4, rfl, r4, h4, q, rfl⟩; have B5 := bel_dn hB q; have o5 := OC.out.below (w' := wr.drewN q) (bel_dn (Below.refl _ _) q); have R4 := Go.Lib.hid (r4 _ RD1.out); clear r4 hB k2 ql yt OC CU; generalize wr.drewN q = w5 at *; have al := (Below.refl w5.heap.size w5).alloc (Nat.le_refl _) (.cells #[.slice Al m4 cl] 57); have d1 : RdC 1 (w5.alloc (.cells #[.slice Al m4 cl] 57)) (some ⟨w5.heap.size, 0, none⟩) 1 1 [.slice Al m4 cl] := RdC.new w5 57 [.slice Al m4 cl] rfl (by decide); have o6 := o5.below al)
        | (at_builtin; refine wpList_append_cells rfl (.tmp 20) (.tmp 29) 125 rfl 57 (.slice none 0 0) 24 Tryz.underlying125 rising_info rfl (by decide) rfl rfl o6 d1 (fun v hv => by rw [List.mem_singleton] at hv; rw [hv]; rfl) (by have := HN.out; unfold maxLen; omega) (by have := HN.out; omega) (Nat.le_trans B5.size al.size) ?_; intro A8 c8 w8 o8 g8 _; have b8 := below_grown_own o6 (B5.trans (al.mono B5.size)) g8 (Nat.le_trans B5.size al.size)))
      go_roundw
      case rel => exact ⟨A8, n + 1, c8, j + 1, rfl, by go_num, by omega, Go.Lib.hid (by rw [HSL.out]; exact ⟨_, o8, RsC.snoc R4.out _ _ RC.out⟩), b8⟩
      case measure => simp [intOf]; omega
    · obtain rfl : nT = j := by omega
      have i1 : ¬ (nT : Int) < nT := by omega
      have he : ts.take nT = ts := List.take_of_length_le (by rw [HTN.out]; exact Nat.le_refl _)
      rw [he] at HA
      have HN := Go.Lib.hid hn
      go_upto_region 7 with (fail)
      clear he hlt hn i1 hj
      have ye : wr.cell? ⟨w.heap.size, 1, none⟩ = some (.slice Y nY cY) := by rw [cell_of_row wr _ 1 _ _ _ (HX.out _ hB)]; rfl
      go_upto_if 35 with (fail)
      go_cut [7] (fun v wx => ∃ (A : Option Addr) (n c : Nat), v = .slice A n c ∧ Hid (AskR wx wx w1.heap.size A n c (seL L u (psF ⟨ts, ys⟩))) ∧ Below w1.heap.size w1 wx)
      case first =>
        obtain ⟨cs, oc, rc⟩ := HA.out
        by_cases h0 : nY = 0
        · have hy : ys = [] := List.eq_nil_of_length_eq_zero (by rw [HYN.out]; exact h0)
          have i0 : ¬ (0 : Int) < nY := by omega
          have j0 : decide (0 < nY) = false := decide_eq_false (by omega)
          have j1 : decide ((nY : Int) > 0) = false := decide_eq_false i0
          have HQ := Go.Lib.hid (show seL L u (psF ⟨ts, ys⟩) = seL L u (tagPs ts) by subst hy; unfold psF tagPs; simp)
          have RC := Go.Lib.hid (RsC.below hB _ _ rc)
          have OC := Go.Lib.hid oc
          clear hy h0 HA oc rc
          go_wp2_with fail
          go_meet
          exact ⟨A, n, c, rfl, Go.Lib.hid (by rw [HQ.out]; exact ⟨cs, OC.out, RC.out⟩), hB⟩
        · have hy : ¬ ys = [] := fun e => h0 (by rw [← HYN.out, e]; rfl)
          have i0 : (0 : Int) < nY := by omega
          have j0 : decide (0 < nY) = true := decide_eq_true (by omega)
          have j1 : decide ((nY : Int) > 0) = true := decide_eq_true i0
          have HQ := Go.Lib.hid (show seL L u (psF ⟨ts, ys⟩) = seL L u (tagPs ts) ++ [seP L u fun e => hasB ys e.t] by unfold psF; rw [if_neg hy, seL_snoc]; rfl)
          have CO := Go.Lib.hid (ofTypes14_any (XBx.below HXB.out hB) (H.out.below hB) DD.out OK.out (RdC.below RY.out hB) HSY.out u)
          have RC := Go.Lib.hid (fun wx (b : Below w1.heap.size w1 wx) => RsC.below b _ _ rc)
          have OC := Go.Lib.hid oc
          clear hy h0 HA oc rc
          generalize seP L u (fun e => hasB ys e.t) = sj at *
          generalize seL L u (tagPs ts) = xs at *
          go_wp2_with (first
            | (go_at_call 89; refine (CO.out).mono ?_; rintro e w5 ⟨C5, m5, c5, rfl, p5, b5⟩; have B5 := below_chain hB b5; have o5 := OC.out.below b5; clear hB b5 ye OC CO; have al := (Below.refl w5.heap.size w5).alloc (Nat.le_refl _) (.cells #[.slice C5 m5 c5] 57); have d1 : RdC 1 (w5.alloc (.cells #[.slice C5 m5 c5] 57)) (some ⟨w5.heap.size, 0, none⟩) 1 1 [.slice C5 m5 c5] := RdC.new w5 57 [.slice C5 m5 c5] rfl (by decide); have o6 := o5.below al; have P6 := Go.Lib.hid (OwnC.below p5 al))
            | (at_builtin; refine wpList_append_cells rfl (.tmp 36) (.tmp 42) 125 rfl 57 (.slice none 0 0) 24 Tryz.underlying125 rising_info rfl (by decide) rfl rfl o6 d1 (fun v hv => by rw [List.mem_singleton] at hv; rw [hv]; rfl) (by have := HN.out; unfold maxLen; omega) (by have := HN.out; omega) (Nat.le_trans B5.size al.size) ?_; intro A8 c8 w8 o8 g8 _; have b8 := below_grown_own o6 (B5.trans (al.mono B5.size)) g8 (Nat.le_trans B5.size al.size)))
          have p8 := P6.out.grown g8 (own_far8 P6.out o6 (by decide))
          go_meet
          exact ⟨A8, n + 1, c8, rfl, Go.Lib.hid (by rw [HQ.out]; exact ⟨_, o8, RsC.snoc (OwnC.rd p8) _ _ (RC.out _ b8)⟩), b8⟩
      case rest =>
        obtain ⟨A2, n2, c2, rfl, HA2, hB2⟩ := hcut
        have hn2 : n2 = (psF ⟨ts, ys⟩).length := by rw [← HA2.out.len, seL_len]
        have hcl : seP L u (clauseB ⟨ts, ys⟩) = seP L u (conF (psF ⟨ts, ys⟩)) := by rw [con_psF]
        have BW := Go.Lib.hid (B1.out.trans (hB2.mono B1.out.size))
        clear HA ye HN
        by_cases h0 : n2 = 0
        · have hr := H.out.below hB2
          have k0 := XBx.c3 (XBx.below HXB.out hB2)
          obtain ⟨Al, nl, cl, e, rd, _⟩ := (hr.co.li none).rd
          rw [e] at k0
          have hl2 := DD.out.le OK.out none
          have hin := DD.out.inc OK.out none
          have hnl := rd.len
          have hps : psF ⟨ts, ys⟩ = [] := List.eq_nil_of_length_eq_zero (by omega)
          have e2 : upF u (lstD D none) = seP L u (clauseB ⟨ts, ys⟩) := by
            rw [hcl, hps, con_none]
            exact congrArg _ DD.out.all
          have RD := Go.Lib.hid rd
          have CU := Go.Lib.hid (upTo_any rd hin (by omega) u)
          rw [e2] at CU
          have i0 : ((n2 : Int) == 0) = true := by rw [beq_iff_eq]; omega
          clear hr e rd hl2 hin hnl hps e2 hcl hn2 HA2 hB hB2 h0
          go_wp2_with (refine (CU.out).mono ?_; rintro e w4 ⟨m4, rfl, r4, h4, q, rfl⟩)
          go_ret
          exact ⟨_, _, _, rfl, RdC.drewN (r4 _ RD.out) q, bel_dn BW.out q⟩
        · obtain ⟨cs, oc, rc⟩ := HA2.out
          have oc' := OwnC.rd oc
          obtain ⟨p0, e0, t0⟩ := seL_get (L := L) (u := u) (ps := psF ⟨ts, ys⟩) (i := 0) (by omega)
          obtain ⟨A0, m0, k0, q0, r0⟩ := RsC.at_ _ _ rc 0 (by rw [seL_len]; omega)
          rw [e0] at r0
          obtain ⟨A3, q3, d3⟩ := slice_lo (P := Tryz.prog) 125 57 Tryz.underlying125 elem_asked (by kernel_rfl) oc' (m := 1) (by omega)
          obtain ⟨b2, o2, rfl, _, kc⟩ := RdC.at_ oc' (by decide) (by omega)
          have y0 : wc.cell? ⟨b2, o2, none⟩ = some (.slice A0 m0 k0) := kc 0 _ q0
          have q3 : ∀ W, (Instr.slice 125 (.slice (some ⟨b2, o2, none⟩) n2 c2) (some (.int .i64 1)) none none).run Tryz.prog W = .ok (.slice A3 (n2 - 1) (c2 - 1)) W := q3
          have hst : seP L u p0 = seP L u (conF ((psF ⟨ts, ys⟩).take 1)) := by rw [t0, List.take_zero, List.nil_append]; exact con_one L u p0
          rw [hst] at r0
          have R0 := Go.Lib.hid r0
          have RC := Go.Lib.hid rc
          have D3 := Go.Lib.hid d3
          have HCL := Go.Lib.hid hcl
          have HN2 := Go.Lib.hid hn2
          have i0 : ((n2 : Int) == 0) = false := by rw [beq_eq_false_iff_ne]; omega
          have i1 : (0 : Int) < n2 := by omega
          have i2 : 0 < n2 := by omega
          have hle : n2 ≤ c2 := oc'.le_cap
          have hmx : n2 ≤ 2 ^ 63 - 1 := by have := oc'.le; unfold maxLen at this; exact this
          clear oc oc' rc kc q0 e0 t0 r0 hst d3 hcl hn2 HA2 hB hB2 h0
          go_upto_region 12 with (fail)
          go_wp2_with fail
          go_loopw [10, 59] (fun ov i wr => ∃ (C : Option Addr) (m k j : Nat), ov = .slice C m k ∧ i = .int .i64 (j : Int) ∧ j ≤ n2 - 1 ∧ Hid (RdI wr C m k (seP L u (conF ((psF ⟨ts, ys⟩).take (j + 1))))) ∧ Below wc.heap.size wc wr) (fun _ i _ => n2 - 1 - (intOf i).toNat)
          case atStart => exact ⟨A0, m0, k0, 0, rfl, rfl, Nat.zero_le _, R0, Below.refl _ _⟩
          case round =>
            obtain ⟨C, m, k, j, rfl, rfl, hj, HR, hB⟩ := hrel
            clear R0 y0 q3
            by_cases hlt : j < n2 - 1
            · obtain ⟨p1, e1, t1⟩ := seL_get (L := L) (u := u) (ps := psF ⟨ts, ys⟩) (i := j + 1) (by rw [← HN2.out]; omega)
              obtain ⟨A1, m1, k1, q1, r1⟩ := RsC.at_ _ _ RC.out (j + 1) (by rw [seL_len, ← HN2.out]; omega)
              rw [e1] at r1
              obtain ⟨b3, o3, rfl, _, kc⟩ := RdC.at_ D3.out (by decide) (by omega)
              have y3 := kc j (.slice A1 m1 k1) (by rw [List.getElem?_drop, show 1 * 1 + j = j + 1 by omega]; exact q1)
              have y3 := bcell hB y3
              have hst := con_step OK.out u ((psF ⟨ts, ys⟩).take (j + 1)) p1
              rw [← t1] at hst
              have hm : m ≤ 1000 := by
                have := RdI.len HR.out
                have := se_len L u (conF ((psF ⟨ts, ys⟩).take (j + 1)))
                have := OK.out.len
                omega
              have hm1 : m1 ≤ 1000 := by
                have := RdI.len r1
                have := se_len L u p1
                have := OK.out.len
                omega
              have CB := Go.Lib.hid (both_any HR.out (RdC.below r1 hB) (se_inc OK.out u _) (se_inc OK.out u _) hm hm1)
              rw [hst] at CB
              have i3 : (j : Int) < ((n2 - 1 : Nat) : Int) := by omega
              clear e1 t1 q1 r1 kc hst hm hm1 HR
              go_wp2_with (refine (CB.out).mono ?_; rintro e w5 ⟨C5, m5, c5, rfl, o5, b5⟩)
              go_roundw
              case rel => exact ⟨C5, m5, c5, j + 1, rfl, by go_num, by omega, Go.Lib.hid (OwnC.rd o5), below_chain hB b5⟩
              case measure => simp [intOf]; omega
            · have hjn : j + 1 = n2 := by omega
              have i3 : ¬ (j : Int) < ((n2 - 1 : Nat) : Int) := by omega
              have HF := Go.Lib.hid (show seP L u (conF ((psF ⟨ts, ys⟩).take (j + 1))) = seP L u (clauseB ⟨ts, ys⟩) by rw [HCL.out, List.take_of_length_le (by rw [← HN2.out]; omega)])
              have BF := Go.Lib.hid (below_chain BW.out hB)
              clear hlt hjn hj
              go_wp2_with fail
              go_ret
              exact ⟨C, m, k, rfl, by rw [← HF.out]; exact HR.out, BF.out⟩
end

end Go.Proofs.YtiplfhmimpkplaaGreat.PnWalk

