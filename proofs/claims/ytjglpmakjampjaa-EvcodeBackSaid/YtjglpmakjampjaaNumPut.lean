/-
  Contracts of layer 1 (num), encoding: extend, fill, Put, PutText. What they answer lies in new memory; what was there stays.
-/
import Derived.Test.YtjglpmakjampjaaNumLeaf
import Derived.Test.YtjglpmakjampjaaNumMem
import Derived.WalkSpells
import Derived.Laws.CopyOwn
namespace Go.Proofs.Ytjglpmakjampjaa.NumWalk
open Go.RowKit Go.Proofs.Ytjglpmakjampjaa.NumMath Go.Proofs.Ytjglpmakjampjaa.NumMem
open Go.Lib (uvarint zigzag)

theorem u8_info : (Try.prog.info? 5).map (fun i => (i.zero, i.size, i.bytes)) = some (some (.int .u8 0), 1, 1) := by kernel_rfl
theorem u8_size : (Try.prog.info? 5).map (·.size) = some 1 := by kernel_rfl

theorem splice_zeros (l : List UInt8) (room : Nat) : splice (cellsOf (List.replicate (l.length + room) 0)) 0 (cellsOf l) = cellsOf (l ++ List.replicate room 0) := by
  unfold splice
  rw [cellsOf_append, cellsOf_length]
  simp [cellsOf]

set_option maxRecDepth 100000 in
theorem extend_any (A : Option Addr) (n cap : Nat) (l : List UInt8) (room : Nat) (w : World) (h : Rd w A n cap l) (hr : n + room ≤ 281474976710656) :
    Calls Try.prog 27 #[.slice A n cap, .int .i64 (room : Int)] w fun e w' => e = .returned (.slice (some ⟨w.heap.size, 0, none⟩) (n + room) (n + room)) ∧ Row w' w.heap.size 5 (l ++ List.replicate room 0) ∧ Below w.heap.size w w' := by
  have hmk := fun W => run_make_bytes (P := Try.prog) 22 5 Try.underlying22 u8_info (n + room) hr ((n : Int) + (room : Int)) (by omega) W
  have hl := h.len
  have H := Go.Lib.hid hl
  clear hl
  go_enter Try.func27, Try.ntmps27
  go_wp2_with (with_reducible refine wpList_copy_splice rfl (.tmp 11) (.tmp 12) 22 22 rfl 5 Try.underlying22 u8_size _ _ _ _ _ _ rfl rfl w.heap.size 0 (cellsOf (List.replicate (n + room) 0)) 5 (heap_alloc_new w _) (cellsOf l) (by rw [cellsOf_length, H.out]; simp [Nat.min_def]) (fun h0 => ⟨rfl, (h.below ((Below.refl _ _).alloc (Nat.le_refl _) _)).src h0⟩) (by simp [cellsOf, H.out]) (cellsOf_one l) w.heap.size w ((Below.refl _ _).alloc (Nat.le_refl _) _) (Nat.le_refl _) ?_; intro w2 HG2 hB2)
  go_ret
  refine ⟨rfl, ?_, hB2⟩
  have h2 := HG2.out
  obtain rfl := H.out
  rw [splice_zeros] at h2
  exact h2

/-- A byte of a number that goes on. -/
theorem or128 (v : Nat) : bits BinOp.or IntKind.u8 (IntKind.u8.wrap (v : Int)) 128 = (((v % 128 + 128).toUInt8.toNat : Nat) : Int) := by
  rw [toU8 (by omega)]
  have e : IntKind.u8.wrap (v : Int) = ((v % 256 : Nat) : Int) := by
    rw [IntKind.wrap_u8]
    omega
  rw [e, Go.Lib.u8_or128_any _ (by omega) (by omega)]
  omega

/-- The state of fill behind k bytes. -/
structure FillAt (w wr : World) (g o : Nat) (t : TypeId) (L : List UInt8) (u k v : Nat) : Prop where
  row : Row wr g t (L.take o ++ ((uvarint u).take k ++ L.drop (o + k)))
  left : uvarint u = (uvarint u).take k ++ uvarint v
  lt : v < 18446744073709551616
  le : k < (uvarint u).length
  grown : w.grownBy wr (some g)
  size : wr.heap.size = w.heap.size

theorem fillAt_start {w : World} {g o : Nat} {t : TypeId} {L : List UInt8} {u : Nat} (h : Row w g t L) (hu : u < 18446744073709551616) : FillAt w w g o t L u 0 u :=
  ⟨by simpa using h, by simp, hu, Go.Lib.uvarint_pos u, ⟨rfl, rfl, rfl, Nat.le_refl _, fun _ _ _ => rfl⟩, rfl⟩

theorem row_set (L X : List UInt8) (o k : Nat) (c : UInt8) (hk : X.length = k) (ho : o + k < L.length) : (L.take o ++ (X ++ L.drop (o + k))).set (o + k) c = L.take o ++ ((X ++ [c]) ++ L.drop (o + (k + 1))) := by
  subst hk
  have h1 : (L.take o).length = o := by simp; omega
  rw [List.set_append_right _ _ (by omega), h1, Nat.add_sub_cancel_left, List.set_append_right _ _ (by omega), Nat.sub_self, List.drop_eq_getElem_cons ho]
  simp [Nat.add_assoc]

theorem take_add_one (a b : List UInt8) (c : UInt8) (r : List UInt8) (k : Nat) (h : a = a.take k ++ b) (hb : b = c :: r) : a.take (k + 1) = a.take k ++ [c] ∧ a = a.take (k + 1) ++ r ∧ (a.take k).length = k := by
  have hl : a.length = (a.take k).length + b.length := by rw [← List.length_append, ← h]
  have hk : (a.take k).length = k := by
    have h2 := List.length_take_le k a
    subst hb
    simp only [List.length_take, List.length_cons] at hl ⊢
    omega
  have e : a.take (k + 1) = a.take k ++ [c] := by
    have h3 := congrArg (List.take (k + 1)) h
    rw [List.take_append, hk, hb] at h3
    simp at h3
    rw [h3, List.take_take, Nat.min_eq_right (by omega)]
  refine ⟨e, ?_, hk⟩
  rw [e, List.append_assoc]
  rw [hb] at h
  exact h

theorem fillAt_step {w wr : World} {g o : Nat} {t : TypeId} {L : List UInt8} {u k v : Nat} (h : FillAt w wr g o t L u k v) (hk : k + 1 < (uvarint u).length) (ho : o + (uvarint u).length ≤ L.length) :
    FillAt w (wr.setCell ⟨g, o + k, none⟩ (.int .u8 (bits BinOp.or IntKind.u8 (IntKind.u8.wrap (v : Int)) 128))) g o t L u (k + 1) (v / 128) := by
  obtain ⟨hr, hl, hv, hle, hg, hs⟩ := h
  have hlen : (uvarint u).length = ((uvarint u).take k).length + (uvarint v).length := by rw [← List.length_append, ← hl]
  have h128 : 128 ≤ v := by
    rcases Nat.lt_or_ge v 128 with hlt | hge
    · rw [Go.Lib.uvarint_small hlt] at hlen
      have := List.length_take_le k (uvarint u)
      simp at hlen
      omega
    · exact hge
  obtain ⟨e1, e2, e3⟩ := take_add_one _ _ _ _ k hl (Go.Lib.uvarint_big h128)
  refine ⟨?_, e2, by omega, hk, grown_setCell hg _ _, by simpa [World.setCell] using hs⟩
  rw [or128, e1, ← row_set L _ o k _ e3 (by omega)]
  exact hr.set_ _ _

theorem fillAt_end {w wr : World} {g o : Nat} {t : TypeId} {L : List UInt8} {u k v : Nat} (h : FillAt w wr g o t L u k v) (hk : k + 1 = (uvarint u).length) (ho : o + (uvarint u).length ≤ L.length) :
    Row (wr.setCell ⟨g, o + k, none⟩ (.int .u8 (IntKind.u8.wrap (v : Int)))) g t (L.take o ++ (uvarint u ++ L.drop (o + (uvarint u).length))) ∧ w.grownBy (wr.setCell ⟨g, o + k, none⟩ (.int .u8 (IntKind.u8.wrap (v : Int)))) (some g) ∧ (wr.setCell ⟨g, o + k, none⟩ (.int .u8 (IntKind.u8.wrap (v : Int)))).heap.size = w.heap.size := by
  obtain ⟨hr, hl, hv, hle, hg, hs⟩ := h
  have hlen : (uvarint u).length = ((uvarint u).take k).length + (uvarint v).length := by rw [← List.length_append, ← hl]
  have h128 : v < 128 := by
    rcases Nat.lt_or_ge v 128 with hlt | hge
    · exact hlt
    · rw [Go.Lib.uvarint_big hge] at hlen
      have := Go.Lib.uvarint_pos (v / 128)
      simp only [List.length_cons, List.length_take] at hlen
      omega
  obtain ⟨e1, e2, e3⟩ := take_add_one _ _ _ _ k hl (Go.Lib.uvarint_small h128)
  refine ⟨?_, grown_setCell hg _ _, by simpa [World.setCell] using hs⟩
  have e4 : IntKind.u8.wrap (v : Int) = ((v.toUInt8.toNat : Nat) : Int) := by
    rw [toU8 (by omega), IntKind.wrap_u8]
    omega
  have e5 : uvarint u = (uvarint u).take k ++ [v.toUInt8] := by
    rw [← e1, hk, List.take_length]
  rw [e4]
  have := hr.set_ (o + k) v.toUInt8
  rw [row_set L _ o k _ e3 (by omega), ← e5, hk] at this
  exact this

theorem fillAt_cell {w wr : World} {g o : Nat} {t : TypeId} {L : List UInt8} {u k v : Nat} (h : FillAt w wr g o t L u k v) (ho : o + (uvarint u).length ≤ L.length) : (∃ x, wr.cell? ⟨g, o + k, none⟩ = some x) ∧ wr.frozen? ⟨g, o + k, none⟩ = false := by
  have hle := h.le
  refine ⟨⟨_, h.row.cell (i := o + k) ?_⟩, h.row.frozen _⟩
  simp only [List.length_append, List.length_take, List.length_drop]
  omega

set_option maxHeartbeats 400000 in
set_option maxRecDepth 100000 in
theorem fill_any (g o c n : Nat) (L : List UInt8) (u : Nat) (w : World) (h : Row w g 5 L) (hu : u < 18446744073709551616) (hn : n = (uvarint u).length) (ho : o + n ≤ L.length) :
    Calls Try.prog 67 #[.slice (some ⟨g, o, none⟩) n c, .int .u64 (u : Int)] w fun e w' => e = .returned (.tuple #[]) ∧ Row w' g 5 (L.take o ++ (uvarint u ++ L.drop (o + n))) ∧ w.grownBy w' (some g) ∧ w'.heap.size = w.heap.size := by
  have h10 := Go.Lib.uvarint_length64 hu
  have h1 := Go.Lib.uvarint_pos u
  have hn10 : n ≤ 10 := by omega
  have hn1 : 1 ≤ n := by omega
  have HN := Go.Lib.hid hn
  clear hn h10 h1
  go_enter Try.func67, Try.ntmps67
  go_wp2
  go_loopw [1, 10] (fun v i wr => ∃ k q : Nat, v = .int .u64 q ∧ i = .int .i64 k ∧ FillAt w wr g o 5 L u k q) (fun _ i _ => n - (intOf i).toNat)
  case atStart => exact ⟨0, u, rfl, rfl, fillAt_start h hu⟩
  case round =>
    obtain ⟨k, q, rfl, rfl, hf⟩ := hrel
    obtain ⟨⟨x, hx⟩, hfr⟩ := fillAt_cell hf (by rw [← HN.out]; exact ho)
    have hq := hf.lt
    have hkn : k < n := by rw [HN.out]; exact hf.le
    by_cases hlt : k + 1 < n
    · have hs := fillAt_step hf (by rw [← HN.out]; exact hlt) (by rw [← HN.out]; exact ho)
      go_wp2
      go_roundw
      case rel => exact ⟨k + 1, q / 128, by go_num, by go_num, hs⟩
      case measure => simp [intOf]; omega
    · obtain rfl : n = k + 1 := by omega
      have hs := fillAt_end hf HN.out (by rw [← HN.out]; exact ho)
      go_wp2
      go_end0
      obtain ⟨r1, r2, r3⟩ := hs
      rw [← HN.out] at r1
      exact ⟨rfl, r1, r2, r3⟩

theorem put_row (l z : List UInt8) (n m : Nat) (hl : l.length = n) : (l ++ List.replicate m 0).take n ++ (z ++ (l ++ List.replicate m 0).drop (n + m)) = l ++ z := by
  subst hl
  have h : (l ++ List.replicate m (0 : UInt8)).drop (l.length + m) = [] := List.drop_eq_nil_of_le (by simp)
  rw [h, List.take_left]
  simp

set_option maxHeartbeats 400000 in
set_option maxRecDepth 100000 in
theorem put_any (A : Option Addr) (n cap : Nat) (l : List UInt8) (x : Int) (w : World) (h : Rd w A n cap l) (h0 : -9223372036854775808 ≤ x) (h1 : x ≤ 9223372036854775807) (hn : n ≤ 140737488355328) :
    Calls Try.prog 41 #[.slice A n cap, .int .i64 x] w fun e w' => e = .returned (.slice (some ⟨w.heap.size, 0, none⟩) (n + (enc x).length) (n + (enc x).length)) ∧ Row w' w.heap.size 5 (l ++ enc x) ∧ Below w.heap.size w w' := by
  have hz := Go.Lib.zigzag_lt h0 h1
  have h10 := Go.Lib.uvarint_length64 hz
  have hp := Go.Lib.uvarint_pos (zigzag x)
  have hl := h.len
  have HL := Go.Lib.hid hl
  obtain ⟨m, hm⟩ : ∃ m, m = (uvarint (zigzag x)).length := ⟨_, rfl⟩
  rw [← hm] at h10 hp
  have HM := Go.Lib.hid hm
  clear hl hm
  go_enter Try.func41, Try.ntmps41
  go_wp2_with fail
  refine (unsigned_any x _ h0 h1).mono ?_
  rintro e w' ⟨rfl, rfl⟩
  go_wp2_with fail
  refine (size_any _ _ hz).mono ?_
  rintro e w' ⟨rfl, rfl⟩
  rw [← HM.out]
  go_wp2_with fail
  refine (extend_any A n cap l m _ h (by omega)).mono ?_
  rintro e w1 ⟨rfl, hr1, hb1⟩
  go_wp2_with fail
  refine (fill_any w.heap.size n m m (l ++ List.replicate m 0) (zigzag x) _ hr1 hz HM.out (by simp [HL.out])).mono ?_
  rintro e w2 ⟨rfl, hr2, hg2, hs2⟩
  have HS2 := Go.Lib.hid hs2
  clear hs2
  go_wp2_with fail
  go_ret
  rw [put_row l _ n m HL.out] at hr2
  have e1 : (enc x).length = m := HM.out.symm
  rw [e1]
  exact ⟨rfl, hr2, hb1.grown hg2 hb1.size (by rintro k ⟨rfl⟩; exact Nat.le_refl _)⟩

theorem text_row (l z x : List UInt8) (n m k : Nat) (hl : l.length = n) (hz : z.length = m) (hx : x.length = k) :
    List.take (n + m) ((l ++ List.replicate (m + k) 0).take n ++ (z ++ (l ++ List.replicate (m + k) 0).drop (n + m))) ++ (x ++ List.drop (n + m + k) ((l ++ List.replicate (m + k) 0).take n ++ (z ++ (l ++ List.replicate (m + k) 0).drop (n + m)))) = l ++ z ++ x := by
  subst hl hz hx
  have h1 : (l ++ List.replicate (z.length + x.length) (0 : UInt8)).drop (l.length + z.length) = List.replicate x.length 0 := by
    rw [List.drop_append, List.drop_eq_nil_of_le (by omega)]
    simp
  rw [List.take_left, h1]
  have h2 : (l ++ (z ++ List.replicate x.length (0 : UInt8))).take (l.length + z.length) = l ++ z := by
    rw [← List.append_assoc, List.take_left' (by simp)]
  have h3 : (l ++ (z ++ List.replicate x.length (0 : UInt8))).drop (l.length + z.length + x.length) = [] := List.drop_eq_nil_of_le (by simp; omega)
  rw [h2, h3]
  simp

theorem text_fit (l z : List UInt8) (n m k : Nat) (hl : l.length = n) (hz : z.length = m) :
    n + m + k ≤ ((l ++ List.replicate (m + k) (0 : UInt8)).take n ++ (z ++ (l ++ List.replicate (m + k) 0).drop (n + m))).length := by
  subst hl hz
  simp only [List.length_append, List.length_take, List.length_drop, List.length_replicate]
  omega

set_option maxHeartbeats 400000 in
set_option maxRecDepth 100000 in
theorem putText_pos (A : Option Addr) (n cap : Nat) (l : List UInt8) (s : ByteArray) (w : World) (h : Rd w A n cap l) (hs : s.size ≤ 70368744177664) (hn : n ≤ 70368744177664) (hs0 : ¬ s = ByteArray.empty) :
    Calls Try.prog 43 #[.slice A n cap, .string s] w fun e w' => e = .returned (.slice (some ⟨w.heap.size, 0, none⟩) (n + ((enc (s.size : Int)).length + s.size)) (n + ((enc (s.size : Int)).length + s.size))) ∧ Row w' w.heap.size 5 (l ++ enc (s.size : Int) ++ s.data.toList) ∧ Below w.heap.size w w' := by
  have hz := Go.Lib.zigzag_lt (x := (s.size : Int)) (by omega) (by omega)
  have h10 := Go.Lib.uvarint_length64 hz
  have hp := Go.Lib.uvarint_pos (zigzag (s.size : Int))
  have hl := h.len
  have HL := Go.Lib.hid hl
  obtain ⟨m, hm⟩ : ∃ m, m = (uvarint (zigzag (s.size : Int))).length := ⟨_, rfl⟩
  rw [← hm] at h10 hp
  have HM := Go.Lib.hid hm
  clear hl hm
  go_enter Try.func43, Try.ntmps43
  go_wp2_with fail
  refine (unsigned_any (s.size : Int) _ (by omega) (by omega)).mono ?_
  rintro e w' ⟨rfl, rfl⟩
  go_wp2_with fail
  refine (size_any _ _ hz).mono ?_
  rintro e w' ⟨rfl, rfl⟩
  rw [← HM.out]
  go_wp2_with fail
  rw [show ((m : Int) + (s.size : Int)) = ((m + s.size : Nat) : Int) from by omega]
  refine (extend_any A n cap l (m + s.size) _ h (by omega)).mono ?_
  rintro e w1 ⟨rfl, hr1, hb1⟩
  go_wp2_with fail
  refine (fill_any w.heap.size n (m + s.size) m (l ++ List.replicate (m + s.size) 0) (zigzag (s.size : Int)) _ hr1 hz HM.out (by simp [HL.out])).mono ?_
  rintro e w2 ⟨rfl, hr2, hg2, hs2⟩
  clear hs2
  have hb2 := hb1.grown hg2 hb1.size (by rintro k ⟨rfl⟩; exact Nat.le_refl _)
  have hfit := text_fit l (uvarint (zigzag (s.size : Int))) n m s.size HL.out HM.out.symm
  obtain ⟨L2, hL2⟩ : ∃ L2, L2 = List.take n (l ++ List.replicate (m + s.size) 0) ++ (uvarint (zigzag (s.size : Int)) ++ List.drop (n + m) (l ++ List.replicate (m + s.size) 0)) := ⟨_, rfl⟩
  rw [← hL2] at hr2 hfit
  have HL2 := Go.Lib.hid hL2
  clear hL2 hr1 hg2 hb1
  go_wp2_with (with_reducible refine wpList_copy_text rfl (.tmp 34) (.tmp 35) 22 9 rfl 5 Try.underlying22 u8_size _ _ _ s rfl rfl w.heap.size (n + m) L2 5 hr2 (by omega) (fun _ => by first | rfl | exact if_neg (by omega)) hfit ?_; intro w3 hr3 hg3)
  go_ret
  have hb3 := hb2.grown hg3 hb2.size (by rintro k ⟨rfl⟩; exact Nat.le_refl _)
  rw [HL2.out, text_row l _ _ n m s.size HL.out HM.out.symm (by simp)] at hr3
  have e1 : (enc (s.size : Int)).length = m := HM.out.symm
  rw [e1]
  exact ⟨rfl, hr3, hb3⟩

set_option maxHeartbeats 400000 in
set_option maxRecDepth 100000 in
theorem putText_empty (A : Option Addr) (n cap : Nat) (l : List UInt8) (w : World) (h : Rd w A n cap l) (hn : n ≤ 70368744177664) :
    Calls Try.prog 43 #[.slice A n cap, .string ByteArray.empty] w fun e w' => e = .returned (.slice (some ⟨w.heap.size, 0, none⟩) (n + 1) (n + 1)) ∧ Row w' w.heap.size 5 (l ++ [0]) ∧ Below w.heap.size w w' := by
  have hl := h.len
  have HL := Go.Lib.hid hl
  clear hl
  have z0 : zigzag 0 = 0 := rfl
  have v0 : uvarint 0 = [0] := by rw [Go.Lib.uvarint_small (by omega)]; rfl
  have V0 := Go.Lib.hid v0
  clear v0
  have hcp : ∀ (W : World) d, (Builtin.copy_ #[22, 9] 3 #[.slice d 0 0, .string ByteArray.empty]).run Try.prog W = .ok (goInt 0) W := fun W d =>
    Go.Lib.run_copy_empty_string W _ _ _ 5 d 0 0 _ Try.underlying22 (by kernel_rfl) rfl
  go_enter Try.func43, Try.ntmps43
  go_wp2_with fail
  refine (unsigned_any 0 _ (by omega) (by omega)).mono ?_
  rintro e w' ⟨rfl, rfl⟩
  rw [z0]
  go_wp2_with fail
  refine (size_any 0 _ (by omega)).mono ?_
  rintro e w' ⟨rfl, rfl⟩
  rw [V0.out]
  go_wp2_with fail
  refine (extend_any A n cap l 1 _ h (by omega)).mono ?_
  rintro e w1 ⟨rfl, hr1, hb1⟩
  go_wp2_with fail
  refine (fill_any w.heap.size n 1 1 (l ++ List.replicate 1 0) 0 _ hr1 (by omega) (by rw [V0.out]; rfl) (by simp [HL.out])).mono ?_
  rintro e w2 ⟨rfl, hr2, hg2, hs2⟩
  clear hs2
  have hb2 := hb1.grown hg2 hb1.size (by rintro k ⟨rfl⟩; exact Nat.le_refl _)
  go_wp2
  go_ret
  rw [put_row l _ n 1 HL.out, V0.out] at hr2
  exact ⟨rfl, hr2, hb2⟩

theorem putText_any (A : Option Addr) (n cap : Nat) (l : List UInt8) (s : ByteArray) (w : World) (h : Rd w A n cap l) (hs : s.size ≤ 70368744177664) (hn : n ≤ 70368744177664) :
    Calls Try.prog 43 #[.slice A n cap, .string s] w fun e w' => e = .returned (.slice (some ⟨w.heap.size, 0, none⟩) (n + ((enc (s.size : Int)).length + s.size)) (n + ((enc (s.size : Int)).length + s.size))) ∧ Row w' w.heap.size 5 (l ++ enc (s.size : Int) ++ s.data.toList) ∧ Below w.heap.size w w' := by
  by_cases h0 : s = ByteArray.empty
  · subst h0
    have e1 : enc ((ByteArray.empty.size : Nat) : Int) = [0] := by
      show uvarint (zigzag 0) = [0]
      have z0 : zigzag 0 = 0 := rfl
      rw [z0, Go.Lib.uvarint_small (by omega)]
      rfl
    refine (putText_empty A n cap l w h hn).mono fun e w' ⟨he, hr, hb⟩ => ?_
    rw [e1]
    exact ⟨he, by simpa using hr, hb⟩
  · exact putText_pos A n cap l s w h hs hn h0

end Go.Proofs.Ytjglpmakjampjaa.NumWalk
