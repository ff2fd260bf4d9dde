/- Joined: HDtTxt1, HDtRd0, HDtRd1, HDtRd2. -/
import Derived.Test.YtgaegajcejpmdaaGreatDoorHJ16
import Derived.Test.YtgaegajcejpmdaaGreatDoorHJ22
import Derived.Shelf.Abstract
namespace Go.Proofs.YtgaegajcejpmdaaGreatDoor.Dt
set_option linter.unusedVariables false

def isD (c : Int) : Bool := decide (48 ≤ c) && decide (c ≤ 57)
/-- How many digits stand ahead. -/
def dgs (l : List Int) : Nat := (l.takeWhile isD).length
/-- A row of digits as a number. -/
def dvl (l : List Int) : Int := l.foldl (fun v c => 10 * v + (c - 48)) 0
def tkB (c : Int) (l : List Int) : Option (List Int) := if l.head? = some c then some l.tail else none
def nmB (n : Nat) (l : List Int) : Option (Int × List Int) := if dgs l < n then none else some (dvl (l.take n), l.drop n)
def inB (lo hi : Int) (l : List Int) : Option (Int × List Int) := (nmB 2 l).bind fun x => if x.1 < lo ∨ hi < x.1 then none else some x
def yrB (l : List Int) : Option (Int × List Int) :=
  let neg := l.head? = some 45
  let t := if neg then l.tail else l
  if dgs t < 4 ∨ 9 < dgs t ∨ (4 < dgs t ∧ t.head? = some 48) then none
  else (nmB (dgs t) t).bind fun x => if x.1 = 0 then none else some (if neg then - x.1 else x.1, x.2)
def frB (l : List Int) : Option (Int × List Int) :=
  if l.head? = some 46 then
    if dgs l.tail < 1 ∨ 9 < dgs l.tail then none
    else (nmB (dgs l.tail) l.tail).map fun x => (x.1 * 10 ^ (9 - dgs l.tail), x.2)
  else some (0, l)
def clB (l : List Int) : Option ((Int × Int) × List Int) :=
  (inB 0 24 l).bind fun h => (tkB 58 h.2).bind fun l1 => (inB 0 59 l1).bind fun m => (tkB 58 m.2).bind fun l2 => (inB 0 59 l2).bind fun s => (frB s.2).bind fun f =>
    if h.1 = 24 ∧ (0 < m.1 ∨ 0 < s.1 ∨ 0 < f.1) then none else some ((3600 * h.1 + 60 * m.1 + s.1, f.1), f.2)
/-- The zone, or none; then the end. -/
def znB (l : List Int) : Option (Bool × Int) :=
  if l = [] then some (false, 0)
  else if l.head? = some 90 then (if l.tail = [] then some (true, 0) else none)
  else if l.head? = some 45 ∨ l.head? = some 43 then
    (inB 0 14 l.tail).bind fun h => (tkB 58 h.2).bind fun l1 => (inB 0 59 l1).bind fun n =>
      if (h.1 = 14 ∧ 0 < n.1) ∨ n.2 ≠ [] then none else some (true, if l.head? = some 45 then -(60 * h.1 + n.1) else 60 * h.1 + n.1)
  else none
/-- The front: a year, or dashes, or nothing. -/
def ftB (k : Int) (l : List Int) : Option (Int × List Int) :=
  if k = 1 ∨ k = 2 ∨ k = 4 ∨ k = 5 then yrB l
  else if k = 6 ∨ k = 8 then (tkB 45 l).map fun t => (2000, t)
  else if k = 7 then ((tkB 45 l).bind (tkB 45)).map fun t => (2000, t)
  else some (2000, l)
def mnB (k : Int) (l : List Int) : Option (Int × List Int) :=
  if k = 1 ∨ k = 2 ∨ k = 4 ∨ k = 6 ∨ k = 8 then (tkB 45 l).bind (inB 1 12) else some (1, l)
def dyB (k y m : Int) (l : List Int) : Option (Int × List Int) :=
  if k = 1 ∨ k = 2 ∨ k = 6 ∨ k = 7 then (tkB 45 l).bind (inB 1 (if k = 7 then 31 else lenL (lnY y) m)) else some (1, l)
def ckB (k : Int) (l : List Int) : Option ((Int × Int) × List Int) :=
  if k = 1 then (tkB 84 l).bind clB else if k = 3 then clB l else some ((0, 0), l)
/-- 24:00:00 is the next day's begin. -/
def nxM (a : Mo) : Mo :=
  if a.s = 86400 then
    (if a.k = 1 then ⟨a.k, bkY (civL (daysS a.y a.m a.d + 1)), (civM (daysS a.y a.m a.d + 1) : Nat), civD (daysS a.y a.m a.d + 1), 0, a.n, a.hz, a.z⟩ else { a with s := 0 })
  else a
/-- P602 of a kind from 1 to 8. -/
def prM (k : Int) (l : List Int) : Option Mo :=
  (ftB k l).bind fun y => (mnB k y.2).bind fun m => (dyB k y.1 m.1 m.2).bind fun d => (ckB k d.2).bind fun c => (znB c.2).map fun z => nxM ⟨k, y.1, m.1, d.1, c.1.1, c.1.2, z.1, z.2⟩
/-- Digits and a letter: where they don't stand, nothing is taken. none: ten digits or more. -/
def ptB (c : Int) (l : List Int) : Option ((Int × Bool) × List Int) :=
  if dgs l = 0 ∨ (l.drop (dgs l)).head? ≠ some c then some ((0, false), l)
  else if 9 < dgs l then none
  else some ((dvl (l.take (dgs l)), true), l.drop (dgs l + 1))
/-- Seconds: what stands behind T beyond hours and minutes; then the end. -/
def scB (l : List Int) : Option (Int × Int) :=
  if dgs l < 1 ∨ 9 < dgs l then none
  else (nmB (dgs l) l).bind fun s => (frB s.2).bind fun f => (tkB 83 f.2).bind fun r => if r = [] then some (s.1, f.1) else none
def tmB (l : List Int) : Option (Int × Int) :=
  (ptB 72 l).bind fun h => (ptB 77 h.2).bind fun m =>
    if m.2 = [] then (if h.1.2 || m.1.2 then some (3600 * h.1.1 + 60 * m.1.1, 0) else none)
    else (scB m.2).map fun s => (3600 * h.1.1 + 60 * m.1.1 + s.1, s.2)
/-- P604. -/
def prP (l : List Int) : Option Sp :=
  let neg := l.head? = some 45
  (tkB 80 (if neg then l.tail else l)).bind fun l0 => (ptB 89 l0).bind fun y => (ptB 77 y.2).bind fun o => (ptB 68 o.2).bind fun d =>
    ((if d.2.head? = some 84 then (tmB d.2.tail) else if d.2 = [] ∧ (y.1.2 || o.1.2 || d.1.2) then some (0, 0) else none)).map fun t =>
      if neg then ⟨-(12 * y.1.1 + o.1.1), -(86400 * d.1.1 + t.1), -t.2⟩ else ⟨12 * y.1.1 + o.1.1, 86400 * d.1.1 + t.1, t.2⟩

/-! Bounds. -/
theorem dvl_in (l : List Int) (h : ∀ c ∈ l, isD c = true) : 0 ≤ dvl l ∧ dvl l < 10 ^ l.length := by
  have key : ∀ (l : List Int) (v : Int) (n : Nat), (∀ c ∈ l, isD c = true) → 0 ≤ v → v < 10 ^ n → 0 ≤ l.foldl (fun v c => 10 * v + (c - 48)) v ∧ l.foldl (fun v c => 10 * v + (c - 48)) v < 10 ^ (n + l.length) := by
    intro l
    induction l with
    | nil => intro v n _ h0 h1; exact ⟨h0, h1⟩
    | cons c l ih =>
      intro v n hd h0 h1
      have hc := hd c (by simp)
      simp [isD] at hc
      have := ih (10 * v + (c - 48)) (n + 1) (fun x hx => hd x (by simp [hx])) (by omega) (by rw [Int.pow_succ]; omega)
      rw [List.foldl_cons, List.length_cons, show n + (l.length + 1) = n + 1 + l.length by omega]
      exact this
  have := key l 0 0 h (by omega) (by simp)
  simpa [dvl] using this
theorem dgs_take {l : List Int} {n : Nat} (h : n ≤ dgs l) : (∀ c ∈ l.take n, isD c = true) ∧ (l.take n).length = n := by
  have hl : dgs l ≤ l.length := by
    unfold dgs
    exact (List.takeWhile_sublist _).length_le
  refine ⟨fun c hc => ?_, by simp; omega⟩
  have e : l.take n = (l.takeWhile isD).take n := by
    have : l.takeWhile isD <+: l := List.takeWhile_prefix _
    obtain ⟨t, ht⟩ := this
    conv => lhs; rw [← ht]
    rw [List.take_append_of_le_length (by unfold dgs at h; exact h)]
  rw [e] at hc
  have := List.mem_of_mem_take hc
  exact List.all_eq_true.1 (List.all_takeWhile) c this
theorem nm_in {n : Nat} {l : List Int} {x : Int × List Int} (h : nmB n l = some x) : 0 ≤ x.1 ∧ x.1 < 10 ^ n := by
  unfold nmB at h
  split at h
  · simp at h
  · rename_i hn
    obtain rfl := Option.some.inj h
    obtain ⟨a, b⟩ := dgs_take (l := l) (n := n) (by omega)
    have := dvl_in _ a
    rwa [b] at this
theorem in_in {lo hi : Int} {l : List Int} {x : Int × List Int} (h : inB lo hi l = some x) : lo ≤ x.1 ∧ x.1 ≤ hi := by
  unfold inB at h
  obtain ⟨y, h1, h2⟩ := Option.bind_eq_some_iff.1 h
  split at h2
  · simp at h2
  · obtain rfl := Option.some.inj h2
    omega
theorem yr_in {l : List Int} {x : Int × List Int} (h : yrB l = some x) : x.1 ≠ 0 ∧ -1000000000 < x.1 ∧ x.1 < 1000000000 := by
  unfold yrB at h
  simp only [] at h
  generalize (if l.head? = some 45 then l.tail else l) = t at h
  split at h
  · simp at h
  · rename_i hd
    obtain ⟨y, h1, h2⟩ := Option.bind_eq_some_iff.1 h
    have hb := nm_in h1
    have hp : (10 : Int) ^ dgs t ≤ 10 ^ 9 := by
      have : (10 : Nat) ^ dgs t ≤ 10 ^ 9 := Nat.pow_le_pow_right (by omega) (by omega)
      exact_mod_cast this
    split at h2
    · simp at h2
    · obtain rfl := Option.some.inj h2
      simp only []
      split <;> omega
end Go.Proofs.YtgaegajcejpmdaaGreatDoor.Dt
namespace Go.Proofs.YtgaegajcejpmdaaGreatDoor.Dt
open Go.RowKit
set_option linter.unusedVariables false

/-- A text's bytes, as numbers. -/
def bl (s : ByteArray) : List Int := s.data.toList.map fun c => (c.toNat : Int)
theorem bl_len (s : ByteArray) : (bl s).length = s.size := by simp [bl]
theorem bl_drop (s : ByteArray) (i : Nat) (hi : i < s.size) : (bl s).drop i = ((s[i]'hi).toNat : Int) :: (bl s).drop (i + 1) := by
  rw [List.drop_eq_getElem_cons (by rw [bl_len]; exact hi)]
  congr 1
  simp [bl]
  rfl
theorem bl_cons (s : ByteArray) (h : 0 < s.size) : bl s = ((s[0]'h).toNat : Int) :: (bl s).drop 1 := by
  have := bl_drop s 0 h
  simpa using this
theorem bl_ext (s : ByteArray) : bl (s.extract 1 s.size) = (bl s).drop 1 := by
  unfold bl
  rw [ByteArray.data_extract, Array.toList_extract, List.extract_eq_take_drop, List.map_drop.symm]
  congr 1
  rw [List.take_of_length_le]
  rw [List.length_drop]
  exact Nat.le_refl _
theorem bl_nil {s : ByteArray} (h : s.size = 0) : bl s = [] := List.eq_nil_of_length_eq_zero (by rw [bl_len]; exact h)
theorem tl_nn {s : ByteArray} (h : 0 < s.size) : (s.toList == []) = false := by
  have : ¬ s.toList = [] := fun q => by
    rw [Lib.toList_data] at q
    have e : s.data.toList.length = 0 := by rw [q]; rfl
    rw [Array.length_toList] at e
    have e2 : s.size = 0 := e
    omega
  simpa using this
theorem tl_ee {s : ByteArray} (h : s.size = 0) : (s.toList == []) = true := by
  have : s.toList = [] := by rw [Lib.toList_data]; exact List.eq_nil_of_length_eq_zero (by rw [Array.length_toList]; exact h)
  simp [this]
/-- Where the first point stands; -1: nowhere. -/
def ix : List Int → Int
  | [] => -1
  | b :: l => if b = 84 then 0 else if ix l = -1 then -1 else ix l + 1
theorem ix_lib (l : List UInt8) : Lib.indexByte l 84 = ix (l.map fun c => (c.toNat : Int)) := by
  induction l with
  | nil => rfl
  | cons b l ih =>
    simp only [Lib.indexByte, List.map_cons, ix, ih]
    have e : (b == 84) = decide ((b.toNat : Int) = 84) := by
      rw [Bool.eq_iff_iff]; simp
      constructor
      · rintro rfl; rfl
      · intro h; exact UInt8.toNat_inj.1 (by simpa using (by omega : b.toNat = 84))
    rw [e]
    simp
theorem ix_bd (l : List Int) : ix l = -1 ∨ (0 ≤ ix l ∧ ix l < l.length) := by
  induction l with
  | nil => simp [ix]
  | cons b l ih =>
    have : ((b :: l).length : Int) = l.length + 1 := by simp
    rw [this]
    simp only [ix]
    by_cases h1 : b = 84
    · rw [if_pos h1]; omega
    · rw [if_neg h1]
      by_cases h2 : ix l = -1
      · rw [if_pos h2]; omega
      · rw [if_neg h2]; omega
theorem bl_pre (s : ByteArray) (k : Nat) (h : k ≤ s.size) : bl (s.extract 0 k) = (bl s).take k := by
  unfold bl
  rw [ByteArray.data_extract, Array.toList_extract, List.extract_eq_take_drop, ← List.map_take]
  simp
theorem bl_suf (s : ByteArray) (k : Nat) : bl (s.extract k s.size) = (bl s).drop k := by
  unfold bl
  rw [ByteArray.data_extract, Array.toList_extract, List.extract_eq_take_drop, List.map_drop.symm]
  congr 1
  rw [List.take_of_length_le]
  rw [List.length_drop]
  exact Nat.le_refl _
theorem point_run (s : ByteArray) (c : Int) (w : World) : (callFunc 215 #[.string s, .int .u8 c]).run Tryz.prog w = .ok (.value (.int .i64 (Lib.indexByte s.data.toList c.toNat.toUInt8))) w := by
  rw [run_callFunc_extern Tryz.func215 (by kernel_rfl) (by kernel_rfl) (by kernel_rfl) (e := Extern.BytealgIndexByte.indexByte) (by kernel_rfl), Lib.run_indexByteString]
  rfl
set_option maxHeartbeats 400000 in
theorem index_any (s : ByteArray) (w : World) :
    Calls Tryz.prog 176 #[.string s, .string ⟨#[84]⟩] w fun e w' => e = .returned (.int .i64 (ix (bl s))) ∧ w' = w := by
  have hr := point_run s
  go_enter Tryz.func176, Tryz.ntmps176
  go_wp2
  · go_ret
    refine ⟨ret_int ?_, rfl⟩
    have h : s.toList = [84] := (beq_iff_eq.1 ‹_›).symm
    have : bl s = [84] := by unfold bl; rw [← Lib.toList_data, h]; rfl
    rw [this]; rfl
  · go_ret
    refine ⟨ret_int ?_, rfl⟩
    exact ix_lib s.data.toList
set_option maxHeartbeats 400000 in
theorem lcut_no (s : ByteArray) (w : World) (h : ix (bl s) = -1) :
    Calls Tryz.prog 148 #[.string s, .string ⟨#[84]⟩] w fun e w' => e = .returned (.tuple #[.string s, .string ⟨#[]⟩, .bool false]) ∧ w' = w := by
  go_enter Tryz.func148, Tryz.ntmps148
  go_wp2_with (go_at_call 176; refine (index_any _ _).mono ?_; rintro e w' ⟨rfl, rfl⟩)
  go_ret3
  exact ⟨rfl, rfl⟩
set_option maxHeartbeats 400000 in
theorem cut_no (s : ByteArray) (w : World) (h : ix (bl s) = -1) :
    Calls Tryz.prog 105 #[.string s, .string ⟨#[84]⟩] w fun e w' => e = .returned (.tuple #[.string s, .string ⟨#[]⟩, .bool false]) ∧ w' = w := by
  go_enter Tryz.func105, Tryz.ntmps105
  go_wp2_with (go_at_call 148; refine (lcut_no _ _ h).mono ?_; rintro e w' ⟨rfl, rfl⟩)
  go_ret3
  exact ⟨rfl, rfl⟩
set_option maxHeartbeats 400000 in
theorem lcut_yes (s : ByteArray) (k : Nat) (w : World) (hs : s.size ≤ maxLen) (h : ix (bl s) = (k : Int)) :
    Calls Tryz.prog 148 #[.string s, .string ⟨#[84]⟩] w fun e w' => e = .returned (.tuple #[.string (s.extract 0 k), .string (s.extract (k + 1) s.size), .bool true]) ∧ Below w.heap.size w w' := by
  have hk : k < s.size := by
    have := ix_bd (bl s)
    rw [h, bl_len] at this
    omega
  unfold maxLen at hs
  go_enter Tryz.func148, Tryz.ntmps148
  go_wp2_with (go_at_call 176; refine (index_any _ _).mono ?_; rintro e w' ⟨rfl, rfl⟩)
  go_region
  all_goals
    go_wp2
    go_ret3
    exact ⟨rfl, (Below.refl _ _).drew⟩
set_option maxHeartbeats 400000 in
theorem cut_yes (s : ByteArray) (k : Nat) (w : World) (hs : s.size ≤ maxLen) (h : ix (bl s) = (k : Int)) :
    Calls Tryz.prog 105 #[.string s, .string ⟨#[84]⟩] w fun e w' => e = .returned (.tuple #[.string (s.extract 0 k), .string (s.extract (k + 1) s.size), .bool true]) ∧ Below w.heap.size w w' := by
  go_enter Tryz.func105, Tryz.ntmps105
  go_wp2_with (go_at_call 148; refine (lcut_yes _ _ _ hs h).mono ?_; rintro e w' ⟨rfl, hb⟩)
  go_ret3
  exact ⟨rfl, hb⟩
theorem ext_sz (s : ByteArray) (i j : Nat) : (s.extract i j).size ≤ s.size := by
  rw [ByteArray.size_extract]; omega
theorem ext_one (s : ByteArray) (h : 0 < s.size) : (s.extract 0 1).toList = [s[0]'h] := by
  rw [Lib.toList_data, ByteArray.data_extract, Array.toList_extract, List.extract_eq_take_drop]
  rw [List.drop_zero]
  have h' : 0 < s.data.toList.length := by rw [Array.length_toList]; exact h
  rw [List.take_succ_eq_append_getElem h']
  simp
  rfl
theorem pre_aux (s : ByteArray) (h : 0 < s.size) (c : UInt8) : ((s.extract 0 1).toList == [c]) = decide ((bl s).head? = some (c.toNat : Int)) := by
  rw [ext_one s h, bl_cons s h, Bool.eq_iff_iff]
  simp
  constructor
  · rintro rfl; rfl
  · intro q; exact UInt8.toNat_inj.1 (by omega)
set_option maxHeartbeats 400000 in
theorem pre_p (s : ByteArray) (c : UInt8) (w : World) (hs : s.size ≤ maxLen) :
    Calls Tryz.prog 147 #[.string s, .string ⟨#[c]⟩] w fun e w' => e = .returned (.bool (decide ((bl s).head? = some (c.toNat : Int)))) ∧ w' = w := by
  unfold maxLen at hs
  by_cases h : 0 < s.size
  · have ha := pre_aux s h c
    generalize (decide ((bl s).head? = some (c.toNat : Int))) = B at *
    have h1 : (1 : Int) ≤ s.size := by omega
    go_enter Tryz.func147, Tryz.ntmps147
    go_wp2
    go_ret
    exact ⟨by rw [← ha]; rfl, rfl⟩
  · have hb : bl s = [] := bl_nil (by omega)
    have hB : (decide ((bl s).head? = some (c.toNat : Int))) = false := by rw [hb]; simp
    have h1 : ¬ (1 : Int) ≤ s.size := by omega
    rw [hB]
    go_enter Tryz.func147, Tryz.ntmps147
    go_wp2
    go_ret
    exact ⟨rfl, rfl⟩

set_option maxHeartbeats 400000 in
theorem lcp_p (s : ByteArray) (c : UInt8) (w : World) (hs : s.size ≤ maxLen) :
    Calls Tryz.prog 183 #[.string s, .string ⟨#[c]⟩] w fun e w' => e = .returned (.tuple #[.string (if (bl s).head? = some (c.toNat : Int) then s.extract 1 s.size else s), .bool (decide ((bl s).head? = some (c.toNat : Int)))]) ∧ w' = w := by
  have m1 := pre_p s c w hs
  unfold maxLen at hs
  have HM : Hid _ := And.intro m1 trivial
  clear m1
  by_cases h : (bl s).head? = some (c.toNat : Int)
  · have hp : 0 < s.size := by
      by_cases h0 : 0 < s.size
      · exact h0
      · rw [bl_nil (by omega)] at h; simp at h
    rw [if_pos h, decide_eq_true h]
    rw [decide_eq_true h] at HM
    have h1 : (1 : Int) ≤ s.size := by omega
    clear h
    go_enter Tryz.func183, Tryz.ntmps183
    go_wp2_with (first | (go_at_call 147; refine Calls.mono HM.out.1 ?_; rintro e w' ⟨rfl, rfl⟩))
    go_ret2
    exact ⟨rfl, rfl⟩
  · rw [if_neg h, decide_eq_false h]
    rw [decide_eq_false h] at HM
    clear h
    go_enter Tryz.func183, Tryz.ntmps183
    go_wp2_with (first | (go_at_call 147; refine Calls.mono HM.out.1 ?_; rintro e w' ⟨rfl, rfl⟩))
    go_ret2
    exact ⟨rfl, rfl⟩
set_option maxHeartbeats 400000 in
theorem cp_p (s : ByteArray) (c : UInt8) (w : World) (hs : s.size ≤ maxLen) :
    Calls Tryz.prog 156 #[.string s, .string ⟨#[c]⟩] w fun e w' => e = .returned (.tuple #[.string (if (bl s).head? = some (c.toNat : Int) then s.extract 1 s.size else s), .bool (decide ((bl s).head? = some (c.toNat : Int)))]) ∧ w' = w := by
  have HM : Hid _ := And.intro (lcp_p s c w hs) trivial
  generalize (if (bl s).head? = some (c.toNat : Int) then s.extract 1 s.size else s) = r at *
  generalize (decide ((bl s).head? = some (c.toNat : Int))) = b at *
  go_enter Tryz.func156, Tryz.ntmps156
  go_wp2_with (first | (go_at_call 183; refine Calls.mono HM.out.1 ?_; rintro e w' ⟨rfl, rfl⟩))
  go_ret2
  exact ⟨rfl, rfl⟩
end Go.Proofs.YtgaegajcejpmdaaGreatDoor.Dt
namespace Go.Proofs.YtgaegajcejpmdaaGreatDoor.Dt
open Go.RowKit
set_option linter.unusedVariables false

theorem dgs_len (l : List Int) : dgs l ≤ l.length := (List.takeWhile_sublist _).length_le
theorem dgs_cons (c : Int) (l : List Int) : dgs (c :: l) = if isD c then dgs l + 1 else 0 := by
  unfold dgs
  rw [List.takeWhile_cons]
  split <;> simp
theorem dgs_get : ∀ (l : List Int) (j : Nat) (h : j < dgs l), isD (l[j]'(Nat.lt_of_lt_of_le h (dgs_len l))) = true
  | [], j, h => by simp [dgs] at h
  | c :: l, j, h => by
    have hc := dgs_cons c l
    by_cases hd : isD c = true
    · rw [if_pos hd] at hc
      cases j with
      | zero => simpa using hd
      | succ j => simpa using dgs_get l j (by omega)
    · rw [if_neg hd] at hc; omega
theorem dgs_stop : ∀ (l : List Int) (h : dgs l < l.length), isD (l[dgs l]'h) = false
  | [], h => by simp at h
  | c :: l, h => by
    have hc := dgs_cons c l
    by_cases hd : isD c = true
    · rw [if_pos hd] at hc
      have h' : dgs l < l.length := by rw [hc] at h; simpa using h
      have := dgs_stop l h'
      simpa [hc] using this
    · rw [if_neg hd] at hc
      simpa [hc] using hd
theorem dvl_take {l : List Int} {j : Nat} (h : j < l.length) : dvl (l.take (j + 1)) = 10 * dvl (l.take j) + (l[j] - 48) := by
  rw [List.take_succ_eq_append_getElem h]
  unfold dvl
  rw [List.foldl_append]
  rfl
theorem dvl_bd {l : List Int} {j : Nat} (h : j ≤ dgs l) (h9 : j ≤ 9) : 0 ≤ dvl (l.take j) ∧ dvl (l.take j) < 1000000000 := by
  obtain ⟨a, b⟩ := dgs_take h
  have := dvl_in _ a
  rw [b] at this
  have hp : (10 : Int) ^ j ≤ 10 ^ 9 := by
    have : (10 : Nat) ^ j ≤ 10 ^ 9 := Nat.pow_le_pow_right (by omega) h9
    exact_mod_cast this
  omega
theorem bl_get (s : ByteArray) (j : Nat) (h : j < s.size) (h' : j < (bl s).length) : (bl s)[j] = ((s[j]'h).toNat : Int) := by
  have h2 : j < s.data.toList.length := by simpa using h
  show (s.data.toList.map fun c => (c.toNat : Int))[j]'(by simpa using h) = _
  rw [List.getElem_map]
  simp
  rfl
/-- How many digits are taken. -/
def dk (most : Nat) (l : List Int) : Nat := min (dgs l) most
set_option maxHeartbeats 800000 in
theorem digits_p (s : ByteArray) (most : Nat) (w : World) (hs : s.size ≤ maxLen) (hm : most ≤ 9) :
    Calls Tryz.prog 189 #[.string s, .int .i64 (most : Int)] w fun e w' => e = .returned (.tuple #[.int .i64 (dvl ((bl s).take (dk most (bl s)))), .int .i64 (dk most (bl s) : Nat)]) ∧ w' = w := by
  have hL := bl_len s
  have hdl := dgs_len (bl s)
  unfold maxLen at hs
  obtain ⟨K, hK⟩ : ∃ K, dk most (bl s) = K := ⟨_, rfl⟩
  have hK1 : K ≤ dgs (bl s) := by rw [← hK]; unfold dk; omega
  have hK2 : K ≤ most := by rw [← hK]; unfold dk; omega
  have hK3 : K = dgs (bl s) ∨ K = most := by rw [← hK]; unfold dk; omega
  rw [hK]
  clear hK
  obtain ⟨N, hN⟩ : ∃ N : Nat, min s.size most = N := ⟨_, rfl⟩
  have hN1 : N ≤ s.size := by omega
  have hN2 : N ≤ most := by omega
  have hN3 : K ≤ N := by omega
  have hN4 : N = s.size ∨ N = most := by omega
  have hN5 : (most : Int) < (s.size : Int) → N = most := by omega
  have hN6 : ¬ (most : Int) < (s.size : Int) → N = s.size := by omega
  have HN : Hid _ := And.intro hN5 hN6
  clear hN4 hN5 hN6
  have hm' : (most : Int) ≤ 9 := by omega
  clear hN
  have HS : Hid (∀ j, j < K → dvl ((bl s).take (j + 1)) = 10 * dvl ((bl s).take j) + (((s[j]?).getD 0).toNat - 48 : Int)) := (fun j hj => by
    have h1 : j < s.size := by omega
    rw [dvl_take (by omega), bl_get s j h1]
    simp [h1] : ∀ j, j < K → dvl ((bl s).take (j + 1)) = 10 * dvl ((bl s).take j) + (((s[j]?).getD 0).toNat - 48 : Int))
  have HD : Hid (∀ j (h : j < s.size), j < K → 48 ≤ ((s[j]'h).toNat : Int) ∧ ((s[j]'h).toNat : Int) ≤ 57) := (fun j h hj => by
    have := dgs_get (bl s) j (by omega)
    rw [bl_get s j h] at this
    simpa [isD] using this : ∀ j (h : j < s.size), j < K → 48 ≤ ((s[j]'h).toNat : Int) ∧ ((s[j]'h).toNat : Int) ≤ 57)
  have HE : Hid (∀ (h : K < s.size), K < N → ¬ (48 ≤ ((s[K]'h).toNat : Int) ∧ ((s[K]'h).toNat : Int) ≤ 57)) := (fun h hj => by
    have he : K = dgs (bl s) := by omega
    have := dgs_stop (bl s) (by omega)
    have e2 : (bl s)[dgs (bl s)]'(by omega) = (bl s)[K]'(by omega) := by congr 1; exact he.symm
    rw [e2, bl_get s K h] at this
    simp only [isD] at this
    intro q
    simp [q.1, q.2] at this : ∀ (h : K < s.size), K < N → ¬ (48 ≤ ((s[K]'h).toNat : Int) ∧ ((s[K]'h).toNat : Int) ≤ 57))
  have HB : Hid (∀ j, j ≤ K → 0 ≤ dvl ((bl s).take j) ∧ dvl ((bl s).take j) < 1000000000) := (fun j hj => dvl_bd (by omega) (by omega) : ∀ j, j ≤ K → 0 ≤ dvl ((bl s).take j) ∧ dvl ((bl s).take j) < 1000000000)
  clear hL hdl hK1 hK3
  go_enter Tryz.func189, Tryz.ntmps189
  go_wp2_with fail
  go_loopg [4, 5] K (fun g v4 v5 wr => ∃ j : Nat, j + g = K ∧ v5 = .int .i64 (j : Int) ∧ v4 = .int .i64 (dvl ((bl s).take j)) ∧ wr = w)
  case atStart => exact ⟨0, by omega, rfl, by simp [dvl], rfl⟩
  case round =>
    obtain ⟨j, hjg, rfl, rfl, hwr⟩ := hrel
    have hw3 := hwr.symm
    clear hwr
    subst hw3
    obtain ⟨hb0, hb1⟩ := HB.out j (by omega)
    by_cases hlt : j < K
    · obtain ⟨g, rfl⟩ : ∃ g, gk = g + 1 := ⟨gk - 1, by omega⟩
      have hjs : j < s.size := by omega
      obtain ⟨c0, c1⟩ := HD.out j hjs hlt
      have hn := HS.out j hlt
      rw [show ((s[j]?).getD 0) = s[j] by simp [hjs]] at hn
      have HNX : Hid _ := hn
      clear hn
      have hjN : (j : Int) < (N : Int) := by omega
      generalize dvl ((bl s).take j) = V at *
      by_cases hms : (most : Int) < (s.size : Int)
      · obtain rfl := HN.out.1 hms
        go_wp2_with fail
        go_roundg g
        case measure => omega
        case rel => exact ⟨j + 1, by omega, by simp, by rw [HNX.out], rfl⟩
      · obtain rfl := HN.out.2 (by omega)
        go_wp2_with fail
        go_roundg g
        case measure => omega
        case rel => exact ⟨j + 1, by omega, by simp, by rw [HNX.out], rfl⟩
    · have hjK : j = K := by omega
      subst hjK
      by_cases hjN : (j : Int) < (N : Int)
      · have hjs : j < s.size := by omega
        have hno := HE.out hjs (by omega)
        by_cases c0 : 48 ≤ ((s[j]'hjs).toNat : Int)
        · have c1 : ¬ ((s[j]'hjs).toNat : Int) ≤ 57 := fun q => hno ⟨c0, q⟩
          clear hno
          by_cases hms : (most : Int) < (s.size : Int)
          · obtain rfl := HN.out.1 hms
            go_wp2_with fail
            go_ret2
            exact ⟨rfl, rfl⟩
          · obtain rfl := HN.out.2 (by omega)
            go_wp2_with fail
            go_ret2
            exact ⟨rfl, rfl⟩
        · clear hno
          by_cases hms : (most : Int) < (s.size : Int)
          · obtain rfl := HN.out.1 hms
            go_wp2_with fail
            go_ret2
            exact ⟨rfl, rfl⟩
          · obtain rfl := HN.out.2 (by omega)
            go_wp2_with fail
            go_ret2
            exact ⟨rfl, rfl⟩
      · by_cases hms : (most : Int) < (s.size : Int)
        · obtain rfl := HN.out.1 hms
          go_wp2_with fail
          go_ret2
          exact ⟨rfl, rfl⟩
        · obtain rfl := HN.out.2 (by omega)
          go_wp2_with fail
          go_ret2
          exact ⟨rfl, rfl⟩
end Go.Proofs.YtgaegajcejpmdaaGreatDoor.Dt
namespace Go.Proofs.YtgaegajcejpmdaaGreatDoor.Dt
open Go.RowKit
set_option linter.unusedVariables false

/-- A field: its function and what it holds. -/
abbrev Fn := Nat × Array Value
abbrev fnV (f : Fn) : Value := .func (.func f.1) #[] f.2
/-- What a field does to a state and a text. -/
abbrev Gd (σ : Type) := σ → List Int → Option (σ × List Int)
/-- What a call of a field gives. -/
def FcP {σ : Type} (U : World) (O : Nat → Prop) (St : σ → World → Prop) (r : Option (σ × List Int)) (n : Nat) (e : Ending) (W' : World) : Prop :=
  ∃ (t : ByteArray) (b : Bool) (a' : σ), e = .returned (.tuple #[.string t, .bool b]) ∧ Fro O U W' ∧ St a' W' ∧ t.size ≤ n ∧ (match r with | some x => b = true ∧ a' = x.1 ∧ bl t = x.2 | none => b = false)
structure FC {σ : Type} (U : World) (O : Nat → Prop) (St : σ → World → Prop) (f : Fn) (g : Gd σ) : Prop where
  en : ∀ args w, (callFunc f.1 args).run Tryz.prog w = .ok (.enter f.1 args) w
  go : ∀ (W : World) (a : σ) (s : ByteArray), Fro O U W → St a W → s.size ≤ maxLen → Calls Tryz.prog f.1 (#[.string s] ++ f.2) W (FcP U O St (g a (bl s)) s.size)
/-- Fields one behind the other. -/
def runG {σ : Type} : List (Gd σ) → Gd σ
  | [], a, l => some (a, l)
  | g :: gs, a, l => (g a l).bind fun x => runG gs x.1 x.2
inductive FCs {σ : Type} (U : World) (O : Nat → Prop) (St : σ → World → Prop) : List Fn → List (Gd σ) → Prop
  | nil : FCs U O St [] []
  | cons {f : Fn} {g : Gd σ} {fs : List Fn} {gs : List (Gd σ)} : FC U O St f g → FCs U O St fs gs → FCs U O St (f :: fs) (g :: gs)
theorem FCs.len {σ : Type} {U : World} {O : Nat → Prop} {St : σ → World → Prop} {fs : List Fn} {gs : List (Gd σ)} (h : FCs U O St fs gs) : fs.length = gs.length := by
  induction h with
  | nil => rfl
  | cons _ _ ih => simp [ih]
theorem FCs.drop {σ : Type} {U : World} {O : Nat → Prop} {St : σ → World → Prop} : ∀ {fs : List Fn} {gs : List (Gd σ)} (h : FCs U O St fs gs) (i : Nat), FCs U O St (fs.drop i) (gs.drop i)
  | _, _, .nil, i => by simpa using FCs.nil
  | _, _, .cons a b, 0 => .cons a b
  | _, _, .cons a b, i + 1 => by simpa using b.drop i
/-- What read gives. -/
def RdP {σ : Type} (U : World) (O : Nat → Prop) (St : σ → World → Prop) (r : Option (σ × List Int)) (n : Nat) (e : Ending) (W' : World) : Prop :=
  ∃ (t : ByteArray) (b : Bool) (a' : σ), e = .returned (.tuple #[.string t, .bool b]) ∧ Fro O U W' ∧ St a' W' ∧ t.size ≤ n ∧ (match r with | some x => b = true ∧ a' = x.1 ∧ bl t = x.2 | none => b = false ∧ t = ⟨#[]⟩)
set_option maxHeartbeats 800000 in
theorem read_p {σ : Type} {U : World} {O : Nat → Prop} {St : σ → World → Prop} {fs : List Fn} {gs : List (Gd σ)} (hf : FCs U O St fs gs) (B : Nat) (hB : U.heap[B]? = some (.cells (fs.map fnV).toArray 138 (0, 0))) (hO : ¬ O B) (hn : fs.length ≤ 100) (W : World) (a : σ) (s : ByteArray) (hW : Fro O U W) (ha : St a W) (hs : s.size ≤ maxLen) :
    Calls Tryz.prog 154 #[.string s, .slice (some ⟨B, 0, none⟩) fs.length fs.length] W (RdP U O St (runG gs a (bl s)) s.size) := by
  have hlen := hf.len
  have HF : Hid _ := And.intro hf (And.intro hB (And.intro hlen (And.intro hO hs)))
  have HW : Hid _ := And.intro hW ha
  clear hf hB hlen hO hW ha
  obtain ⟨N, hN⟩ : ∃ N, fs.length = N := ⟨_, rfl⟩
  have HN : Hid _ := hN
  rw [hN] at hn ⊢
  clear hN
  unfold maxLen at hs
  obtain ⟨R, hR⟩ : ∃ R, runG gs a (bl s) = R := ⟨_, rfl⟩
  rw [hR]
  have HR : Hid _ := hR
  clear hR
  go_enter Tryz.func154, Tryz.ntmps154
  go_wp2_with fail
  go_loopg [0, 5, 10] N (fun g v0 v5 v10 wr => ∃ (i : Nat) (t : ByteArray) (a' : σ) (b : Bool), i + g = N ∧ v10 = .int .i64 (i : Int) ∧ v0 = .string t ∧ v5 = .bool b ∧ t.size ≤ s.size ∧ runG (gs.drop i) a' (bl t) = R ∧ Fro O U wr ∧ St a' wr)
  case atStart => exact ⟨0, s, a, false, by omega, rfl, rfl, rfl, Nat.le_refl _, HR.out, HW.out.1, HW.out.2⟩
  case round =>
    obtain ⟨i, t, a', b, hig, rfl, rfl, rfl, hts, hrg, hfr, hst⟩ := hrel
    by_cases hlt : (i : Int) < (N : Int)
    · obtain ⟨g, rfl⟩ : ∃ g, gk = g + 1 := ⟨gk - 1, by omega⟩
      have hi1 : i < fs.length := by have := HN.out; omega
      have hi2 : i < gs.length := by have := HF.out.2.2.1; omega
      have hd := HF.out.1.drop i
      rw [List.drop_eq_getElem_cons hi1, List.drop_eq_getElem_cons hi2] at hd
      obtain ⟨f, hfe⟩ : ∃ f, fs[i] = f := ⟨_, rfl⟩
      obtain ⟨gg, hge⟩ : ∃ gg, gs[i] = gg := ⟨_, rfl⟩
      have hcell : wr.cell? ⟨B, i, none⟩ = some (fnV f) := by
        have hb := hfr.at HF.out.2.1 HF.out.2.2.2.1
        simp only [World.cell?, hb]
        simp [hi1, hfe]
      rw [hfe, hge] at hd
      rw [List.drop_eq_getElem_cons hi2, hge] at hrg
      cases hd with
      | cons hc hcs =>
      have hen := hc.en
      have hgo := hc.go wr a' t hfr hst (by unfold maxLen; omega)
      have HG : Hid _ := And.intro hgo (And.intro hrg trivial)
      clear hgo hrg hc hcs hfr hst hfe hge hi1 hi2
      obtain ⟨f1, f2⟩ := f
      dsimp only at *
      go_wp2_with fail
      refine Calls.mono HG.out.1 ?_
      rintro e w1 ⟨t1, b1, a1, rfl, hfr1, hst1, hts1, hm⟩
      have hrg := HG.out.2.1
      rw [runG] at hrg
      clear HG
      cases hgx : gg a' (bl t) with
      | none =>
        rw [hgx] at hm hrg
        obtain rfl : b1 = false := hm
        have HE : Hid _ := And.intro hrg (And.intro hfr1 (And.intro hst1 trivial))
        clear hrg hfr1 hst1 hgx hen hcell hts1
        go_wp2_with fail
        go_ret2
        have hR2 : R = none := HE.out.1.symm
        refine ⟨⟨#[]⟩, false, a1, rfl, HE.out.2.1, HE.out.2.2.1, Nat.zero_le _, ?_⟩
        rw [hR2]
        exact ⟨rfl, rfl⟩
      | some x =>
        rw [hgx] at hm hrg
        obtain ⟨rfl, rfl, hbl⟩ := hm
        have hrg2 : runG (gs.drop (i + 1)) x.1 x.2 = R := hrg
        rw [← hbl] at hrg2
        have HE : Hid _ := And.intro hrg2 (And.intro hfr1 (And.intro hst1 trivial))
        have ht1 : t1.size ≤ s.size := by omega
        clear hrg hrg2 hfr1 hst1 hgx hen hcell hts1 hbl
        go_wp2_with fail
        go_roundg g
        case measure => omega
        case rel => exact ⟨i + 1, t1, x.1, true, by omega, by simp, rfl, rfl, ht1, HE.out.1, HE.out.2.1, HE.out.2.2.1⟩
    · have hiN : i = N := by omega
      subst hiN
      have hg2 : gs.drop i = [] := List.drop_eq_nil_of_le (by have := HF.out.2.2.1; have := HN.out; omega)
      rw [hg2] at hrg
      have HE : Hid _ := And.intro hrg (And.intro hfr (And.intro hst hts))
      clear hrg hfr hst hts hg2
      go_wp2_with fail
      go_ret2
      refine ⟨t, true, a', rfl, HE.out.2.1, HE.out.2.2.1, HE.out.2.2.2, ?_⟩
      rw [← HE.out.1]
      exact ⟨rfl, rfl, rfl⟩
/-- What whole gives. -/
def WhP {σ : Type} (U : World) (O : Nat → Prop) (St : σ → World → Prop) (r : Option (σ × List Int)) (e : Ending) (W' : World) : Prop :=
  ∃ (b : Bool) (a' : σ), e = .returned (.bool b) ∧ Fro O U W' ∧ St a' W' ∧ (b = true → r = some (a', [])) ∧ (b = false → ∀ x, r = some x → x.2 ≠ [])
theorem bl_inj {s t : ByteArray} (h : bl s = bl t) : s = t := by
  have h1 : s.data.toList = t.data.toList := by
    have := congrArg (List.map fun c : Int => UInt8.ofNat c.toNat) h
    simpa [bl, List.map_map, Function.comp_def] using this
  exact ByteArray.ext (Array.toList_inj.1 h1)
set_option maxHeartbeats 400000 in
theorem whole_p {σ : Type} {U : World} {O : Nat → Prop} {St : σ → World → Prop} {fs : List Fn} {gs : List (Gd σ)} (hf : FCs U O St fs gs) (B : Nat) (hB : U.heap[B]? = some (.cells (fs.map fnV).toArray 138 (0, 0))) (hO : ¬ O B) (hn : fs.length ≤ 100) (W : World) (a : σ) (s : ByteArray) (hW : Fro O U W) (ha : St a W) (hs : s.size ≤ maxLen) :
    Calls Tryz.prog 113 #[.string s, .slice (some ⟨B, 0, none⟩) fs.length fs.length] W (WhP U O St (runG gs a (bl s))) := by
  have HM : Hid _ := And.intro (read_p hf B hB hO hn W a s hW ha hs) trivial
  clear hW ha hf hB
  obtain ⟨N, hN⟩ : ∃ N, fs.length = N := ⟨_, rfl⟩
  rw [hN] at hn HM ⊢
  clear hN
  generalize runG gs a (bl s) = R at *
  go_enter Tryz.func113, Tryz.ntmps113
  go_wp2_with fail
  refine Calls.mono HM.out.1 ?_
  rintro e w1 ⟨t, b, a1, rfl, hfr, hst, hts, hm⟩
  cases R with
  | none =>
    obtain ⟨rfl, rfl⟩ := hm
    have HE : Hid _ := And.intro hfr (And.intro hst trivial)
    clear hfr hst
    go_wp2_with fail
    go_ret
    exact ⟨false, a1, rfl, HE.out.1, HE.out.2.1, (fun q => by cases q), fun _ x q => by cases q⟩
  | some x =>
    obtain ⟨rfl, rfl, hbl⟩ := hm
    have HE : Hid _ := And.intro hfr (And.intro hst hbl)
    clear hfr hst hbl
    by_cases h0 : t.size = 0
    · have hq := tl_ee h0
      have hx : x.2 = [] := by rw [← HE.out.2.2]; exact bl_nil h0
      have HX : Hid _ := hx
      clear hx h0
      go_wp2_with fail
      go_ret
      exact ⟨true, x.1, rfl, HE.out.1, HE.out.2.1, (fun _ => by rw [← HX.out]), fun q => by cases q⟩
    · have hq := tl_nn (show 0 < t.size by omega)
      have hx : x.2 ≠ [] := by
        rw [← HE.out.2.2]
        intro q
        have := bl_len t
        rw [q] at this
        simp at this
        omega
      have HX : Hid _ := And.intro hx trivial
      clear hx h0
      go_wp2_with fail
      go_ret
      exact ⟨false, x.1, rfl, HE.out.1, HE.out.2.1, (fun q => by cases q), fun _ y hy => by cases hy; exact HX.out.1⟩
end Go.Proofs.YtgaegajcejpmdaaGreatDoor.Dt
