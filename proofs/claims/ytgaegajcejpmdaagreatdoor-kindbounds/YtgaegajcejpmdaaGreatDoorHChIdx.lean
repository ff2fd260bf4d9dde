/- Contracts of the library's Index, Contains and Cut at a colon. -/
import Derived.Test.YtgaegajcejpmdaaGreatDoorHJ37
import Derived.Lib.Bytealg
namespace Go.Proofs.YtgaegajcejpmdaaGreatDoor.Ch
open Go.RowKit
set_option linter.unusedVariables false

/-- Where the first colon stands; -1: nowhere. -/
def ix : List Int → Int
  | [] => -1
  | b :: l => if b = 58 then 0 else if ix l = -1 then -1 else ix l + 1
theorem ix_lib (l : List UInt8) : Lib.indexByte l 58 = ix (l.map fun c => (c.toNat : Int)) := by
  induction l with
  | nil => rfl
  | cons b l ih =>
    simp only [Lib.indexByte, List.map_cons, ix, ih]
    have e : (b == 58) = decide ((b.toNat : Int) = 58) := by
      rw [Bool.eq_iff_iff]; simp
      constructor
      · rintro rfl; rfl
      · intro h; exact UInt8.toNat_inj.1 (by simpa using (by omega : b.toNat = 58))
    rw [e]
    simp
theorem ix_bd (l : List Int) : ix l = -1 ∨ (0 ≤ ix l ∧ ix l < l.length) := by
  induction l with
  | nil => simp [ix]
  | cons b l ih =>
    have : ((b :: l).length : Int) = l.length + 1 := by simp
    rw [this]
    simp only [ix]
    by_cases h1 : b = 58
    · rw [if_pos h1]; omega
    · rw [if_neg h1]
      by_cases h2 : ix l = -1
      · rw [if_pos h2]; omega
      · rw [if_neg h2]; omega
theorem colon_run (s : ByteArray) (c : Int) (w : World) : (callFunc 215 #[.string s, .int .u8 c]).run Tryz.prog w = .ok (.value (.int .i64 (Lib.indexByte s.data.toList c.toNat.toUInt8))) w := by
  rw [run_callFunc_extern Tryz.func215 (by kernel_rfl) (by kernel_rfl) (by kernel_rfl) (e := Extern.BytealgIndexByte.indexByte) (by kernel_rfl), Lib.run_indexByteString]
  rfl

set_option maxHeartbeats 400000 in
theorem index_any (s : ByteArray) (w : World) :
    Calls Tryz.prog 176 #[.string s, .string ⟨#[58]⟩] w fun e w' => e = .returned (.int .i64 (ix (bl s))) ∧ w' = w := by
  have hr := colon_run s
  go_enter Tryz.func176, Tryz.ntmps176
  go_wp2
  · go_ret
    refine ⟨ret_int ?_, rfl⟩
    have h : s.toList = [58] := (beq_iff_eq.1 ‹_›).symm
    have : bl s = [58] := by unfold bl; rw [← Lib.toList_data, h]; rfl
    rw [this]; rfl
  · go_ret
    refine ⟨ret_int ?_, rfl⟩
    exact ix_lib s.data.toList

set_option maxHeartbeats 400000 in
theorem contains_any (s : ByteArray) (w : World) :
    Calls Tryz.prog 108 #[.string s, .string ⟨#[58]⟩] w fun e w' => e = .returned (.bool (decide (0 ≤ ix (bl s)))) ∧ w' = w := by
  go_enter Tryz.func108, Tryz.ntmps108
  go_wp2_with (first | (go_at_call 176; refine (index_any _ _).mono ?_; rintro e w' ⟨rfl, rfl⟩) | go_in)
  go_ret
  exact ⟨rfl, rfl⟩

set_option maxHeartbeats 400000 in
theorem lcut_no (s : ByteArray) (w : World) (h : ix (bl s) = -1) :
    Calls Tryz.prog 148 #[.string s, .string ⟨#[58]⟩] w fun e w' => e = .returned (.tuple #[.string s, .string ⟨#[]⟩, .bool false]) ∧ w' = w := by
  go_enter Tryz.func148, Tryz.ntmps148
  go_wp2_with (go_at_call 176; refine (index_any _ _).mono ?_; rintro e w' ⟨rfl, rfl⟩)
  go_ret3
  exact ⟨rfl, rfl⟩
set_option maxHeartbeats 400000 in
theorem cut_no (s : ByteArray) (w : World) (h : ix (bl s) = -1) :
    Calls Tryz.prog 105 #[.string s, .string ⟨#[58]⟩] w fun e w' => e = .returned (.tuple #[.string s, .string ⟨#[]⟩, .bool false]) ∧ w' = w := by
  go_enter Tryz.func105, Tryz.ntmps105
  go_wp2_with (go_at_call 148; refine (lcut_no _ _ h).mono ?_; rintro e w' ⟨rfl, rfl⟩)
  go_ret3
  exact ⟨rfl, rfl⟩

set_option maxHeartbeats 400000 in
theorem lcut_yes (s : ByteArray) (k : Nat) (w : World) (hs : s.size ≤ maxLen) (h : ix (bl s) = (k : Int)) :
    Calls Tryz.prog 148 #[.string s, .string ⟨#[58]⟩] w fun e w' => e = .returned (.tuple #[.string (s.extract 0 k), .string (s.extract (k + 1) s.size), .bool true]) ∧ Below w.heap.size w w' := by
  have hk : k < s.size := by
    have := ix_bd (bl s)
    rw [h, bl_len] at this
    omega
  unfold maxLen at hs
  go_enter Tryz.func148, Tryz.ntmps148
  go_wp2_with (go_at_call 176; refine (index_any _ _).mono ?_; rintro e w' ⟨rfl, rfl⟩)
  go_region
  all_goals
    go_wp2
    go_ret3
    exact ⟨rfl, (Below.refl _ _).drew⟩
set_option maxHeartbeats 400000 in
theorem cut_yes (s : ByteArray) (k : Nat) (w : World) (hs : s.size ≤ maxLen) (h : ix (bl s) = (k : Int)) :
    Calls Tryz.prog 105 #[.string s, .string ⟨#[58]⟩] w fun e w' => e = .returned (.tuple #[.string (s.extract 0 k), .string (s.extract (k + 1) s.size), .bool true]) ∧ Below w.heap.size w w' := by
  go_enter Tryz.func105, Tryz.ntmps105
  go_wp2_with (go_at_call 148; refine (lcut_yes _ _ _ hs h).mono ?_; rintro e w' ⟨rfl, hb⟩)
  go_ret3
  exact ⟨rfl, hb⟩

def ncB (l : List Int) : Bool := nameB l && !decide (0 ≤ ix l)
set_option maxHeartbeats 400000 in
theorem nc_any (s : ByteArray) (w : World) (hs : s.size ≤ maxLen) :
    Calls Tryz.prog 103 #[.string s] w fun e w' => e = .returned (.bool (ncB (bl s))) ∧ Below w.heap.size w w' := by
  by_cases h : nameB (bl s) = true
  · go_enter Tryz.func103, Tryz.ntmps103
    go_wp2_with (first | (go_at_call 102; refine (name_any _ _ hs).mono ?_; rintro e w' ⟨rfl, hb⟩) | (go_at_call 108; refine (contains_any _ _).mono ?_; rintro e w' ⟨rfl, rfl⟩))
    go_ret
    exact ⟨ret_bool (by unfold ncB; rw [h]; rfl), ‹_›⟩
  · have h' : nameB (bl s) = false := by simpa using h
    clear h
    go_enter Tryz.func103, Tryz.ntmps103
    go_wp2_with (first | (go_at_call 102; refine (name_any _ _ hs).mono ?_; rintro e w' ⟨rfl, hb⟩) | (go_at_call 108; refine (contains_any _ _).mono ?_; rintro e w' ⟨rfl, rfl⟩))
    go_ret
    exact ⟨ret_bool (by unfold ncB; rw [h']; rfl), ‹_›⟩

def qn (s : ByteArray) : ByteArray × ByteArray × Bool :=
  if ix (bl s) = -1 then (if ncB (bl s) = true then (⟨#[]⟩, s, true) else (⟨#[]⟩, ⟨#[]⟩, false))
  else if ncB (bl (s.extract 0 (ix (bl s)).toNat)) = true ∧ ncB (bl (s.extract ((ix (bl s)).toNat + 1) s.size)) = true then (s.extract 0 (ix (bl s)).toNat, s.extract ((ix (bl s)).toNat + 1) s.size, true)
  else (⟨#[]⟩, ⟨#[]⟩, false)
theorem ret_ssb {a b a' b' : ByteArray} {c : Bool} {p : ByteArray × ByteArray × Bool} (h : p = (a, b, c)) : Ending.returned (.tuple #[.string a, .string b, .bool c]) = .returned (.tuple #[.string p.1, .string p.2.1, .bool p.2.2]) := by rw [h]

end Go.Proofs.YtgaegajcejpmdaaGreatDoor.Ch
