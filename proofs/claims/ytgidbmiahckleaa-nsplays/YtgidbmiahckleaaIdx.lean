/- Contracts of the library's Index, Contains and Cut at a colon. -/
import Derived.Test.YtgidbmiahckleaaTok
import Derived.Lib.Bytealg
namespace Go.Proofs.Ytgidbmiahckleaa
open Go.RowKit
set_option linter.unusedVariables false

/-- Where the first colon stands; -1: nowhere. -/
def ix : List Int → Int
  | [] => -1
  | b :: l => if b = 58 then 0 else if ix l = -1 then -1 else ix l + 1
theorem ix_lib (l : List UInt8) : Lib.indexByte l 58 = ix (l.map fun c => (c.toNat : Int)) := by
  induction l with
  | nil => rfl
  | cons b l ih =>
    simp only [Lib.indexByte, List.map_cons, ix, ih]
    have e : (b == 58) = decide ((b.toNat : Int) = 58) := by
      rw [Bool.eq_iff_iff]; simp
      constructor
      · rintro rfl; rfl
      · intro h; exact UInt8.toNat_inj.1 (by simpa using (by omega : b.toNat = 58))
    rw [e]
    simp
theorem ix_bd (l : List Int) : ix l = -1 ∨ (0 ≤ ix l ∧ ix l < l.length) := by
  induction l with
  | nil => simp [ix]
  | cons b l ih =>
    have : ((b :: l).length : Int) = l.length + 1 := by simp
    rw [this]
    simp only [ix]
    by_cases h1 : b = 58
    · rw [if_pos h1]; omega
    · rw [if_neg h1]
      by_cases h2 : ix l = -1
      · rw [if_pos h2]; omega
      · rw [if_neg h2]; omega
theorem colon_run (s : ByteArray) (c : Int) (w : World) : (callFunc 91 #[.string s, .int .u8 c]).run Try.prog w = .ok (.value (.int .i64 (Lib.indexByte s.data.toList c.toNat.toUInt8))) w := by
  rw [run_callFunc_extern Try.func91 (by kernel_rfl) (by kernel_rfl) (by kernel_rfl) (e := Extern.BytealgIndexByte.indexByte) (by kernel_rfl), Lib.run_indexByteString]
  rfl

set_option maxHeartbeats 400000 in
theorem index_any (s : ByteArray) (w : World) :
    Calls Try.prog 72 #[.string s, .string ⟨#[58]⟩] w fun e w' => e = .returned (.int .i64 (ix (bl s))) ∧ w' = w := by
  have hr := colon_run s
  go_enter Try.func72, Try.ntmps72
  go_wp2
  · go_ret
    refine ⟨ret_int ?_, rfl⟩
    have h : s.toList = [58] := (beq_iff_eq.1 ‹_›).symm
    have : bl s = [58] := by unfold bl; rw [← Lib.toList_data, h]; rfl
    rw [this]; rfl
  · go_ret
    refine ⟨ret_int ?_, rfl⟩
    exact ix_lib s.data.toList

set_option maxHeartbeats 400000 in
theorem contains_any (s : ByteArray) (w : World) :
    Calls Try.prog 48 #[.string s, .string ⟨#[58]⟩] w fun e w' => e = .returned (.bool (decide (0 ≤ ix (bl s)))) ∧ w' = w := by
  go_enter Try.func48, Try.ntmps48
  go_wp2_with (first | (go_at_call 72; refine (index_any _ _).mono ?_; rintro e w' ⟨rfl, rfl⟩) | go_in)
  go_ret
  exact ⟨rfl, rfl⟩

set_option maxHeartbeats 400000 in
theorem lcut_no (s : ByteArray) (w : World) (h : ix (bl s) = -1) :
    Calls Try.prog 51 #[.string s, .string ⟨#[58]⟩] w fun e w' => e = .returned (.tuple #[.string s, .string ⟨#[]⟩, .bool false]) ∧ w' = w := by
  go_enter Try.func51, Try.ntmps51
  go_wp2_with (go_at_call 72; refine (index_any _ _).mono ?_; rintro e w' ⟨rfl, rfl⟩)
  go_ret3
  exact ⟨rfl, rfl⟩
set_option maxHeartbeats 400000 in
theorem cut_no (s : ByteArray) (w : World) (h : ix (bl s) = -1) :
    Calls Try.prog 42 #[.string s, .string ⟨#[58]⟩] w fun e w' => e = .returned (.tuple #[.string s, .string ⟨#[]⟩, .bool false]) ∧ w' = w := by
  go_enter Try.func42, Try.ntmps42
  go_wp2_with (go_at_call 51; refine (lcut_no _ _ h).mono ?_; rintro e w' ⟨rfl, rfl⟩)
  go_ret3
  exact ⟨rfl, rfl⟩

set_option maxHeartbeats 400000 in
theorem lcut_yes (s : ByteArray) (k : Nat) (w : World) (hs : s.size ≤ maxLen) (h : ix (bl s) = (k : Int)) :
    Calls Try.prog 51 #[.string s, .string ⟨#[58]⟩] w fun e w' => e = .returned (.tuple #[.string (s.extract 0 k), .string (s.extract (k + 1) s.size), .bool true]) ∧ Below w.heap.size w w' := by
  have hk : k < s.size := by
    have := ix_bd (bl s)
    rw [h, bl_len] at this
    omega
  unfold maxLen at hs
  go_enter Try.func51, Try.ntmps51
  go_wp2_with (go_at_call 72; refine (index_any _ _).mono ?_; rintro e w' ⟨rfl, rfl⟩)
  go_region
  all_goals
    go_wp2
    go_ret3
    exact ⟨rfl, (Below.refl _ _).drew⟩
set_option maxHeartbeats 400000 in
theorem cut_yes (s : ByteArray) (k : Nat) (w : World) (hs : s.size ≤ maxLen) (h : ix (bl s) = (k : Int)) :
    Calls Try.prog 42 #[.string s, .string ⟨#[58]⟩] w fun e w' => e = .returned (.tuple #[.string (s.extract 0 k), .string (s.extract (k + 1) s.size), .bool true]) ∧ Below w.heap.size w w' := by
  go_enter Try.func42, Try.ntmps42
  go_wp2_with (go_at_call 51; refine (lcut_yes _ _ _ hs h).mono ?_; rintro e w' ⟨rfl, hb⟩)
  go_ret3
  exact ⟨rfl, hb⟩

def ncB (l : List Int) : Bool := nameB l && !decide (0 ≤ ix l)
set_option maxHeartbeats 400000 in
theorem nc_any (s : ByteArray) (w : World) (hs : s.size ≤ maxLen) :
    Calls Try.prog 38 #[.string s] w fun e w' => e = .returned (.bool (ncB (bl s))) ∧ Below w.heap.size w w' := by
  by_cases h : nameB (bl s) = true
  · go_enter Try.func38, Try.ntmps38
    go_wp2_with (first | (go_at_call 47; refine (name_any _ _ hs).mono ?_; rintro e w' ⟨rfl, hb⟩) | (go_at_call 48; refine (contains_any _ _).mono ?_; rintro e w' ⟨rfl, rfl⟩))
    go_ret
    exact ⟨ret_bool (by unfold ncB; rw [h]; rfl), ‹_›⟩
  · have h' : nameB (bl s) = false := by simpa using h
    clear h
    go_enter Try.func38, Try.ntmps38
    go_wp2_with (first | (go_at_call 47; refine (name_any _ _ hs).mono ?_; rintro e w' ⟨rfl, hb⟩) | (go_at_call 48; refine (contains_any _ _).mono ?_; rintro e w' ⟨rfl, rfl⟩))
    go_ret
    exact ⟨ret_bool (by unfold ncB; rw [h']; rfl), ‹_›⟩

def qn (s : ByteArray) : ByteArray × ByteArray × Bool :=
  if ix (bl s) = -1 then (if ncB (bl s) = true then (⟨#[]⟩, s, true) else (⟨#[]⟩, ⟨#[]⟩, false))
  else if ncB (bl (s.extract 0 (ix (bl s)).toNat)) = true ∧ ncB (bl (s.extract ((ix (bl s)).toNat + 1) s.size)) = true then (s.extract 0 (ix (bl s)).toNat, s.extract ((ix (bl s)).toNat + 1) s.size, true)
  else (⟨#[]⟩, ⟨#[]⟩, false)
theorem ret_ssb {a b a' b' : ByteArray} {c : Bool} {p : ByteArray × ByteArray × Bool} (h : p = (a, b, c)) : Ending.returned (.tuple #[.string a, .string b, .bool c]) = .returned (.tuple #[.string p.1, .string p.2.1, .bool p.2.2]) := by rw [h]

theorem qname_any (s : ByteArray) (w : World) (hs : s.size ≤ maxLen) :
    Calls Try.prog 32 #[.string s] w fun e w' => e = .returned (.tuple #[.string (qn s).1, .string (qn s).2.1, .bool (qn s).2.2]) ∧ Below w.heap.size w w' := by
  rcases ix_bd (bl s) with h | ⟨h0, h1⟩
  · by_cases g : ncB (bl s) = true
    · have hq : Hid (qn s = (⟨#[]⟩, s, true)) := by show _ = _; unfold qn; rw [if_pos h, if_pos g]
      go_enter Try.func32, Try.ntmps32
      go_wp2_with (first | (go_at_call 42; refine (cut_no _ _ h).mono ?_; rintro e w' ⟨rfl, rfl⟩) | (go_at_call 38; refine (nc_any _ _ hs).mono ?_; rintro e w' ⟨rfl, hb⟩))
      go_ret3
      refine ⟨?_, ‹_›⟩
      rw [hq.out]; rfl
    · have hq : Hid (qn s = (⟨#[]⟩, ⟨#[]⟩, false)) := by show _ = _; unfold qn; rw [if_pos h, if_neg g]
      have g' : ncB (bl s) = false := by simpa using g
      clear g
      go_enter Try.func32, Try.ntmps32
      go_wp2_with (first | (go_at_call 42; refine (cut_no _ _ h).mono ?_; rintro e w' ⟨rfl, rfl⟩) | (go_at_call 38; refine (nc_any _ _ hs).mono ?_; rintro e w' ⟨rfl, hb⟩))
      go_ret3
      refine ⟨?_, ‹_›⟩
      rw [hq.out]; rfl
  · obtain ⟨k, hk⟩ := Int.eq_ofNat_of_zero_le h0
    have hn : ¬ ix (bl s) = -1 := by omega
    have e1 : (ix (bl s)).toNat = k := by omega
    have s1 : (s.extract 0 k).size ≤ maxLen := by simp; omega
    have s2 : (s.extract (k + 1) s.size).size ≤ maxLen := by simp; omega
    have HK : Hid (ix (bl s) = (k : Int)) := hk
    by_cases g : ncB (bl (s.extract 0 k)) = true
    · by_cases g2 : ncB (bl (s.extract (k + 1) s.size)) = true
      · have hq : Hid (qn s = (s.extract 0 k, s.extract (k + 1) s.size, true)) := by show _ = _; unfold qn; rw [if_neg hn, e1, if_pos ⟨g, g2⟩]
        clear h0 h1 hn e1 hk
        go_enter Try.func32, Try.ntmps32
        go_wp2_with fail
        refine (cut_yes _ _ _ hs HK.out).mono ?_
        rintro e w1 ⟨rfl, hb1⟩
        go_wp2_with fail
        refine (nc_any _ _ s1).mono ?_
        rintro e w2 ⟨rfl, hb2⟩
        go_wp2_with fail
        refine (nc_any _ _ s2).mono ?_
        rintro e w3 ⟨rfl, hb3⟩
        go_wp2
        go_ret3
        refine ⟨?_, (hb1.trans (hb2.mono hb1.size)).trans (hb3.mono (Nat.le_trans hb1.size hb2.size))⟩
        rw [hq.out]; rfl
      · have hq : Hid (qn s = (⟨#[]⟩, ⟨#[]⟩, false)) := by show _ = _; unfold qn; rw [if_neg hn, e1, if_neg (fun h => g2 h.2)]
        have g2' : ncB (bl (s.extract (k + 1) s.size)) = false := by simpa using g2
        clear h0 h1 hn e1 hk g2
        go_enter Try.func32, Try.ntmps32
        go_wp2_with fail
        refine (cut_yes _ _ _ hs HK.out).mono ?_
        rintro e w1 ⟨rfl, hb1⟩
        go_wp2_with fail
        refine (nc_any _ _ s1).mono ?_
        rintro e w2 ⟨rfl, hb2⟩
        go_wp2_with fail
        refine (nc_any _ _ s2).mono ?_
        rintro e w3 ⟨rfl, hb3⟩
        go_wp2
        go_ret3
        refine ⟨?_, (hb1.trans (hb2.mono hb1.size)).trans (hb3.mono (Nat.le_trans hb1.size hb2.size))⟩
        rw [hq.out]; rfl
    · have hq : Hid (qn s = (⟨#[]⟩, ⟨#[]⟩, false)) := by show _ = _; unfold qn; rw [if_neg hn, e1, if_neg (fun h => g h.1)]
      have g' : ncB (bl (s.extract 0 k)) = false := by simpa using g
      clear h0 h1 hn e1 hk g
      go_enter Try.func32, Try.ntmps32
      go_wp2_with fail
      refine (cut_yes _ _ _ hs HK.out).mono ?_
      rintro e w1 ⟨rfl, hb1⟩
      go_wp2_with fail
      refine (nc_any _ _ s1).mono ?_
      rintro e w2 ⟨rfl, hb2⟩
      go_wp2
      go_ret3
      refine ⟨?_, hb1.trans (hb2.mono hb1.size)⟩
      rw [hq.out]; rfl
end Go.Proofs.Ytgidbmiahckleaa
