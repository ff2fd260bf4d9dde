/- Joined: HChSpec2, HChRight, HChTok, HChIdx. -/
import Derived.Test.YtgaegajcejpmdaaGreatDoorHJ18
import Derived.Test.YtgaegajcejpmdaaGreatDoorHJ19
import Derived.Laws.IdiomStrings
import Derived.Lib.Bytealg
namespace Go.Proofs.YtgaegajcejpmdaaGreatDoor.Ch

def rgt : Nat → List Int → Nat × Bool
  | 0, _ => (0, true)
  | n + 1, l => if l.length = 0 then (0, true) else if (dec l).2 = 0 ∨ isChar (dec l).1 = false then (0, false)
      else ((dec l).2.toNat + (rgt n (l.drop (dec l).2.toNat)).1, (rgt n (l.drop (dec l).2.toNat)).2)
def cnt : Nat → List Int → Nat
  | 0, _ => 0
  | n + 1, l => if l.length = 0 then 0 else 1 + cnt n (l.drop (max (dec l).2 1).toNat)
def tok : Nat → List Int → Bool
  | 0, _ => true
  | n + 1, l => if l.length = 0 then true else if (dec l).2 = 0 ∨ isPart (dec l).1 = false then false else tok n (l.drop (dec l).2.toNat)

theorem rgt_end (n : Nat) (l : List Int) (h : l.length = 0) : rgt n l = (0, true) := by
  cases n <;> simp [rgt, h]
theorem rgt_bad (n : Nat) (l : List Int) (h0 : ¬ l.length = 0) (h : (dec l).2 = 0 ∨ isChar (dec l).1 = false) : rgt (n + 1) l = (0, false) := by
  simp only [rgt]; rw [if_neg h0, if_pos h]
theorem rgt_step (n : Nat) (l : List Int) (h0 : ¬ l.length = 0) (h : ¬ ((dec l).2 = 0 ∨ isChar (dec l).1 = false)) :
    rgt (n + 1) l = ((dec l).2.toNat + (rgt n (l.drop (dec l).2.toNat)).1, (rgt n (l.drop (dec l).2.toNat)).2) := by
  simp only [rgt]; rw [if_neg h0, if_neg h]
theorem cnt_end (n : Nat) (l : List Int) (h : l.length = 0) : cnt n l = 0 := by
  cases n <;> simp [cnt, h]
theorem cnt_step (n : Nat) (l : List Int) (h0 : ¬ l.length = 0) : cnt (n + 1) l = 1 + cnt n (l.drop (max (dec l).2 1).toNat) := by
  simp only [cnt]; rw [if_neg h0]
theorem tok_end (n : Nat) (l : List Int) (h : l.length = 0) : tok n l = true := by
  cases n <;> simp [tok, h]
theorem tok_bad (n : Nat) (l : List Int) (h0 : ¬ l.length = 0) (h : (dec l).2 = 0 ∨ isPart (dec l).1 = false) : tok (n + 1) l = false := by
  simp only [tok]; rw [if_neg h0, if_pos h]
theorem tok_step (n : Nat) (l : List Int) (h0 : ¬ l.length = 0) (h : ¬ ((dec l).2 = 0 ∨ isPart (dec l).1 = false)) : tok (n + 1) l = tok n (l.drop (dec l).2.toNat) := by
  simp only [tok]; rw [if_neg h0, if_neg h]
end Go.Proofs.YtgaegajcejpmdaaGreatDoor.Ch
namespace Go.Proofs.YtgaegajcejpmdaaGreatDoor.Ch
open Go.RowKit
set_option linter.unusedVariables false

theorem getD_drop (l : List Int) (k i : Nat) : (l.drop k).getD i 0 = l.getD (k + i) 0 := by
  simp [List.getD_eq_getElem?_getD, List.getElem?_drop]
theorem Bts.drop {w : World} {b o : Nat} {l : List Int} (h : Bts w (some ⟨b, o, none⟩) l) (k : Nat) : Bts w (some ⟨b, o + k, none⟩) (l.drop k) := by
  refine ⟨fun i => by rw [getD_drop]; exact h.1 _, ?_⟩
  by_cases hk : k < l.length
  · rcases h.2 with rfl | ⟨b', o', he, hc⟩
    · simp at hk
    · refine .inr ⟨b, o + k, rfl, fun i hi => ?_⟩
      simp at he
      obtain ⟨rfl, rfl⟩ := he
      rw [getD_drop, Nat.add_assoc]
      exact hc (k + i) (by simp at hi; omega)
  · exact .inl (List.drop_eq_nil_of_le (by omega))
theorem decode_at (b o k : Nat) (l : List Int) (len cap : Nat) (w : World) (hl : l.length - k = len) (hc : l.length ≤ cap) (hm : cap ≤ maxLen) (hb : Bts w (some ⟨b, o, none⟩) l) :
    Calls Tryz.prog 144 #[.slice (some ⟨b, o + k, none⟩) len (cap - k)] w fun e w' => e = .returned (.tuple #[.int .i32 (dec (l.drop k)).1, .int .i64 (dec (l.drop k)).2]) ∧ w' = w := by
  have := decode_any _ _ (cap - k) w (by simp; omega) (by omega) (hb.drop k)
  rw [List.length_drop, hl] at this
  exact this
theorem rdecode_at (b o k : Nat) (l : List Int) (len cap : Nat) (w : World) (hl : l.length - k = len) (hc : l.length ≤ cap) (hm : cap ≤ maxLen) (hb : Bts w (some ⟨b, o, none⟩) l) :
    Calls Tryz.prog 166 #[.slice (some ⟨b, o + k, none⟩) len (cap - k)] w fun e w' => e = .returned (.tuple #[.int .i64 (dec (l.drop k)).1, .int .i64 (dec (l.drop k)).2]) ∧ w' = w := by
  have := rdecode_any _ _ (cap - k) w (by simp; omega) (by omega) (hb.drop k)
  rw [List.length_drop, hl] at this
  exact this

theorem ret_ib {a b : Int} {p q : Bool} (h : a = b) (g : p = q) : Ending.returned (.tuple #[.int .i64 a, .bool p]) = .returned (.tuple #[.int .i64 b, .bool q]) := by rw [h, g]

end Go.Proofs.YtgaegajcejpmdaaGreatDoor.Ch
namespace Go.Proofs.YtgaegajcejpmdaaGreatDoor.Ch
open Go.RowKit
set_option linter.unusedVariables false

/-- A text's bytes, as numbers. -/
def bl (s : ByteArray) : List Int := s.data.toList.map fun c => (c.toNat : Int)
theorem bl_len (s : ByteArray) : (bl s).length = s.size := by simp [bl]
theorem bl_bd (s : ByteArray) (i : Nat) : 0 ≤ (bl s).getD i 0 ∧ (bl s).getD i 0 < 256 := by
  unfold bl
  rw [List.getD_eq_getElem?_getD, List.getElem?_map]
  cases s.data.toList[i]? with
  | none => simp
  | some c => simp; have := c.toNat_lt; omega

theorem conv_bytes (s : ByteArray) (w : World) (hs : s.size ≤ maxLen) : ∃ cap w1, s.size ≤ cap ∧ cap ≤ maxLen ∧
    (convert 9 32 (.string s)).run Tryz.prog w = .ok (.slice (some ⟨w.heap.size, 0, none⟩) s.size cap) w1 ∧ Below w.heap.size w w1 ∧ w.heap.size < w1.heap.size ∧
    Bts w1 (some ⟨w.heap.size, 0, none⟩) (bl s) := by
  refine ⟨grownCap w s.size 0 5, _, grownCap_ge _ _ _ _, grownCap_le_maxLen _ _ _ _ hs, run_bytes_of_string w 9 32 5 s Tryz.underlying9 Tryz.underlying32 Tryz.underlying5, ?_, ?_, ?_⟩
  · exact (Below.refl _ _).drew.alloc (Nat.le_refl _) _
  · simp
  · refine ⟨bl_bd s, .inr ⟨_, _, rfl, fun i hi => ?_⟩⟩
    rw [bl_len] at hi
    have h := World.cell?_alloc_mark w.drew (bytesRow s (grownCap w s.size 0 5)) 5 ((bytesRow s (grownCap w s.size 0 5)).size, (bytesRow s (grownCap w s.size 0 5)).size + 1) i
    rw [Nat.zero_add]
    refine h.trans ?_
    rw [bytesRow_at s _ i hi]
    simp [bl, List.getD_eq_getElem?_getD, hi]

theorem decode_at0 (b k : Nat) (l : List Int) (len cap : Nat) (w : World) (hl : l.length - k = len) (hc : l.length ≤ cap) (hm : cap ≤ maxLen) (hb : Bts w (some ⟨b, 0, none⟩) l) :
    Calls Tryz.prog 144 #[.slice (some ⟨b, k, none⟩) len (cap - k)] w fun e w' => e = .returned (.tuple #[.int .i32 (dec (l.drop k)).1, .int .i64 (dec (l.drop k)).2]) ∧ w' = w := by
  have := decode_at b 0 k l len cap w hl hc hm hb
  rw [Nat.zero_add] at this
  exact this
theorem rdecode_at0 (b k : Nat) (l : List Int) (len cap : Nat) (w : World) (hl : l.length - k = len) (hc : l.length ≤ cap) (hm : cap ≤ maxLen) (hb : Bts w (some ⟨b, 0, none⟩) l) :
    Calls Tryz.prog 166 #[.slice (some ⟨b, k, none⟩) len (cap - k)] w fun e w' => e = .returned (.tuple #[.int .i64 (dec (l.drop k)).1, .int .i64 (dec (l.drop k)).2]) ∧ w' = w := by
  have := rdecode_at b 0 k l len cap w hl hc hm hb
  rw [Nat.zero_add] at this
  exact this

theorem max_ite (d : Int) : (if d < 1 then 1 else d) = max d 1 := by split <;> omega
def tokB (l : List Int) : Bool := tok l.length l && decide (0 < l.length)

set_option maxHeartbeats 400000 in
theorem tok_any (s : ByteArray) (w : World) (hs : s.size ≤ maxLen) :
    Calls Tryz.prog 101 #[.string s] w fun e w' => e = .returned (.bool (tokB (bl s))) ∧ Below w.heap.size w w' := by
  have hm := hs
  unfold maxLen at hm
  obtain ⟨cap, w1, hc, hcm, hrun, hbel, hsz, hb⟩ := conv_bytes s w hs
  have hcm' := hcm
  unfold maxLen at hcm'
  rw [← bl_len] at hrun hc hm
  generalize bl s = l at *
  go_enter Tryz.func101, Tryz.ntmps101
  go_wp2
  go_loop [4] (fun at_ => ∃ k n : Nat, k ≤ l.length ∧ l.length - k ≤ n ∧ at_ = .int .i64 k ∧ tok n (l.drop k) = tok l.length l) (fun i => l.length - (intOf i).toNat)
  case atStart => exact ⟨0, l.length, Nat.zero_le _, Nat.le_refl _, rfl, by simp⟩
  case round =>
    obtain ⟨k, n, hk, hn, rfl, r1⟩ := hrel
    have R1 : Hid _ := r1
    have HB : Hid _ := hbel
    clear r1 hbel hrun
    by_cases hlt : k < l.length
    · have hcp : ¬ cap = k := by omega
      have hd0 : ¬ (l.drop k).length = 0 := by simp; omega
      have hdb := dec_bd (l.drop k)
      obtain ⟨n, rfl⟩ : ∃ m, n = m + 1 := ⟨n - 1, by omega⟩
      by_cases hz : (dec (l.drop k)).2 = 0
      · have hs : Hid _ := tok_bad n _ hd0 (.inl hz)
        go_wp2_with (go_at_call 144; refine (decode_at0 _ k l _ cap _ rfl hc hcm hb).mono ?_; rintro e w' ⟨rfl, rfl⟩)
        go_ret
        exact ⟨ret_bool (by unfold tokB; rw [← R1.out, hs.out]; rfl), HB.out⟩
      · have hzb : ((dec (l.drop k)).2 == 0) = false := beq_eq_false_iff_ne.2 hz
        have hdl : (dec (l.drop k)).2 ≤ l.length - k := by
          rcases hdb with h | h
          · exact absurd h hz
          · have := h.2.2; simp at this; omega
        have hd1 : 1 ≤ (dec (l.drop k)).2 := by omega
        have hd4 : (dec (l.drop k)).2 ≤ 4 := by omega
        clear hdb
        by_cases hch : isPart (dec (l.drop k)).1 = false
        · have hs : Hid _ := tok_bad n _ hd0 (.inr hch)
          go_wp2_with (first | (go_at_call 144; refine (decode_at0 _ k l _ cap _ rfl hc hcm hb).mono ?_; rintro e w' ⟨rfl, rfl⟩) | (go_at_call 145; refine (part_any _ _).mono ?_; rintro e w' ⟨rfl, rfl⟩))
          go_ret
          exact ⟨ret_bool (by unfold tokB; rw [← R1.out, hs.out]; rfl), HB.out⟩
        · have hs : Hid _ := tok_step n _ hd0 (fun h => h.elim hz hch)
          have hch' : isPart (dec (l.drop k)).1 = true := by simpa using hch
          clear hch hz
          go_wp2_with (first | (go_at_call 144; refine (decode_at0 _ k l _ cap _ rfl hc hcm hb).mono ?_; rintro e w' ⟨rfl, rfl⟩) | (go_at_call 145; refine (part_any _ _).mono ?_; rintro e w' ⟨rfl, rfl⟩))
          go_round
          case rel =>
            refine ⟨k + (dec (l.drop k)).2.toNat, n, by omega, by omega, by rw [Int.natCast_add, Int.toNat_of_nonneg (by omega)], ?_⟩
            rw [← R1.out, hs.out, List.drop_drop]
          case measure => simp [intOf]; omega
    · have hs : Hid _ := tok_end n (l.drop k) (by simp; omega)
      go_wp2
      go_ret
      exact ⟨ret_bool (by unfold tokB; rw [← R1.out, hs.out]; simp), HB.out⟩

def nameB (l : List Int) : Bool := isStart (dec l).1 && tokB l

set_option maxHeartbeats 400000 in
theorem name_any (s : ByteArray) (w : World) (hs : s.size ≤ maxLen) :
    Calls Tryz.prog 102 #[.string s] w fun e w' => e = .returned (.bool (nameB (bl s))) ∧ Below w.heap.size w w' := by
  obtain ⟨cap, w1, hc, hcm, hrun, hbel, hsz, hb⟩ := conv_bytes s w hs
  have HB : Hid _ := hbel
  clear hbel
  rw [← bl_len] at hrun hc
  by_cases hst : isStart (dec (bl s)).1 = true
  · go_enter Tryz.func102, Tryz.ntmps102
    go_wp2_with (first | (go_at_call 144; refine (decode_any _ _ cap _ hc hcm hb).mono ?_; rintro e w' ⟨rfl, rfl⟩) | (go_at_call 146; refine (start_any _ _).mono ?_; rintro e w' ⟨rfl, rfl⟩))
    refine (tok_any s _ hs).mono ?_
    rintro e w2 ⟨rfl, hb2⟩
    go_wp2
    go_ret
    exact ⟨ret_bool (by unfold nameB; rw [hst]; rfl), HB.out.trans (hb2.mono (by omega))⟩
  · have hst' : isStart (dec (bl s)).1 = false := by simpa using hst
    clear hst
    go_enter Tryz.func102, Tryz.ntmps102
    go_wp2_with (first | (go_at_call 144; refine (decode_any _ _ cap _ hc hcm hb).mono ?_; rintro e w' ⟨rfl, rfl⟩) | (go_at_call 146; refine (start_any _ _).mono ?_; rintro e w' ⟨rfl, rfl⟩))
    go_ret
    exact ⟨ret_bool (by unfold nameB; rw [hst']; rfl), HB.out⟩

end Go.Proofs.YtgaegajcejpmdaaGreatDoor.Ch
namespace Go.Proofs.YtgaegajcejpmdaaGreatDoor.Ch
open Go.RowKit
set_option linter.unusedVariables false

/-- Where the first colon stands; -1: nowhere. -/
def ix : List Int → Int
  | [] => -1
  | b :: l => if b = 58 then 0 else if ix l = -1 then -1 else ix l + 1
theorem ix_lib (l : List UInt8) : Lib.indexByte l 58 = ix (l.map fun c => (c.toNat : Int)) := by
  induction l with
  | nil => rfl
  | cons b l ih =>
    simp only [Lib.indexByte, List.map_cons, ix, ih]
    have e : (b == 58) = decide ((b.toNat : Int) = 58) := by
      rw [Bool.eq_iff_iff]; simp
      constructor
      · rintro rfl; rfl
      · intro h; exact UInt8.toNat_inj.1 (by simpa using (by omega : b.toNat = 58))
    rw [e]
    simp
theorem ix_bd (l : List Int) : ix l = -1 ∨ (0 ≤ ix l ∧ ix l < l.length) := by
  induction l with
  | nil => simp [ix]
  | cons b l ih =>
    have : ((b :: l).length : Int) = l.length + 1 := by simp
    rw [this]
    simp only [ix]
    by_cases h1 : b = 58
    · rw [if_pos h1]; omega
    · rw [if_neg h1]
      by_cases h2 : ix l = -1
      · rw [if_pos h2]; omega
      · rw [if_neg h2]; omega
theorem colon_run (s : ByteArray) (c : Int) (w : World) : (callFunc 215 #[.string s, .int .u8 c]).run Tryz.prog w = .ok (.value (.int .i64 (Lib.indexByte s.data.toList c.toNat.toUInt8))) w := by
  rw [run_callFunc_extern Tryz.func215 (by kernel_rfl) (by kernel_rfl) (by kernel_rfl) (e := Extern.BytealgIndexByte.indexByte) (by kernel_rfl), Lib.run_indexByteString]
  rfl

set_option maxHeartbeats 400000 in
theorem index_any (s : ByteArray) (w : World) :
    Calls Tryz.prog 176 #[.string s, .string ⟨#[58]⟩] w fun e w' => e = .returned (.int .i64 (ix (bl s))) ∧ w' = w := by
  have hr := colon_run s
  go_enter Tryz.func176, Tryz.ntmps176
  go_wp2
  · go_ret
    refine ⟨ret_int ?_, rfl⟩
    have h : s.toList = [58] := (beq_iff_eq.1 ‹_›).symm
    have : bl s = [58] := by unfold bl; rw [← Lib.toList_data, h]; rfl
    rw [this]; rfl
  · go_ret
    refine ⟨ret_int ?_, rfl⟩
    exact ix_lib s.data.toList

set_option maxHeartbeats 400000 in
theorem contains_any (s : ByteArray) (w : World) :
    Calls Tryz.prog 108 #[.string s, .string ⟨#[58]⟩] w fun e w' => e = .returned (.bool (decide (0 ≤ ix (bl s)))) ∧ w' = w := by
  go_enter Tryz.func108, Tryz.ntmps108
  go_wp2_with (first | (go_at_call 176; refine (index_any _ _).mono ?_; rintro e w' ⟨rfl, rfl⟩) | go_in)
  go_ret
  exact ⟨rfl, rfl⟩

set_option maxHeartbeats 400000 in
theorem lcut_no (s : ByteArray) (w : World) (h : ix (bl s) = -1) :
    Calls Tryz.prog 148 #[.string s, .string ⟨#[58]⟩] w fun e w' => e = .returned (.tuple #[.string s, .string ⟨#[]⟩, .bool false]) ∧ w' = w := by
  go_enter Tryz.func148, Tryz.ntmps148
  go_wp2_with (go_at_call 176; refine (index_any _ _).mono ?_; rintro e w' ⟨rfl, rfl⟩)
  go_ret3
  exact ⟨rfl, rfl⟩
set_option maxHeartbeats 400000 in
theorem cut_no (s : ByteArray) (w : World) (h : ix (bl s) = -1) :
    Calls Tryz.prog 105 #[.string s, .string ⟨#[58]⟩] w fun e w' => e = .returned (.tuple #[.string s, .string ⟨#[]⟩, .bool false]) ∧ w' = w := by
  go_enter Tryz.func105, Tryz.ntmps105
  go_wp2_with (go_at_call 148; refine (lcut_no _ _ h).mono ?_; rintro e w' ⟨rfl, rfl⟩)
  go_ret3
  exact ⟨rfl, rfl⟩

set_option maxHeartbeats 400000 in
theorem lcut_yes (s : ByteArray) (k : Nat) (w : World) (hs : s.size ≤ maxLen) (h : ix (bl s) = (k : Int)) :
    Calls Tryz.prog 148 #[.string s, .string ⟨#[58]⟩] w fun e w' => e = .returned (.tuple #[.string (s.extract 0 k), .string (s.extract (k + 1) s.size), .bool true]) ∧ Below w.heap.size w w' := by
  have hk : k < s.size := by
    have := ix_bd (bl s)
    rw [h, bl_len] at this
    omega
  unfold maxLen at hs
  go_enter Tryz.func148, Tryz.ntmps148
  go_wp2_with (go_at_call 176; refine (index_any _ _).mono ?_; rintro e w' ⟨rfl, rfl⟩)
  go_region
  all_goals
    go_wp2
    go_ret3
    exact ⟨rfl, (Below.refl _ _).drew⟩
set_option maxHeartbeats 400000 in
theorem cut_yes (s : ByteArray) (k : Nat) (w : World) (hs : s.size ≤ maxLen) (h : ix (bl s) = (k : Int)) :
    Calls Tryz.prog 105 #[.string s, .string ⟨#[58]⟩] w fun e w' => e = .returned (.tuple #[.string (s.extract 0 k), .string (s.extract (k + 1) s.size), .bool true]) ∧ Below w.heap.size w w' := by
  go_enter Tryz.func105, Tryz.ntmps105
  go_wp2_with (go_at_call 148; refine (lcut_yes _ _ _ hs h).mono ?_; rintro e w' ⟨rfl, hb⟩)
  go_ret3
  exact ⟨rfl, hb⟩

def ncB (l : List Int) : Bool := nameB l && !decide (0 ≤ ix l)
set_option maxHeartbeats 400000 in
theorem nc_any (s : ByteArray) (w : World) (hs : s.size ≤ maxLen) :
    Calls Tryz.prog 103 #[.string s] w fun e w' => e = .returned (.bool (ncB (bl s))) ∧ Below w.heap.size w w' := by
  by_cases h : nameB (bl s) = true
  · go_enter Tryz.func103, Tryz.ntmps103
    go_wp2_with (first | (go_at_call 102; refine (name_any _ _ hs).mono ?_; rintro e w' ⟨rfl, hb⟩) | (go_at_call 108; refine (contains_any _ _).mono ?_; rintro e w' ⟨rfl, rfl⟩))
    go_ret
    exact ⟨ret_bool (by unfold ncB; rw [h]; rfl), ‹_›⟩
  · have h' : nameB (bl s) = false := by simpa using h
    clear h
    go_enter Tryz.func103, Tryz.ntmps103
    go_wp2_with (first | (go_at_call 102; refine (name_any _ _ hs).mono ?_; rintro e w' ⟨rfl, hb⟩) | (go_at_call 108; refine (contains_any _ _).mono ?_; rintro e w' ⟨rfl, rfl⟩))
    go_ret
    exact ⟨ret_bool (by unfold ncB; rw [h']; rfl), ‹_›⟩

def qn (s : ByteArray) : ByteArray × ByteArray × Bool :=
  if ix (bl s) = -1 then (if ncB (bl s) = true then (⟨#[]⟩, s, true) else (⟨#[]⟩, ⟨#[]⟩, false))
  else if ncB (bl (s.extract 0 (ix (bl s)).toNat)) = true ∧ ncB (bl (s.extract ((ix (bl s)).toNat + 1) s.size)) = true then (s.extract 0 (ix (bl s)).toNat, s.extract ((ix (bl s)).toNat + 1) s.size, true)
  else (⟨#[]⟩, ⟨#[]⟩, false)
theorem ret_ssb {a b a' b' : ByteArray} {c : Bool} {p : ByteArray × ByteArray × Bool} (h : p = (a, b, c)) : Ending.returned (.tuple #[.string a, .string b, .bool c]) = .returned (.tuple #[.string p.1, .string p.2.1, .bool p.2.2]) := by rw [h]

end Go.Proofs.YtgaegajcejpmdaaGreatDoor.Ch
