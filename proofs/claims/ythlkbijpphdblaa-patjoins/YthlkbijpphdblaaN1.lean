/- The program: the classes of letters, calm; a text's letters. -/
import Derived.Test.YthlkbijpphdblaaZ17
import Derived.Laws.RangeString
namespace Go.Proofs.Ythlkbijpphdblaa
open Go.RowKit
set_option linter.unusedVariables false

def isChar (r : Int) : Bool := decide (r = 9 ∨ r = 10 ∨ r = 13 ∨ (32 ≤ r ∧ r ≤ 55295) ∨ (57344 ≤ r ∧ r ≤ 65533) ∨ (65536 ≤ r ∧ r ≤ 1114111))
def isStart (r : Int) : Bool := decide ((65 ≤ r ∧ r ≤ 90) ∨ (97 ≤ r ∧ r ≤ 122) ∨ r = 95 ∨ r = 58 ∨ (192 ≤ r ∧ r ≠ 215 ∧ r ≠ 247 ∧ isChar r = true))
def isPart (r : Int) : Bool := decide (isStart r = true ∨ (48 ≤ r ∧ r ≤ 57) ∨ r = 45 ∨ r = 46 ∨ r = 183)
def isWhite (r : Int) : Bool := decide (r = 9 ∨ r = 10 ∨ r = 13 ∨ r = 32)
set_option maxHeartbeats 400000 in
theorem char_p (r : Int) (w : World) : Calls Try.prog 42 #[.int .i32 r] w fun e w' => e = .returned (.bool (isChar r)) ∧ w' = w := by
  go_enter Try.func42, Try.ntmps42
  go_wp2
  all_goals
    go_ret
    refine ⟨ret_bool ?_, rfl⟩
    unfold isChar
    rw [Bool.eq_iff_iff]
    simp at *
    omega
set_option maxHeartbeats 400000 in
theorem start_p (r : Int) (w : World) : Calls Try.prog 22 #[.int .i32 r] w fun e w' => e = .returned (.bool (isStart r)) ∧ w' = w := by
  go_enter Try.func22, Try.ntmps22
  go_wp2_with (go_at_call 42; refine (char_p _ _).mono ?_; rintro e w' ⟨rfl, rfl⟩)
  all_goals
    go_ret
    refine ⟨ret_bool ?_, rfl⟩
    unfold isStart
    rw [Bool.eq_iff_iff]
    generalize isChar r = z at *
    cases z <;> simp at * <;> omega
set_option maxHeartbeats 400000 in
theorem part_p (r : Int) (w : World) : Calls Try.prog 23 #[.int .i32 r] w fun e w' => e = .returned (.bool (isPart r)) ∧ w' = w := by
  go_enter Try.func23, Try.ntmps23
  go_wp2_with (go_at_call 22; refine (start_p _ _).mono ?_; rintro e w' ⟨rfl, rfl⟩)
  all_goals
    go_ret
    refine ⟨ret_bool ?_, rfl⟩
    unfold isPart
    rw [Bool.eq_iff_iff]
    generalize isStart r = z at *
    cases z <;> simp at * <;> omega
set_option maxHeartbeats 400000 in
theorem white_p (r : Int) (w : World) : Calls Try.prog 21 #[.int .i32 r] w fun e w' => e = .returned (.bool (isWhite r)) ∧ w' = w := by
  go_enter Try.func21, Try.ntmps21
  go_wp2
  all_goals
    go_ret
    refine ⟨ret_bool ?_, rfl⟩
    unfold isWhite
    rw [Bool.eq_iff_iff]
    simp at *
    omega
def calS (r : Int) : Int := if r < 256 then r else if r < 55296 then 55295 else if r < 57344 then 57343 else if r < 65534 then 65533 else if r < 65536 then 65535 else 1114111
set_option maxHeartbeats 400000 in
theorem calm_p (r : Int) (w : World) : Calls Try.prog 40 #[.int .i32 r] w fun e w' => e = .returned (.int .i32 (calS r)) ∧ w' = w := by
  go_enter Try.func40, Try.ntmps40
  go_wp2
  all_goals
    go_ret
    refine ⟨ret_int ?_, rfl⟩
    unfold calS
    repeat' split
    all_goals omega
/-! How long the row of a class may be. -/
def Cb (lo : Int) (n : Nat) : Prop := (0 ≤ lo ∧ lo ≤ 256 ∧ (n : Int) ≤ lo) ∨ (lo = 55296 ∧ n ≤ 257) ∨ (lo = 57344 ∧ n ≤ 258) ∨ (lo = 65534 ∧ n ≤ 259) ∨ (lo = 65536 ∧ n ≤ 260) ∨ (lo = 1114112 ∧ n ≤ 261)
theorem cb_step {lo : Int} {n : Nat} (h : Cb lo n) (hl : lo ≤ 1114111) : Cb (calS lo + 1) (n + 1) ∧ Cb (calS lo + 1) n := by
  unfold Cb calS at *
  repeat' split
  all_goals omega
theorem cb_le {lo : Int} {n : Nat} (h : Cb lo n) : n ≤ 261 ∧ 0 ≤ lo ∧ lo ≤ 1114112 := by
  unfold Cb at h
  omega
theorem cal_bd {lo : Int} (h0 : 0 ≤ lo) (h : lo ≤ 1114111) : lo ≤ calS lo ∧ calS lo ≤ 1114111 := by
  unfold calS
  repeat' split
  all_goals omega
theorem cal_char {lo x : Int} (h0 : 256 ≤ lo) (h1 : lo ≤ x) (h2 : x ≤ calS lo) : isChar x = isChar lo := by
  unfold calS at h2
  unfold isChar
  rw [Bool.eq_iff_iff]
  simp only [decide_eq_true_eq]
  split at h2
  · omega
  split at h2
  · omega
  split at h2
  · omega
  split at h2
  · omega
  split at h2
  · omega
  omega
theorem cal_start {lo x : Int} (h0 : 0 ≤ lo) (h1 : lo ≤ x) (h2 : x ≤ calS lo) : isStart x = isStart lo := by
  by_cases c : lo < 256
  · have : x = lo := by unfold calS at h2; rw [if_pos c] at h2; omega
    rw [this]
  · have q := cal_char (by omega) h1 h2
    unfold isStart
    rw [q, Bool.eq_iff_iff]
    generalize isChar lo = z
    cases z <;> simp <;> omega
theorem cal_part {lo x : Int} (h0 : 0 ≤ lo) (h1 : lo ≤ x) (h2 : x ≤ calS lo) : isPart x = isPart lo := by
  by_cases c : lo < 256
  · have : x = lo := by unfold calS at h2; rw [if_pos c] at h2; omega
    rw [this]
  · have q := cal_start h0 h1 h2
    unfold isPart
    rw [q, Bool.eq_iff_iff]
    generalize isStart lo = z
    cases z <;> simp <;> omega
theorem cal_white {lo x : Int} (h0 : 0 ≤ lo) (h1 : lo ≤ x) (h2 : x ≤ calS lo) : isWhite x = isWhite lo := by
  by_cases c : lo < 256
  · have : x = lo := by unfold calS at h2; rw [if_pos c] at h2; omega
    rw [this]
  · unfold isWhite
    rw [Bool.eq_iff_iff]
    simp only [decide_eq_true_eq]
    omega
/-! A range over a text whose iterator lies anywhere. -/
def setO (W : World) (X : Nat) (o : Obj) : World := { W with heap := W.heap.setIfInBounds X o }
theorem run_nx {P : Program} (W : World) (X : Nat) (s : ByteArray) (pos : Nat) (ty : TypeId) (hX : W.heap[X]? = some (.stringIter s pos)) (h : pos < s.size) (ha : (s[pos]'h).toNat < 128) :
    (Instr.next (.pointer (some ⟨X, 0, none⟩)) true ty).run P W = .ok (.tuple #[.bool true, .int .i64 pos, .int .i32 (s[pos]'h).toNat]) (setO W X (.stringIter s (pos + 1))) := by
  simp only [Instr.next, getObj, setObj, Sem.run_bind, Sem.run, hX, Result.andThen, h, if_true, decode_ascii s pos h ha]
  simp [goInt, setO]
theorem run_nx_end {P : Program} (W : World) (X : Nat) (s : ByteArray) (pos : Nat) (ty : TypeId) (hX : W.heap[X]? = some (.stringIter s pos)) (h : ¬ pos < s.size) :
    (Instr.next (.pointer (some ⟨X, 0, none⟩)) true ty).run P W = .ok (.tuple #[.bool false]) W := by
  simp [Instr.next, getObj, Sem.run, hX, h]
theorem setO_at {W : World} {X : Nat} (o : Obj) (h : X < W.heap.size) : (setO W X o).heap[X]? = some o := by
  simp [setO, h]
theorem setO_fro (W : World) (X : Nat) (o : Obj) : Fro (fun k => k = X) W (setO W X o) :=
  ⟨rfl, rfl, rfl, by simp [setO], fun k _ hk => by
    show (W.heap.setIfInBounds X o)[k]? = _
    rw [Array.getElem?_setIfInBounds, if_neg (fun e => hk e.symm)]⟩
theorem own_ni {k : IntKind} {e : TypeId} {w : World} {base X : Nat} {v : Value} {l : List Rg} {s : ByteArray} {p : Nat} (h : Own k e w base v l) (hx : w.heap[X]? = some (.stringIter s p)) : v.ownBlock ≠ some X := fun hj => by
  rcases h.2 with ⟨rfl, _⟩ | ⟨g, cap, cur, rfl, h3, h4, _⟩
  · simp [Value.ownBlock] at hj
  · simp [Value.ownBlock] at hj
    subst hj
    rw [hx] at h4
    cases h4
theorem own_iter {k : IntKind} {e : TypeId} {w : World} {base X : Nat} {v : Value} {l : List Rg} {s : ByteArray} {p : Nat} (h : Own k e w base v l) (hx : w.heap[X]? = some (.stringIter s p)) (o : Obj) : Own k e (setO w X o) base v l :=
  row_fro h (setO_fro w X o) (fun j hj q => own_ni h hx (by rw [hj, q]))
def txL (l : List UInt8) : List Rg := l.map fun c => ((c.toNat : Int), (c.toNat : Int))
def TxR (s : ByteArray) (w : World) (k : Nat) (v3 : Value) (wr : World) : Prop := ∃ a c, v3 = .slice a k c ∧ Own .i32 64 wr w.heap.size v3 (txL (s.data.toList.take k)) ∧ wr.heap[w.heap.size]? = some (.stringIter s k) ∧ Below w.heap.size w wr
set_option maxHeartbeats 1000000 in
theorem text_p (s : ByteArray) (w : World) (hs : s.size ≤ 1000) (ha : ∀ (i : Nat) (h : i < s.size), (s[i]'h).toNat < 128) : Calls Try.prog 43 #[.string s] w fun e w' => OfQ (txL s.data.toList) w e w' := by
  obtain ⟨i50, z50, hi50, hz0, hzc, hz1, hz3⟩ := info_rgp
  have hl0 : s.data.toList.length = s.size := by rw [Array.length_toList]; rfl
  have HA : Hid _ := And.intro ha hl0
  clear ha hl0
  go_enter Try.func43, Try.ntmps43
  go_wp2_with fail
  go_loopg [3] s.size (fun g v3 wr => ∃ k : Nat, k + g = s.size ∧ TxR s w k v3 wr)
  case atStart =>
    exact ⟨0, by omega, none, 0, rfl, Own.nil _ _ _ _, World.iter_heap w s 0, (Below.refl _ _).alloc (Nat.le_refl _) _⟩
  case round =>
    obtain ⟨k, hk, va, vc, rfl, hown, hit, hb⟩ := hrel
    have HB : Hid _ := And.intro hown (And.intro hit hb)
    by_cases hlt : k < s.size
    · obtain ⟨g, rfl⟩ : ∃ g, gk = g + 1 := ⟨gk - 1, by omega⟩
      have hnx : ∀ ty, (Instr.next (.pointer (some ⟨w.heap.size, 0, none⟩)) true ty).run Try.prog wr = _ := fun ty => run_nx wr w.heap.size s k ty hit hlt (HA.out.1 k hlt)
      have hW := own_iter hown hit (.stringIter s (k + 1))
      have hbW : Below w.heap.size w (setO wr w.heap.size (.stringIter s (k + 1))) := hb.trans ((setO_fro wr w.heap.size _).toBelow hb.size (fun i hi q => by omega))
      have hiW := setO_at (W := wr) (.stringIter s (k + 1)) (lt_of hit)
      have HW : Hid _ := And.intro hW (And.intro hiW hbW)
      have htk : s.data.toList.take (k + 1) = s.data.toList.take k ++ [s[k]] := by
        rw [List.take_succ_eq_append_getElem (by rw [HA.out.2]; exact hlt)]
        rfl
      have HT : Hid (txL (s.data.toList.take (k + 1)) = txL (s.data.toList.take k) ++ [((s[k].toNat : Int), (s[k].toNat : Int))]) := by
        rw [htk]
        unfold txL
        rw [List.map_append]
        rfl
      have hlen : (txL (s.data.toList.take k)).length = k := by
        unfold txL
        rw [List.length_map, List.length_take, HA.out.2]
        omega
      have HL : Hid _ := hlen
      clear hW hbW hiW htk hlen hown hit hb HB
      obtain ⟨C, hC⟩ : ∃ C, txL (s.data.toList.take k) = C := ⟨_, rfl⟩
      rw [hC] at HW HT HL
      clear hC
      generalize hX : (s[k].toNat : Int) = X at *
      obtain ⟨W, hWe⟩ : ∃ W, setO wr w.heap.size (.stringIter s (k + 1)) = W := ⟨_, rfl⟩
      rw [hWe] at HW hnx
      clear hX hWe
      go_wp2_with (first | (at_builtin; go_loud (refine wpList_put W .i32 64 23 i50 z50 8 Try.underlying23 hi50 hz0 hzc hz1 hz3 (by decide) (.tmp 11) (.tmp 15) rfl rfl w.heap.size (.slice va k vc) C rfl HW.out.1 (X, X) rfl (by rw [HL.out]; omega) HW.out.2.2.size ?_); intro v' w7 hown7 hb7 hv7; have H7 : Hid _ := And.intro hown7 (And.intro hb7 hv7); clear hown7 hb7 hv7))
      go_roundg g
      case measure => omega
      case rel =>
        obtain ⟨g7, c7, hv7⟩ := H7.out.2.2
        rw [List.length_append, HL.out] at hv7
        refine ⟨k + 1, by omega, _, c7, hv7, ?_, H7.out.2.1.2.at HW.out.2.1 (fun q => own_ni HW.out.1 HW.out.2.1 q), HW.out.2.2.trans H7.out.2.1.1⟩
        rw [HT.out]
        exact H7.out.1
    · have hnx : ∀ ty, (Instr.next (.pointer (some ⟨w.heap.size, 0, none⟩)) true ty).run Try.prog wr = _ := fun ty => run_nx_end wr w.heap.size s k ty hit hlt
      have hkl : k = s.size := by omega
      subst hkl
      have hT : s.data.toList.take s.size = s.data.toList := List.take_of_length_le (by rw [HA.out.2]; omega)
      rw [hT] at hown HB
      have hL : (txL s.data.toList).length = s.size := by unfold txL; rw [List.length_map, HA.out.2]
      have q1 := of_p _ _ wr hown.sl (by rw [hL]; omega)
      have HQ : Hid _ := And.intro q1 HB.out.2.2
      clear q1 hown hit hb hT hL HB
      go_wp2_with fail
      refine Calls.mono HQ.out.1 ?_
      rintro e w2 ⟨v2, s2, rfl, hof, hown2, hl2, hb2⟩
      have H2 : Hid _ := And.intro hof (And.intro (hown2.mono HQ.out.2.size) (And.intro (HQ.out.2.trans (hb2.mono HQ.out.2.size)) hl2))
      clear hof hown2 hb2 hl2
      go_wp2_with fail
      go_ret
      exact ⟨_, s2, rfl, H2.out.1, H2.out.2.1, H2.out.2.2.2, H2.out.2.2.1⟩
end Go.Proofs.Ythlkbijpphdblaa
