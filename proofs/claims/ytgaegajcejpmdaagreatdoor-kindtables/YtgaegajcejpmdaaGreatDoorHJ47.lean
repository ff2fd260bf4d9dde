/- Joined: HK12, HK13. -/
import Derived.Test.YtgaegajcejpmdaaGreatDoorHK10a
import Derived.Test.YtgaegajcejpmdaaGreatDoorHK10b
import Derived.Test.YtgaegajcejpmdaaGreatDoorHK11
namespace Go.Proofs.YtgaegajcejpmdaaGreatDoor
open Go.RowKit
set_option linter.unusedVariables false
set_option linter.unusedSimpArgs false

theorem alloc_setRow (w : World) (old cs : Array Value) (t : TypeId) : (w.alloc (.cells old t)).setRow w.heap.size cs = w.alloc (.cells cs t) := by
  have h1 := setRow_heap (w.alloc (.cells old t)) w.heap.size old cs t (0, 0) (nw_heap w _)
  unfold World.setRow World.alloc
  congr 1
  apply Array.ext
  · simp
  · intro i h1 h2
    simp at h1 h2 ⊢
    by_cases h : i = w.heap.size
    · subst h; simp [Array.getElem_modify]
    · have : i < w.heap.size := by omega
      simp [Array.getElem_modify, Array.getElem_push, this, h]
      omega
/-- A number's fields. -/
def KN (n : Dc.Nm) (p : Int) (tx : ByteArray) (ng : Bool) (l : List Int) (sc : Int) (m : Dt.Mo) (q : Dt.Sp) : Prop := p = 10 ∧ tx = ⟨#[]⟩ ∧ ng = n.1 ∧ l = n.2.1 ∧ sc = n.2.2 ∧ m = z0 ∧ q = sp0
theorem wh3 {k : Int} (h0 : 3 ≤ k) (h1 : k ≤ 32) : whS k = 3 := by
  unfold whS
  rw [if_pos (isK_iff.2 (by omega)), if_neg (by omega), if_neg (by omega)]
theorem parseN {n : Dc.Nm} (k : Int) (s : ByteArray) (w : World) (hk0 : 10 ≤ k) (hk1 : k ≤ 23) (hs : s.size ≤ 100000) (hs2 : (Ch.spc s 3).size ≤ 100000) (hw : Lw w) (hq : Dc.parS (Dc.bl (Ch.spc s 3)) = .ok n) : Calls Tryz.prog 21 #[.int .i64 k, .string s] w (PsG (KN n) (cntB k (Dc.bl (Ch.spc s 3)) n) w) := by
  refine parse_of k s w (isK_iff.2 (by omega)) hs (fun W hW => ?_)
  rw [wh3 (by omega) (by omega)]
  refine (readN_ok k _ W hk0 hk1 hs2 (hw.below hW) hq).mono ?_
  rintro e w' ⟨hb, h⟩
  rw [hq] at h
  obtain ⟨rv, rfl, hbt⟩ := h
  exact ⟨hb, _, _, _, _, _, _, _, _, rfl, hbt, fun _ => ⟨rfl, rfl, rfl, rfl, rfl, rfl, rfl⟩⟩
theorem parseNe {x : Int} (k : Int) (s : ByteArray) (w : World) (hk0 : 10 ≤ k) (hk1 : k ≤ 23) (hs : s.size ≤ 100000) (hs2 : (Ch.spc s 3).size ≤ 100000) (hq : Dc.parS (Dc.bl (Ch.spc s 3)) = .error x) : Calls Tryz.prog 21 #[.int .i64 k, .string s] w (PsG (fun _ _ _ _ _ _ _ => True) false w) := by
  refine parse_of k s w (isK_iff.2 (by omega)) hs (fun W hW => ?_)
  rw [wh3 (by omega) (by omega)]
  refine (readN_err k _ W hk0 hk1 hs2 hq).mono ?_
  rintro e w' ⟨hb, h⟩
  rw [hq] at h
  obtain ⟨p, t, ng, sl, sc, m, q, rfl, hbt⟩ := h
  exact ⟨hb, p, t, ng, sl, [], sc, m, q, rfl, hbt, fun q => by cases q⟩
theorem spc_size (s : ByteArray) (how : Int) : (Ch.spc s how).size ≤ s.size := by
  have hsb : ∀ l : List Int, (Ch.sb l).size = l.length := fun l => by simp [Ch.sb, ByteArray.size]
  unfold Ch.spc
  split
  · rw [hsb, List.length_map, Ch.bl_len]; exact Nat.le_refl _
  · split
    · rw [hsb]
      have := Ch.col_len (Ch.bl s) [] false
      rw [Ch.bl_len] at this
      simpa using this
    · exact Nat.le_refl _
set_option maxRecDepth 100000 in
set_option maxHeartbeats 1600000 in
/-- Text, of a number. -/
theorem textN {w : World} {v : Value} {n : Dc.Nm} (tx : ByteArray) (m : Dt.Mo) (q : Dt.Sp) (h : Dc.NmR w v n) : Calls Tryz.prog 24 #[vlV 10 tx n.1 v n.2.2 m q] w fun e w' => e = .returned (.string (Dc.sb (Dc.txS n))) ∧ Below w.heap.size w w' := by
  obtain ⟨va, vc, rfl, _⟩ := h.bt.form
  have hbx := BX.new w 40 (vlL 10 tx n.1 (.slice va n.2.1.length vc) n.2.2 m q)
  have ht := fun W (hW : Below w.heap.size w W) => Dc.text_p (h.below hW)
  have HT : Hid _ := And.intro ht hbx.bel
  clear ht h hbx
  go_enter Tryz.func24, Tryz.ntmps24
  go_wp2_with (go_at_call 32; refine Calls.mono (HT.out.1 _ HT.out.2) ?_; rintro e w9 ⟨rfl, hb9⟩)
  go_ret
  exact ⟨rfl, HT.out.2.trans (hb9.mono HT.out.2.size)⟩
end Go.Proofs.YtgaegajcejpmdaaGreatDoor
namespace Go.Proofs.YtgaegajcejpmdaaGreatDoor
open Go.RowKit
set_option linter.unusedVariables false
set_option linter.unusedSimpArgs false

def sShort : ByteArray := ⟨#[115, 104, 111, 114, 116]⟩
def sFloat : ByteArray := ⟨#[102, 108, 111, 97, 116]⟩
def sA : ByteArray := ⟨#[32, 45, 51, 50, 55, 54, 56, 32]⟩
def sB : ByteArray := ⟨#[51, 50, 55, 54, 56]⟩
theorem fd_short : fdS sShort = (18, 0) := by simp [fdS, fdF, nmL, sShort, tlm]
theorem fd_float : fdS sFloat = (0, 6) := by simp [fdS, fdF, nmL, sFloat, tlm, odS, odL]
theorem sp_A : Dc.bl (Ch.spc sA 3) = [45, 51, 50, 55, 54, 56] := by rfl
theorem sp_B : Dc.bl (Ch.spc sB 3) = [51, 50, 55, 54, 56] := by rfl
theorem pa_A : Dc.parS (Dc.bl (Ch.spc sA 3)) = .ok (true, [3, 2, 7, 6, 8], 0) := by rw [sp_A]; rfl
theorem pa_B : Dc.parS (Dc.bl (Ch.spc sB 3)) = .ok (false, [3, 2, 7, 6, 8], 0) := by rw [sp_B]; rfl
theorem cn_A : cntB 18 (Dc.bl (Ch.spc sA 3)) (true, [3, 2, 7, 6, 8], 0) = true := by rw [sp_A]; rfl
theorem cn_B : cntB 18 (Dc.bl (Ch.spc sB 3)) (false, [3, 2, 7, 6, 8], 0) = false := by rw [sp_B]; rfl
theorem tx_A : Dc.sb (Dc.txS (true, [3, 2, 7, 6, 8], 0)) = ⟨#[45, 51, 50, 55, 54, 56]⟩ := by rfl
theorem dv_k : dvS 18 11 = true := by decide
theorem nm_7 : nmS 7 = ⟨#[73, 68]⟩ := by rfl
theorem pA (w : World) (hw : Lw w) : Calls Tryz.prog 21 #[.int .i64 18, .string ⟨#[32, 45, 51, 50, 55, 54, 56, 32]⟩] w fun e w' => ∃ va vc, e = .returned (.tuple #[vlV 10 ⟨#[]⟩ true (.slice va 5 vc) 0 z0 sp0, .int .i64 0]) ∧ Dc.NmR w' (.slice va 5 vc) (true, [3, 2, 7, 6, 8], 0) ∧ Below w.heap.size w w' := by
  have h := parseN 18 sA w (by omega) (by omega) (by decide) (by decide) hw pa_A
  rw [cn_A] at h
  refine h.mono ?_
  rintro e w' ⟨hb, h1, _⟩
  obtain ⟨p, tx, ng, sl, l, sc, m, q, rfl, hbt, rfl, rfl, rfl, rfl, rfl, rfl, rfl⟩ := h1 rfl
  obtain ⟨va, vc, rfl, _⟩ := hbt.form
  exact ⟨va, vc, rfl, ⟨hbt, (Dc.par_ok pa_A).1, (Dc.par_ok pa_A).2.2.1⟩, hb⟩
theorem pB (w : World) (hw : Lw w) : Calls Tryz.prog 21 #[.int .i64 18, .string ⟨#[51, 50, 55, 54, 56]⟩] w fun e w' => e = .returned (.tuple #[vlV 0 ⟨#[]⟩ false (.slice none 0 0) 0 z0 sp0, .int .i64 2]) ∧ Below w.heap.size w w' := by
  have h := parseN 18 sB w (by omega) (by omega) (by decide) (by decide) hw pa_B
  rw [cn_B] at h
  refine h.mono ?_
  rintro e w' ⟨hb, _, h2⟩
  exact ⟨h2 rfl, hb⟩
theorem fS (w : World) (hw : Lw w) : Calls Tryz.prog 9 #[.string ⟨#[115, 104, 111, 114, 116]⟩] w fun e w' => e = .returned (.tuple #[.int .i64 18, .int .i64 0]) ∧ w' = w := by
  have h := find_k sShort w hw.nm
  rw [fd_short] at h
  exact h
theorem fF (w : World) (hw : Lw w) : Calls Tryz.prog 9 #[.string ⟨#[102, 108, 111, 97, 116]⟩] w fun e w' => e = .returned (.tuple #[.int .i64 0, .int .i64 6]) ∧ w' = w := by
  have h := find_k sFloat w hw.nm
  rw [fd_float] at h
  exact h
theorem n7 (w : World) (hw : Lw w) : Calls Tryz.prog 11 #[.int .i64 7] w fun e w' => e = .returned (.string ⟨#[73, 68]⟩) ∧ w' = w := by
  have h := name_k 7 w hw.nm
  rw [nm_7] at h
  exact h
theorem d18 (w : World) : Calls Tryz.prog 19 #[.int .i64 18, .int .i64 11] w fun e w' => e = .returned (.bool true) ∧ w' = w := by
  have h := derived_k 18 11 w
  rw [dv_k] at h
  exact h
end Go.Proofs.YtgaegajcejpmdaaGreatDoor
