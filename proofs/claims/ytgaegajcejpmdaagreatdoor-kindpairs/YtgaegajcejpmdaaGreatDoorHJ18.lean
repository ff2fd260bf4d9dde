/- Joined: HChKnown, HChShare, HChSplit, HChRep. -/
import Derived.Test.YtgaegajcejpmdaaGreatDoorHJ17
import Derived.Lib.SlBytesConst
import Derived.RegionTactic
namespace Go.Proofs.YtgaegajcejpmdaaGreatDoor.Ch
open Go.RowKit
set_option linter.unusedVariables false

set_option maxHeartbeats 400000 in
theorem space_col (s : ByteArray) (w : World) (hs : s.size ≤ 100000) :
    Calls Tryz.prog 38 #[.string s, .int .i64 3] w fun e w' => e = .returned (.string (sb (col (bl s) [] false))) ∧ Below w.heap.size w w' := by
  go_enter Tryz.func38, Tryz.ntmps38
  go_wp2_with (go_at_call 64; refine (collapse_any _ _ hs).mono ?_; rintro e w' ⟨rfl, hb⟩)
  go_ret
  exact ⟨rfl, ‹_›⟩

theorem below_alloc_then {w w2 : World} {o : Obj} (h : Below (w.alloc o).heap.size (w.alloc o) w2) : Below w.heap.size w w2 :=
  ((Below.refl _ _).alloc (Nat.le_refl _) o).trans (h.mono (by simp))
theorem k_dec : dec [240, 159, 152, 128, 120] = (128512, 4) := by decide +kernel
theorem k_qn : qn ⟨#[97, 58, 98]⟩ = (⟨#[97]⟩, ⟨#[98]⟩, true) := by kernel_rfl
theorem k_col : sb (col (bl ⟨#[32, 97, 32, 9, 32, 98, 32]⟩) [] false) = ⟨#[97, 32, 98]⟩ := by kernel_rfl
theorem k_n1 : nameB (bl ⟨#[120, 49]⟩) = true := by kernel_rfl
theorem k_n2 : nameB (bl ⟨#[49, 120]⟩) = false := by kernel_rfl
theorem k_c : cnt (bl ⟨#[97, 195, 169]⟩).length (bl ⟨#[97, 195, 169]⟩) = 2 := by kernel_rfl

end Go.Proofs.YtgaegajcejpmdaaGreatDoor.Ch
namespace Go.Proofs.YtgaegajcejpmdaaGreatDoor.Ch
open Go.RowKit
set_option linter.unusedVariables false

theorem Bts.below {w w' : World} {a : Option Addr} {l : List Int} (h : Bts w a l) (hb : Below w.heap.size w w') : Bts w' a l := by
  refine ⟨h.1, ?_⟩
  rcases h.2 with h0 | ⟨b, o, rfl, hc⟩
  · exact .inl h0
  · refine .inr ⟨b, o, rfl, fun i hi => ?_⟩
    have := hc i hi
    exact (hb.cell (World.block_lt_of_cell? w _ this)).trans this
theorem conv_bts (a : Option Addr) (cap : Nat) (l : List Int) (w : World) (h : Bts w a l) (h0 : a = none → l = [] ∧ cap = 0) : (convert 32 9 (.slice a l.length cap)).run Tryz.prog w = .ok (.string (sb l)) w := by
  rcases h.2 with rfl | ⟨b, o, rfl, hc⟩
  · cases a with
    | none => obtain ⟨_, rfl⟩ := h0 rfl; exact conv_nil w
    | some x =>
      obtain ⟨b, o, sp⟩ := x
      rw [run_convert_bytes_string w 32 9 5 _ _ _ Tryz.underlying32 Tryz.underlying5 Tryz.underlying9]
      rfl
  · exact conv_string b o cap l w hc

theorem bts_drewN {w : World} {a : Option Addr} {l : List Int} (h : Bts w a l) (n : Nat) : Bts (w.drewN n) a l := by
  refine ⟨h.1, ?_⟩
  rcases h.2 with h0 | ⟨b, o, rfl, hc⟩
  · exact .inl h0
  · exact .inr ⟨b, o, rfl, fun i hi => hc i hi⟩
theorem fin_rng (r n : Int) : -1 ≤ (fin r n).1 ∧ (fin r n).1 ≤ 1114111 ∨ n = 0 := by
  unfold fin
  split
  · rename_i h
    by_cases h0 : n = 0
    · exact .inr h0
    · refine .inl ?_
      rw [← h] at h0
      unfold wid at h0
      simp only
      repeat' split at h0
      all_goals (first | omega | simp at h0)
  · simp
theorem dec_rng (l : List Int) (hby : ∀ i, 0 ≤ l.getD i 0 ∧ l.getD i 0 < 256) : -1 ≤ (dec l).1 ∧ (dec l).1 ≤ 1114111 := by
  have h0 := hby 0
  unfold dec dec2 dec3 dec4
  repeat' split
  all_goals (first | (simp; done) | (have h := fin_rng (l.getD 0 0 % 32 * 64 + l.getD 1 0 % 64) 2; omega) | (have h := fin_rng ((l.getD 0 0 % 16 * 64 + l.getD 1 0 % 64) * 64 + l.getD 2 0 % 64) 3; omega) | (have h := fin_rng (((l.getD 0 0 % 8 * 64 + l.getD 1 0 % 64) * 64 + l.getD 2 0 % 64) * 64 + l.getD 3 0 % 64) 4; omega) | (dsimp only; omega))
/-- What stays as it was while the statement goes on: the row of bytes, and all that lay there at its begin. -/
def Kept (w : World) (a : Option Addr) (l : List Int) (W : World) : Prop := Bts W a l ∧ Below w.heap.size w W
theorem Kept.drew {w W : World} {a : Option Addr} {l : List Int} (h : Kept w a l W) : Kept w a l W.drew := ⟨bts_drewN h.1 1, h.2.drew⟩
theorem Kept.step {w W W' : World} {a : Option Addr} {l : List Int} (h : Kept w a l W) (hb : Below W.heap.size W W') : Kept w a l W' := ⟨Bts.below h.1 hb, h.2.trans (hb.mono h.2.size)⟩
theorem wrap_i64_of (x : Int) (h0 : -9223372036854775808 ≤ x) (h1 : x ≤ 9223372036854775807) : IntKind.i64.wrap x = x := by
  simp [IntKind.wrap, IntKind.bits, IntKind.signed]
  split <;> omega
end Go.Proofs.YtgaegajcejpmdaaGreatDoor.Ch
namespace Go.Proofs.YtgaegajcejpmdaaGreatDoor.Ch
open Go.RowKit
set_option linter.unusedVariables false

def ixs : List Int → Int
  | [] => -1
  | b :: l => if b = 32 then 0 else if ixs l = -1 then -1 else ixs l + 1
theorem ixs_lib (l : List UInt8) : Lib.indexByte l 32 = ixs (l.map fun c => (c.toNat : Int)) := by
  induction l with
  | nil => rfl
  | cons b l ih =>
    simp only [Lib.indexByte, List.map_cons, ixs, ih]
    have e : (b == 32) = decide ((b.toNat : Int) = 32) := by
      rw [Bool.eq_iff_iff]; simp
      constructor
      · rintro rfl; rfl
      · intro h; exact UInt8.toNat_inj.1 (by simpa using (by omega : b.toNat = 32))
    rw [e]
    simp
theorem ixs_bd (l : List Int) : ixs l = -1 ∨ (0 ≤ ixs l ∧ ixs l < l.length) := by
  induction l with
  | nil => simp [ixs]
  | cons b l ih =>
    have : ((b :: l).length : Int) = l.length + 1 := by simp
    rw [this]
    simp only [ixs]
    by_cases h1 : b = 32
    · rw [if_pos h1]; omega
    · rw [if_neg h1]
      by_cases h2 : ixs l = -1
      · rw [if_pos h2]; omega
      · rw [if_neg h2]; omega
def cs : List Int → Nat
  | [] => 0
  | b :: l => if b = 32 then cs l + 1 else cs l
theorem cs_lib (l : List UInt8) : Lib.countByte l 32 = cs (l.map fun c => (c.toNat : Int)) := by
  induction l with
  | nil => rfl
  | cons b l ih =>
    unfold Lib.countByte at ih ⊢
    rw [List.count_cons, ih]
    simp only [List.map_cons, cs]
    by_cases h : b = 32
    · subst h; simp
    · have h' : ¬ ((b.toNat : Int) = 32) := fun g => h (UInt8.toNat_inj.1 (by simpa using (by omega : b.toNat = 32)))
      simp [h, h']
theorem cs_le (l : List Int) : cs l ≤ l.length := by
  induction l with
  | nil => simp [cs]
  | cons b l ih => simp only [cs, List.length_cons]; split <;> omega
def spl : List Int → List (List Int)
  | [] => [[]]
  | c :: l => if c = 32 then [] :: spl l else (c :: (spl l).headD []) :: (spl l).tail
theorem spl_len (l : List Int) : (spl l).length = cs l + 1 := by
  induction l with
  | nil => rfl
  | cons c l ih =>
    simp only [spl, cs]
    split
    · simp [ih]
    · simp [ih]
theorem spl_ne (l : List Int) : spl l = (spl l).headD [] :: (spl l).tail := by
  have := spl_len l
  cases h : spl l with
  | nil => rw [h] at this; simp at this
  | cons a t => rfl
theorem ixs_cs (l : List Int) : ixs l = -1 ↔ cs l = 0 := by
  induction l with
  | nil => simp [ixs, cs]
  | cons b l ih =>
    simp only [ixs, cs]
    have := ixs_bd l
    by_cases h : b = 32
    · simp [h]
    · simp only [h, if_false]
      by_cases h2 : ixs l = -1
      · simp [h2, ih.1 h2]
      · simp only [h2, if_false]
        constructor
        · intro g; omega
        · intro g; exact absurd (ih.2 g) h2
theorem spl_no (l : List Int) (h : ixs l = -1) : spl l = [l] := by
  induction l with
  | nil => rfl
  | cons b l ih =>
    simp only [ixs] at h
    have := ixs_bd l
    by_cases hb : b = 32
    · rw [if_pos hb] at h; omega
    · rw [if_neg hb] at h
      by_cases h2 : ixs l = -1
      · simp only [spl, hb, if_false, ih h2]; rfl
      · rw [if_neg h2] at h; omega
theorem spl_at (l : List Int) (k : Nat) (h : ixs l = (k : Int)) : spl l = l.take k :: spl (l.drop (k + 1)) := by
  induction l generalizing k with
  | nil => simp [ixs] at h
  | cons b l ih =>
    simp only [ixs] at h
    by_cases hb : b = 32
    · rw [if_pos hb] at h
      have : k = 0 := by omega
      subst this
      simp [spl, hb]
    · rw [if_neg hb] at h
      by_cases h2 : ixs l = -1
      · rw [if_pos h2] at h; omega
      · rw [if_neg h2] at h
        obtain ⟨k, rfl⟩ : ∃ m, k = m + 1 := ⟨k - 1, by have := ixs_bd l; omega⟩
        have := ih k (by omega)
        simp only [spl, hb, if_false, this]
        rfl
theorem cs_at (l : List Int) (k : Nat) (h : ixs l = (k : Int)) : cs l = cs (l.drop (k + 1)) + 1 := by
  have h1 := spl_len l
  rw [spl_at l k h] at h1
  have h2 := spl_len (l.drop (k + 1))
  simp at h1
  omega

theorem blank_run (s : ByteArray) (c : Int) (w : World) : (callFunc 215 #[.string s, .int .u8 c]).run Tryz.prog w = .ok (.value (.int .i64 (Lib.indexByte s.data.toList c.toNat.toUInt8))) w := colon_run s c w
set_option maxHeartbeats 400000 in
theorem index_sp (s : ByteArray) (w : World) :
    Calls Tryz.prog 150 #[.string s, .string ⟨#[32]⟩] w fun e w' => e = .returned (.int .i64 (ixs (bl s))) ∧ w' = w := by
  have hr := colon_run s
  go_enter Tryz.func150, Tryz.ntmps150
  go_wp2
  · go_ret
    refine ⟨ret_int ?_, rfl⟩
    have h : s.toList = [32] := (beq_iff_eq.1 ‹_›).symm
    have : bl s = [32] := by unfold bl; rw [← Lib.toList_data, h]; rfl
    rw [this]; rfl
  · go_ret
    refine ⟨ret_int ?_, rfl⟩
    exact ixs_lib s.data.toList
/-- A row of texts as it lies in memory. -/
def Sts (w : World) (a : Option Addr) (ps : List ByteArray) : Prop :=
  ps = [] ∨ ∃ b, a = some ⟨b, 0, none⟩ ∧ ∀ i, i < ps.length → w.cell? ⟨b, i, none⟩ = some (.string (ps.getD i ⟨#[]⟩))
theorem Sts.below {w w' : World} {a : Option Addr} {ps : List ByteArray} (h : Sts w a ps) (hb : Below w.heap.size w w') : Sts w' a ps := by
  rcases h with h0 | ⟨b, rfl, hc⟩
  · exact .inl h0
  · refine .inr ⟨b, rfl, fun i hi => ?_⟩
    have := hc i hi
    exact (hb.cell (World.block_lt_of_cell? w _ this)).trans this
def words (l : List Int) : List ByteArray := (spl l).map sb
theorem info9 : (Tryz.prog.info? 9).map (fun i => (i.zero, i.size, i.bytes)) = some (some (.string ⟨#[]⟩), 1, 16) := by kernel_rfl
theorem bl_cut (s : ByteArray) (k : Nat) : bl (s.extract 0 k) = (bl s).take k := by
  unfold bl
  simp [List.map_take]
theorem bl_cut_end (s : ByteArray) (k : Nat) : bl (s.extract k s.size) = (bl s).drop k := by
  unfold bl
  rw [← List.map_drop]
  congr 1
  simp
  exact List.take_of_length_le (by simp)

def GenRel (w : World) (G N : Nat) (all : List (List Int)) (v0 v10 : Value) (wr : World) : Prop :=
  ∃ (k : Nat) (rest : ByteArray) (done : List (List Int)), v10 = .int .i64 k ∧ v0 = .string rest ∧ done.length = k ∧ k + cs (bl rest) = N ∧ all = done ++ spl (bl rest) ∧ rest.size ≤ 100000 ∧
    Below w.heap.size w wr ∧ (∀ j, wr.frozen? ⟨G, j, none⟩ = false) ∧ (∀ j, j ≤ N → (wr.cell? ⟨G, j, none⟩).isSome = true) ∧ ∀ j, j < k → wr.cell? ⟨G, j, none⟩ = some (.string (sb (done.getD j [])))

theorem addr_ne (G : Nat) {k j : Nat} (h : ¬ k = j) : (⟨G, k, none⟩ : Addr) ≠ ⟨G, j, none⟩ := by
  intro g
  injection g with _ g2 _
  exact h g2
theorem getD_sb (l : List (List Int)) (j : Nat) (h : j < l.length) : (l.map sb).getD j ⟨#[]⟩ = sb (l.getD j []) := by
  simp [List.getD_eq_getElem?_getD, h]
theorem gen_step {w wr : World} {G N k : Nat} {done : List (List Int)} {x : ByteArray} (hG : w.heap.size ≤ G) (hd : done.length = k) (hk : k ≤ N) (hB : Below w.heap.size w wr) (hf : ∀ j, wr.frozen? ⟨G, j, none⟩ = false)
    (hs : ∀ j, j ≤ N → (wr.cell? ⟨G, j, none⟩).isSome = true) (hc : ∀ j, j < k → wr.cell? ⟨G, j, none⟩ = some (.string (sb (done.getD j [])))) :
    Below w.heap.size w (wr.setCell ⟨G, k, none⟩ (.string x)) ∧ (∀ j, (wr.setCell ⟨G, k, none⟩ (.string x)).frozen? ⟨G, j, none⟩ = false) ∧ (∀ j, j ≤ N → ((wr.setCell ⟨G, k, none⟩ (.string x)).cell? ⟨G, j, none⟩).isSome = true) ∧
    ∀ j, j < k + 1 → (wr.setCell ⟨G, k, none⟩ (.string x)).cell? ⟨G, j, none⟩ = some (.string (sb ((done ++ [bl x]).getD j []))) := by
  refine ⟨hB.setCell hG _, fun j => by simpa using hf j, fun j hj => ?_, fun j hj => ?_⟩
  · by_cases e : j = k
    · subst e; rw [World.cell?_setCell_same' _ _ _ (hs j hj)]; rfl
    · rw [World.cell?_setCell_other _ _ _ _ (addr_ne G (fun h => e h.symm))]; exact hs j hj
  · by_cases e : j = k
    · subst e
      rw [World.cell?_setCell_same' _ _ _ (hs j hk)]
      rw [List.getD_eq_getElem?_getD, ← hd]
      simp [sb_bl]
    · rw [World.cell?_setCell_other _ _ _ _ (addr_ne G (fun h => e h.symm)), hc j (by omega)]
      rw [List.getD_eq_getElem?_getD, List.getD_eq_getElem?_getD, List.getElem?_append_left (by omega)]

def wordsOf (l : List Int) : List ByteArray := if (col l [] false).length = 0 then [] else words (col l [] false)
theorem col_bd : ∀ (l out : List Int) (g : Bool), (∀ i, 0 ≤ l.getD i 0 ∧ l.getD i 0 < 256) → (∀ i, 0 ≤ out.getD i 0 ∧ out.getD i 0 < 256) → ∀ i, 0 ≤ (col l out g).getD i 0 ∧ (col l out g).getD i 0 < 256 := by
  intro l
  induction l with
  | nil => intro out g _ h; exact h
  | cons c l ih =>
    intro out g hl ho
    have hc : 0 ≤ c ∧ c < 256 := by simpa using hl 0
    have hl' : ∀ i, 0 ≤ l.getD i 0 ∧ l.getD i 0 < 256 := fun i => by simpa using hl (i + 1)
    simp only [col]
    split
    · exact ih out true hl' ho
    · split
      · refine ih _ false hl' ?_
        have := getD_app (getD_app ho 32 (by omega) (by omega)) c hc.1 hc.2
        simpa using this
      · exact ih _ false hl' (getD_app ho c hc.1 hc.2)
theorem col_len : ∀ (l out : List Int) (g : Bool), (col l out g).length ≤ out.length + l.length + g.toNat := by
  intro l
  induction l with
  | nil => intro out g; simp [col]
  | cons c l ih =>
    intro out g
    simp only [col]
    split
    · have := ih out true; simp at this ⊢; omega
    · split
      · rename_i h
        have := ih (out ++ [32, c]) false; simp [h.1] at this ⊢; omega
      · have := ih (out ++ [c]) false; simp at this ⊢; omega
theorem sb_size (l : List Int) : (sb l).size = l.length := by simp [sb, ByteArray.size]
theorem sb_empty (l : List Int) : (sb l).toList.isEmpty = decide (l.length = 0) := by
  rw [Lib.toList_data]
  cases l with
  | nil => rfl
  | cons a l => simp [sb]

end Go.Proofs.YtgaegajcejpmdaaGreatDoor.Ch
namespace Go.Proofs.YtgaegajcejpmdaaGreatDoor.Ch
open Go.RowKit
set_option linter.unusedVariables false

def rp (c : Int) : Int := if isWhite c = true then 32 else c
theorem rp_bd (c : Int) (h : 0 ≤ c ∧ c < 256) : 0 ≤ rp c ∧ rp c < 256 := by unfold rp; split <;> omega
theorem rp_getD (l : List Int) (j : Nat) (h : j < l.length) : (l.map rp).getD j 0 = rp (l.getD j 0) := by
  simp [List.getD_eq_getElem?_getD, h]
theorem conv_free (s : ByteArray) (w : World) (hs : s.size ≤ maxLen) : ∃ cap w1, s.size ≤ cap ∧ cap ≤ maxLen ∧
    (convert 9 32 (.string s)).run Tryz.prog w = .ok (.slice (some ⟨w.heap.size, 0, none⟩) s.size cap) w1 ∧ Below w.heap.size w w1 ∧
    (∀ j, j < s.size → w1.cell? ⟨w.heap.size, j, none⟩ = some (.int .u8 ((bl s).getD j 0))) ∧ ∀ j, j < s.size → w1.frozen? ⟨w.heap.size, j, none⟩ = false := by
  refine ⟨grownCap w s.size 0 5, _, grownCap_ge _ _ _ _, grownCap_le_maxLen _ _ _ _ hs, run_bytes_of_string w 9 32 5 s Tryz.underlying9 Tryz.underlying32 Tryz.underlying5, ?_, ?_, ?_⟩
  · exact (Below.refl _ _).drew.alloc (Nat.le_refl _) _
  · intro i hi
    have h := World.cell?_alloc_mark w.drew (bytesRow s (grownCap w s.size 0 5)) 5 ((bytesRow s (grownCap w s.size 0 5)).size, (bytesRow s (grownCap w s.size 0 5)).size + 1) i
    refine h.trans ?_
    rw [bytesRow_at s _ i hi]
    simp [bl, List.getD_eq_getElem?_getD, hi]
  · intro i hi
    have hge := grownCap_ge w s.size 0 5
    have hsz : (bytesRow s (grownCap w s.size 0 5)).size = grownCap w s.size 0 5 := by
      unfold bytesRow
      rw [Array.size_append, Array.size_map, Array.size_replicate]
      have : s.data.size = s.size := rfl
      omega
    unfold World.frozen?
    have hh : (w.drew.alloc (.cells (bytesRow s (grownCap w s.size 0 5)) 5 ((bytesRow s (grownCap w s.size 0 5)).size, (bytesRow s (grownCap w s.size 0 5)).size + 1))).heap[w.heap.size]? = some (.cells (bytesRow s (grownCap w s.size 0 5)) 5 ((bytesRow s (grownCap w s.size 0 5)).size, (bytesRow s (grownCap w s.size 0 5)).size + 1)) := by
      show (w.heap.push _)[w.heap.size]? = _
      simp
    rw [hh]
    simp
    omega

def RepRel (w : World) (n : Nat) (l : List Int) (i : Value) (wr : World) : Prop :=
  ∃ k : Nat, k ≤ n ∧ i = .int .i64 k ∧ Below w.heap.size w wr ∧ (∀ j, j < n → wr.frozen? ⟨w.heap.size, j, none⟩ = false) ∧
    ∀ j, j < n → wr.cell? ⟨w.heap.size, j, none⟩ = some (.int .u8 (if j < k then rp (l.getD j 0) else l.getD j 0))

set_option maxHeartbeats 400000 in
theorem replace_any (s : ByteArray) (w : World) (hs : s.size ≤ 100000) :
    Calls Tryz.prog 63 #[.string s] w fun e w' => e = .returned (.string (sb ((bl s).map rp))) ∧ Below w.heap.size w w' := by
  obtain ⟨cap, w1, hc, hcm, hrun, hbel, hcell, hfr⟩ := conv_free s w (by unfold maxLen; omega)
  have hstart : RepRel w s.size (bl s) (.int .i64 0) w1 := ⟨0, Nat.zero_le _, rfl, hbel, hfr, fun j hj => by rw [hcell j hj]; simp⟩
  have HS : Hid _ := hstart
  have HBd : Hid _ := bl_bd s
  have HL : Hid _ := bl_len s
  clear hstart hbel hcell hfr hc hcm
  generalize bl s = l at *
  go_enter Tryz.func63, Tryz.ntmps63
  go_wp2
  go_loopw [10] (fun i wr => RepRel w s.size l i wr) (fun i _ => s.size - (intOf i).toNat)
  case atStart => exact HS.out
  case round =>
    obtain ⟨k, hk, rfl, hbel, hfr, hcell⟩ := hrel
    have HB : Hid _ := hbel
    have HF : Hid _ := hfr
    have HC : Hid _ := hcell
    clear hbel HS hrun
    by_cases hlt : k < s.size
    · have hfk := hfr k hlt
      have hck := hcell k hlt
      rw [if_neg (Nat.lt_irrefl k)] at hck
      have hb1 := (HBd.out k).1
      have hb2 := (HBd.out k).2
      clear hfr hcell
      by_cases hw : isWhite (l.getD k 0) = true
      · have hr : Hid (rp (l.getD k 0) = 32) := by show _ = _; unfold rp; rw [if_pos hw]
        generalize hx : l.getD k 0 = c at *
        have HX : Hid _ := hx
        clear hx
        go_wp2_with (go_at_call 116; refine (white_any _ _).mono ?_; rintro e w' ⟨rfl, rfl⟩)
        go_roundw
        case rel =>
          refine ⟨k + 1, by omega, by go_num, HB.out.setCell (Nat.le_refl _) _, fun j hj => by simpa using HF.out j hj, fun j hj => ?_⟩
          by_cases e : j = k
          · subst e
            rw [World.cell?_setCell_same' _ _ _ (by rw [hck]; rfl), if_pos (by omega), HX.out, hr.out]
          · rw [World.cell?_setCell_other _ _ _ _ (addr_ne _ (fun h => e h.symm)), HC.out j hj]
            by_cases g : j < k
            · rw [if_pos g, if_pos (by omega)]
            · rw [if_neg g, if_neg (by omega)]
        case measure => simp [intOf]; omega
      · have hw' : isWhite (l.getD k 0) = false := by simpa using hw
        have hr : Hid (rp (l.getD k 0) = l.getD k 0) := by show _ = _; unfold rp; rw [if_neg hw]
        clear hw
        generalize hx : l.getD k 0 = c at *
        have HX : Hid _ := hx
        clear hx
        go_wp2_with (go_at_call 116; refine (white_any _ _).mono ?_; rintro e w' ⟨rfl, rfl⟩)
        go_roundw
        case rel =>
          refine ⟨k + 1, by omega, by go_num, HB.out, HF.out, fun j hj => ?_⟩
          rw [HC.out j hj]
          by_cases g : j < k
          · rw [if_pos g, if_pos (by omega)]
          · rw [if_neg g]
            by_cases e : j = k
            · subst e; rw [if_pos (by omega), HX.out, hr.out]
            · rw [if_neg (by omega)]
        case measure => simp [intOf]; omega
    · have hcv := conv_string w.heap.size 0 cap (l.map rp) wr (fun j hj => by
        rw [List.length_map] at hj
        rw [Nat.zero_add, HC.out j (by rw [← HL.out]; exact hj), if_pos (by rw [HL.out] at hj; omega), rp_getD l j hj])
      rw [List.length_map, HL.out] at hcv
      clear hfr hcell
      go_wp2
      go_ret
      exact ⟨rfl, HB.out⟩

def spc (s : ByteArray) (how : Int) : ByteArray := if how = 2 then sb ((bl s).map rp) else if how = 3 then sb (col (bl s) [] false) else s
set_option maxHeartbeats 400000 in
theorem space_any (s : ByteArray) (how : Int) (w : World) (hs : s.size ≤ 100000) :
    Calls Tryz.prog 38 #[.string s, .int .i64 how] w fun e w' => e = .returned (.string (spc s how)) ∧ Below w.heap.size w w' := by
  by_cases h2 : how = 2
  · subst h2
    go_enter Tryz.func38, Tryz.ntmps38
    go_wp2_with (go_at_call 63; refine (replace_any _ _ hs).mono ?_; rintro e w' ⟨rfl, hb⟩)
    go_ret
    exact ⟨rfl, ‹_›⟩
  · by_cases h3 : how = 3
    · subst h3
      exact space_col s w hs
    · have e2 : (how == 2) = false := beq_eq_false_iff_ne.2 h2
      have e3 : (how == 3) = false := beq_eq_false_iff_ne.2 h3
      have hq : Hid (spc s how = s) := by show _ = _; unfold spc; rw [if_neg h2, if_neg h3]
      clear h2 h3
      go_enter Tryz.func38, Tryz.ntmps38
      go_wp2
      go_ret
      refine ⟨?_, Below.refl _ _⟩
      rw [hq.out]; rfl

end Go.Proofs.YtgaegajcejpmdaaGreatDoor.Ch
