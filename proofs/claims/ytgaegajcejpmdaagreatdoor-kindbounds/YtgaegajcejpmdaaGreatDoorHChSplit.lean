/- The library's Split at a blank: its contract; two rows of texts compared. -/
import Derived.Test.YtgaegajcejpmdaaGreatDoorHJ40
import Derived.RegionTactic
namespace Go.Proofs.YtgaegajcejpmdaaGreatDoor.Ch
open Go.RowKit
set_option linter.unusedVariables false

def ixs : List Int → Int
  | [] => -1
  | b :: l => if b = 32 then 0 else if ixs l = -1 then -1 else ixs l + 1
theorem ixs_lib (l : List UInt8) : Lib.indexByte l 32 = ixs (l.map fun c => (c.toNat : Int)) := by
  induction l with
  | nil => rfl
  | cons b l ih =>
    simp only [Lib.indexByte, List.map_cons, ixs, ih]
    have e : (b == 32) = decide ((b.toNat : Int) = 32) := by
      rw [Bool.eq_iff_iff]; simp
      constructor
      · rintro rfl; rfl
      · intro h; exact UInt8.toNat_inj.1 (by simpa using (by omega : b.toNat = 32))
    rw [e]
    simp
theorem ixs_bd (l : List Int) : ixs l = -1 ∨ (0 ≤ ixs l ∧ ixs l < l.length) := by
  induction l with
  | nil => simp [ixs]
  | cons b l ih =>
    have : ((b :: l).length : Int) = l.length + 1 := by simp
    rw [this]
    simp only [ixs]
    by_cases h1 : b = 32
    · rw [if_pos h1]; omega
    · rw [if_neg h1]
      by_cases h2 : ixs l = -1
      · rw [if_pos h2]; omega
      · rw [if_neg h2]; omega
def cs : List Int → Nat
  | [] => 0
  | b :: l => if b = 32 then cs l + 1 else cs l
theorem cs_lib (l : List UInt8) : Lib.countByte l 32 = cs (l.map fun c => (c.toNat : Int)) := by
  induction l with
  | nil => rfl
  | cons b l ih =>
    unfold Lib.countByte at ih ⊢
    rw [List.count_cons, ih]
    simp only [List.map_cons, cs]
    by_cases h : b = 32
    · subst h; simp
    · have h' : ¬ ((b.toNat : Int) = 32) := fun g => h (UInt8.toNat_inj.1 (by simpa using (by omega : b.toNat = 32)))
      simp [h, h']
theorem cs_le (l : List Int) : cs l ≤ l.length := by
  induction l with
  | nil => simp [cs]
  | cons b l ih => simp only [cs, List.length_cons]; split <;> omega
def spl : List Int → List (List Int)
  | [] => [[]]
  | c :: l => if c = 32 then [] :: spl l else (c :: (spl l).headD []) :: (spl l).tail
theorem spl_len (l : List Int) : (spl l).length = cs l + 1 := by
  induction l with
  | nil => rfl
  | cons c l ih =>
    simp only [spl, cs]
    split
    · simp [ih]
    · simp [ih]
theorem spl_ne (l : List Int) : spl l = (spl l).headD [] :: (spl l).tail := by
  have := spl_len l
  cases h : spl l with
  | nil => rw [h] at this; simp at this
  | cons a t => rfl
theorem ixs_cs (l : List Int) : ixs l = -1 ↔ cs l = 0 := by
  induction l with
  | nil => simp [ixs, cs]
  | cons b l ih =>
    simp only [ixs, cs]
    have := ixs_bd l
    by_cases h : b = 32
    · simp [h]
    · simp only [h, if_false]
      by_cases h2 : ixs l = -1
      · simp [h2, ih.1 h2]
      · simp only [h2, if_false]
        constructor
        · intro g; omega
        · intro g; exact absurd (ih.2 g) h2
theorem spl_no (l : List Int) (h : ixs l = -1) : spl l = [l] := by
  induction l with
  | nil => rfl
  | cons b l ih =>
    simp only [ixs] at h
    have := ixs_bd l
    by_cases hb : b = 32
    · rw [if_pos hb] at h; omega
    · rw [if_neg hb] at h
      by_cases h2 : ixs l = -1
      · simp only [spl, hb, if_false, ih h2]; rfl
      · rw [if_neg h2] at h; omega
theorem spl_at (l : List Int) (k : Nat) (h : ixs l = (k : Int)) : spl l = l.take k :: spl (l.drop (k + 1)) := by
  induction l generalizing k with
  | nil => simp [ixs] at h
  | cons b l ih =>
    simp only [ixs] at h
    by_cases hb : b = 32
    · rw [if_pos hb] at h
      have : k = 0 := by omega
      subst this
      simp [spl, hb]
    · rw [if_neg hb] at h
      by_cases h2 : ixs l = -1
      · rw [if_pos h2] at h; omega
      · rw [if_neg h2] at h
        obtain ⟨k, rfl⟩ : ∃ m, k = m + 1 := ⟨k - 1, by have := ixs_bd l; omega⟩
        have := ih k (by omega)
        simp only [spl, hb, if_false, this]
        rfl
theorem cs_at (l : List Int) (k : Nat) (h : ixs l = (k : Int)) : cs l = cs (l.drop (k + 1)) + 1 := by
  have h1 := spl_len l
  rw [spl_at l k h] at h1
  have h2 := spl_len (l.drop (k + 1))
  simp at h1
  omega

theorem blank_run (s : ByteArray) (c : Int) (w : World) : (callFunc 215 #[.string s, .int .u8 c]).run Tryz.prog w = .ok (.value (.int .i64 (Lib.indexByte s.data.toList c.toNat.toUInt8))) w := colon_run s c w
set_option maxHeartbeats 400000 in
theorem index_sp (s : ByteArray) (w : World) :
    Calls Tryz.prog 150 #[.string s, .string ⟨#[32]⟩] w fun e w' => e = .returned (.int .i64 (ixs (bl s))) ∧ w' = w := by
  have hr := colon_run s
  go_enter Tryz.func150, Tryz.ntmps150
  go_wp2
  · go_ret
    refine ⟨ret_int ?_, rfl⟩
    have h : s.toList = [32] := (beq_iff_eq.1 ‹_›).symm
    have : bl s = [32] := by unfold bl; rw [← Lib.toList_data, h]; rfl
    rw [this]; rfl
  · go_ret
    refine ⟨ret_int ?_, rfl⟩
    exact ixs_lib s.data.toList
/-- A row of texts as it lies in memory. -/
def Sts (w : World) (a : Option Addr) (ps : List ByteArray) : Prop :=
  ps = [] ∨ ∃ b, a = some ⟨b, 0, none⟩ ∧ ∀ i, i < ps.length → w.cell? ⟨b, i, none⟩ = some (.string (ps.getD i ⟨#[]⟩))
theorem Sts.below {w w' : World} {a : Option Addr} {ps : List ByteArray} (h : Sts w a ps) (hb : Below w.heap.size w w') : Sts w' a ps := by
  rcases h with h0 | ⟨b, rfl, hc⟩
  · exact .inl h0
  · refine .inr ⟨b, rfl, fun i hi => ?_⟩
    have := hc i hi
    exact (hb.cell (World.block_lt_of_cell? w _ this)).trans this
def words (l : List Int) : List ByteArray := (spl l).map sb
theorem info9 : (Tryz.prog.info? 9).map (fun i => (i.zero, i.size, i.bytes)) = some (some (.string ⟨#[]⟩), 1, 16) := by kernel_rfl
theorem bl_cut (s : ByteArray) (k : Nat) : bl (s.extract 0 k) = (bl s).take k := by
  unfold bl
  simp [List.map_take]
theorem bl_cut_end (s : ByteArray) (k : Nat) : bl (s.extract k s.size) = (bl s).drop k := by
  unfold bl
  rw [← List.map_drop]
  congr 1
  simp
  exact List.take_of_length_le (by simp)

def GenRel (w : World) (G N : Nat) (all : List (List Int)) (v0 v10 : Value) (wr : World) : Prop :=
  ∃ (k : Nat) (rest : ByteArray) (done : List (List Int)), v10 = .int .i64 k ∧ v0 = .string rest ∧ done.length = k ∧ k + cs (bl rest) = N ∧ all = done ++ spl (bl rest) ∧ rest.size ≤ 100000 ∧
    Below w.heap.size w wr ∧ (∀ j, wr.frozen? ⟨G, j, none⟩ = false) ∧ (∀ j, j ≤ N → (wr.cell? ⟨G, j, none⟩).isSome = true) ∧ ∀ j, j < k → wr.cell? ⟨G, j, none⟩ = some (.string (sb (done.getD j [])))

theorem addr_ne (G : Nat) {k j : Nat} (h : ¬ k = j) : (⟨G, k, none⟩ : Addr) ≠ ⟨G, j, none⟩ := by
  intro g
  injection g with _ g2 _
  exact h g2
theorem getD_sb (l : List (List Int)) (j : Nat) (h : j < l.length) : (l.map sb).getD j ⟨#[]⟩ = sb (l.getD j []) := by
  simp [List.getD_eq_getElem?_getD, h]
theorem gen_step {w wr : World} {G N k : Nat} {done : List (List Int)} {x : ByteArray} (hG : w.heap.size ≤ G) (hd : done.length = k) (hk : k ≤ N) (hB : Below w.heap.size w wr) (hf : ∀ j, wr.frozen? ⟨G, j, none⟩ = false)
    (hs : ∀ j, j ≤ N → (wr.cell? ⟨G, j, none⟩).isSome = true) (hc : ∀ j, j < k → wr.cell? ⟨G, j, none⟩ = some (.string (sb (done.getD j [])))) :
    Below w.heap.size w (wr.setCell ⟨G, k, none⟩ (.string x)) ∧ (∀ j, (wr.setCell ⟨G, k, none⟩ (.string x)).frozen? ⟨G, j, none⟩ = false) ∧ (∀ j, j ≤ N → ((wr.setCell ⟨G, k, none⟩ (.string x)).cell? ⟨G, j, none⟩).isSome = true) ∧
    ∀ j, j < k + 1 → (wr.setCell ⟨G, k, none⟩ (.string x)).cell? ⟨G, j, none⟩ = some (.string (sb ((done ++ [bl x]).getD j []))) := by
  refine ⟨hB.setCell hG _, fun j => by simpa using hf j, fun j hj => ?_, fun j hj => ?_⟩
  · by_cases e : j = k
    · subst e; rw [World.cell?_setCell_same' _ _ _ (hs j hj)]; rfl
    · rw [World.cell?_setCell_other _ _ _ _ (addr_ne G (fun h => e h.symm))]; exact hs j hj
  · by_cases e : j = k
    · subst e
      rw [World.cell?_setCell_same' _ _ _ (hs j hk)]
      rw [List.getD_eq_getElem?_getD, ← hd]
      simp [sb_bl]
    · rw [World.cell?_setCell_other _ _ _ _ (addr_ne G (fun h => e h.symm)), hc j (by omega)]
      rw [List.getD_eq_getElem?_getD, List.getD_eq_getElem?_getD, List.getElem?_append_left (by omega)]

def wordsOf (l : List Int) : List ByteArray := if (col l [] false).length = 0 then [] else words (col l [] false)
theorem col_bd : ∀ (l out : List Int) (g : Bool), (∀ i, 0 ≤ l.getD i 0 ∧ l.getD i 0 < 256) → (∀ i, 0 ≤ out.getD i 0 ∧ out.getD i 0 < 256) → ∀ i, 0 ≤ (col l out g).getD i 0 ∧ (col l out g).getD i 0 < 256 := by
  intro l
  induction l with
  | nil => intro out g _ h; exact h
  | cons c l ih =>
    intro out g hl ho
    have hc : 0 ≤ c ∧ c < 256 := by simpa using hl 0
    have hl' : ∀ i, 0 ≤ l.getD i 0 ∧ l.getD i 0 < 256 := fun i => by simpa using hl (i + 1)
    simp only [col]
    split
    · exact ih out true hl' ho
    · split
      · refine ih _ false hl' ?_
        have := getD_app (getD_app ho 32 (by omega) (by omega)) c hc.1 hc.2
        simpa using this
      · exact ih _ false hl' (getD_app ho c hc.1 hc.2)
theorem col_len : ∀ (l out : List Int) (g : Bool), (col l out g).length ≤ out.length + l.length + g.toNat := by
  intro l
  induction l with
  | nil => intro out g; simp [col]
  | cons c l ih =>
    intro out g
    simp only [col]
    split
    · have := ih out true; simp at this ⊢; omega
    · split
      · rename_i h
        have := ih (out ++ [32, c]) false; simp [h.1] at this ⊢; omega
      · have := ih (out ++ [c]) false; simp at this ⊢; omega
theorem sb_size (l : List Int) : (sb l).size = l.length := by simp [sb, ByteArray.size]
theorem sb_empty (l : List Int) : (sb l).toList.isEmpty = decide (l.length = 0) := by
  rw [Lib.toList_data]
  cases l with
  | nil => rfl
  | cons a l => simp [sb]

end Go.Proofs.YtgaegajcejpmdaaGreatDoor.Ch
