/- Joined: HChKnown, HChShare, HChSplit, HChRep, HChColMath, HChNameMath, HChRefNames, HChRefWords. -/
import Derived.Test.YtknfipcegmajaaaDoorHJ10
import Derived.Lib.SlBytesConst
import Derived.RegionTactic
namespace Go.Proofs.YtknfipcegmajaaaDoor.Ch
open Go.RowKit
set_option linter.unusedVariables false

theorem below_alloc_then {w w2 : World} {o : Obj} (h : Below (w.alloc o).heap.size (w.alloc o) w2) : Below w.heap.size w w2 :=
  ((Below.refl _ _).alloc (Nat.le_refl _) o).trans (h.mono (by simp))
theorem k_dec : dec [240, 159, 152, 128, 120] = (128512, 4) := by decide +kernel
theorem k_qn : qn ⟨#[97, 58, 98]⟩ = (⟨#[97]⟩, ⟨#[98]⟩, true) := by kernel_rfl
theorem k_col : sb (col (bl ⟨#[32, 97, 32, 9, 32, 98, 32]⟩) [] false) = ⟨#[97, 32, 98]⟩ := by kernel_rfl
theorem k_n1 : nameB (bl ⟨#[120, 49]⟩) = true := by kernel_rfl
theorem k_n2 : nameB (bl ⟨#[49, 120]⟩) = false := by kernel_rfl
theorem k_c : cnt (bl ⟨#[97, 195, 169]⟩).length (bl ⟨#[97, 195, 169]⟩) = 2 := by kernel_rfl

end Go.Proofs.YtknfipcegmajaaaDoor.Ch
namespace Go.Proofs.YtknfipcegmajaaaDoor.Ch
open Go.RowKit
set_option linter.unusedVariables false

theorem Bts.below {w w' : World} {a : Option Addr} {l : List Int} (h : Bts w a l) (hb : Below w.heap.size w w') : Bts w' a l := by
  refine ⟨h.1, ?_⟩
  rcases h.2 with h0 | ⟨b, o, rfl, hc⟩
  · exact .inl h0
  · refine .inr ⟨b, o, rfl, fun i hi => ?_⟩
    have := hc i hi
    exact (hb.cell (World.block_lt_of_cell? w _ this)).trans this
theorem conv_bts (a : Option Addr) (cap : Nat) (l : List Int) (w : World) (h : Bts w a l) (h0 : a = none → l = [] ∧ cap = 0) : (convert 47 9 (.slice a l.length cap)).run Tryd.prog w = .ok (.string (sb l)) w := by
  rcases h.2 with rfl | ⟨b, o, rfl, hc⟩
  · cases a with
    | none => obtain ⟨_, rfl⟩ := h0 rfl; exact conv_nil w
    | some x =>
      obtain ⟨b, o, sp⟩ := x
      rw [run_convert_bytes_string w 47 9 5 _ _ _ Tryd.underlying47 Tryd.underlying5 Tryd.underlying9]
      rfl
  · exact conv_string b o cap l w hc

theorem bts_drewN {w : World} {a : Option Addr} {l : List Int} (h : Bts w a l) (n : Nat) : Bts (w.drewN n) a l := by
  refine ⟨h.1, ?_⟩
  rcases h.2 with h0 | ⟨b, o, rfl, hc⟩
  · exact .inl h0
  · exact .inr ⟨b, o, rfl, fun i hi => hc i hi⟩
theorem fin_rng (r n : Int) : -1 ≤ (fin r n).1 ∧ (fin r n).1 ≤ 1114111 ∨ n = 0 := by
  unfold fin
  split
  · rename_i h
    by_cases h0 : n = 0
    · exact .inr h0
    · refine .inl ?_
      rw [← h] at h0
      unfold wid at h0
      simp only
      repeat' split at h0
      all_goals (first | omega | simp at h0)
  · simp
theorem dec_rng (l : List Int) (hby : ∀ i, 0 ≤ l.getD i 0 ∧ l.getD i 0 < 256) : -1 ≤ (dec l).1 ∧ (dec l).1 ≤ 1114111 := by
  have h0 := hby 0
  unfold dec dec2 dec3 dec4
  repeat' split
  all_goals (first | (simp; done) | (have h := fin_rng (l.getD 0 0 % 32 * 64 + l.getD 1 0 % 64) 2; omega) | (have h := fin_rng ((l.getD 0 0 % 16 * 64 + l.getD 1 0 % 64) * 64 + l.getD 2 0 % 64) 3; omega) | (have h := fin_rng (((l.getD 0 0 % 8 * 64 + l.getD 1 0 % 64) * 64 + l.getD 2 0 % 64) * 64 + l.getD 3 0 % 64) 4; omega) | (dsimp only; omega))
/-- What stays as it was while the statement goes on: the row of bytes, and all that lay there at its begin. -/
def Kept (w : World) (a : Option Addr) (l : List Int) (W : World) : Prop := Bts W a l ∧ Below w.heap.size w W
theorem Kept.drew {w W : World} {a : Option Addr} {l : List Int} (h : Kept w a l W) : Kept w a l W.drew := ⟨bts_drewN h.1 1, h.2.drew⟩
theorem Kept.step {w W W' : World} {a : Option Addr} {l : List Int} (h : Kept w a l W) (hb : Below W.heap.size W W') : Kept w a l W' := ⟨Bts.below h.1 hb, h.2.trans (hb.mono h.2.size)⟩
theorem wrap_i64_of (x : Int) (h0 : -9223372036854775808 ≤ x) (h1 : x ≤ 9223372036854775807) : IntKind.i64.wrap x = x := by
  simp [IntKind.wrap, IntKind.bits, IntKind.signed]
  split <;> omega
end Go.Proofs.YtknfipcegmajaaaDoor.Ch
namespace Go.Proofs.YtknfipcegmajaaaDoor.Ch
open Go.RowKit
set_option linter.unusedVariables false

def ixs : List Int → Int
  | [] => -1
  | b :: l => if b = 32 then 0 else if ixs l = -1 then -1 else ixs l + 1
theorem ixs_lib (l : List UInt8) : Lib.indexByte l 32 = ixs (l.map fun c => (c.toNat : Int)) := by
  induction l with
  | nil => rfl
  | cons b l ih =>
    simp only [Lib.indexByte, List.map_cons, ixs, ih]
    have e : (b == 32) = decide ((b.toNat : Int) = 32) := by
      rw [Bool.eq_iff_iff]; simp
      constructor
      · rintro rfl; rfl
      · intro h; exact UInt8.toNat_inj.1 (by simpa using (by omega : b.toNat = 32))
    rw [e]
    simp
theorem ixs_bd (l : List Int) : ixs l = -1 ∨ (0 ≤ ixs l ∧ ixs l < l.length) := by
  induction l with
  | nil => simp [ixs]
  | cons b l ih =>
    have : ((b :: l).length : Int) = l.length + 1 := by simp
    rw [this]
    simp only [ixs]
    by_cases h1 : b = 32
    · rw [if_pos h1]; omega
    · rw [if_neg h1]
      by_cases h2 : ixs l = -1
      · rw [if_pos h2]; omega
      · rw [if_neg h2]; omega
def cs : List Int → Nat
  | [] => 0
  | b :: l => if b = 32 then cs l + 1 else cs l
theorem cs_lib (l : List UInt8) : Lib.countByte l 32 = cs (l.map fun c => (c.toNat : Int)) := by
  induction l with
  | nil => rfl
  | cons b l ih =>
    unfold Lib.countByte at ih ⊢
    rw [List.count_cons, ih]
    simp only [List.map_cons, cs]
    by_cases h : b = 32
    · subst h; simp
    · have h' : ¬ ((b.toNat : Int) = 32) := fun g => h (UInt8.toNat_inj.1 (by simpa using (by omega : b.toNat = 32)))
      simp [h, h']
theorem cs_le (l : List Int) : cs l ≤ l.length := by
  induction l with
  | nil => simp [cs]
  | cons b l ih => simp only [cs, List.length_cons]; split <;> omega
def spl : List Int → List (List Int)
  | [] => [[]]
  | c :: l => if c = 32 then [] :: spl l else (c :: (spl l).headD []) :: (spl l).tail
theorem spl_len (l : List Int) : (spl l).length = cs l + 1 := by
  induction l with
  | nil => rfl
  | cons c l ih =>
    simp only [spl, cs]
    split
    · simp [ih]
    · simp [ih]
theorem spl_ne (l : List Int) : spl l = (spl l).headD [] :: (spl l).tail := by
  have := spl_len l
  cases h : spl l with
  | nil => rw [h] at this; simp at this
  | cons a t => rfl
theorem ixs_cs (l : List Int) : ixs l = -1 ↔ cs l = 0 := by
  induction l with
  | nil => simp [ixs, cs]
  | cons b l ih =>
    simp only [ixs, cs]
    have := ixs_bd l
    by_cases h : b = 32
    · simp [h]
    · simp only [h, if_false]
      by_cases h2 : ixs l = -1
      · simp [h2, ih.1 h2]
      · simp only [h2, if_false]
        constructor
        · intro g; omega
        · intro g; exact absurd (ih.2 g) h2
theorem spl_no (l : List Int) (h : ixs l = -1) : spl l = [l] := by
  induction l with
  | nil => rfl
  | cons b l ih =>
    simp only [ixs] at h
    have := ixs_bd l
    by_cases hb : b = 32
    · rw [if_pos hb] at h; omega
    · rw [if_neg hb] at h
      by_cases h2 : ixs l = -1
      · simp only [spl, hb, if_false, ih h2]; rfl
      · rw [if_neg h2] at h; omega
theorem spl_at (l : List Int) (k : Nat) (h : ixs l = (k : Int)) : spl l = l.take k :: spl (l.drop (k + 1)) := by
  induction l generalizing k with
  | nil => simp [ixs] at h
  | cons b l ih =>
    simp only [ixs] at h
    by_cases hb : b = 32
    · rw [if_pos hb] at h
      have : k = 0 := by omega
      subst this
      simp [spl, hb]
    · rw [if_neg hb] at h
      by_cases h2 : ixs l = -1
      · rw [if_pos h2] at h; omega
      · rw [if_neg h2] at h
        obtain ⟨k, rfl⟩ : ∃ m, k = m + 1 := ⟨k - 1, by have := ixs_bd l; omega⟩
        have := ih k (by omega)
        simp only [spl, hb, if_false, this]
        rfl
theorem cs_at (l : List Int) (k : Nat) (h : ixs l = (k : Int)) : cs l = cs (l.drop (k + 1)) + 1 := by
  have h1 := spl_len l
  rw [spl_at l k h] at h1
  have h2 := spl_len (l.drop (k + 1))
  simp at h1
  omega

theorem blank_run (s : ByteArray) (c : Int) (w : World) : (callFunc 88 #[.string s, .int .u8 c]).run Tryd.prog w = .ok (.value (.int .i64 (Lib.indexByte s.data.toList c.toNat.toUInt8))) w := colon_run s c w
theorem count_run (s : ByteArray) (c : Int) (w : World) : (callFunc 75 #[.string s, .int .u8 c]).run Tryd.prog w = .ok (.value (.int .i64 (Lib.countByte s.data.toList c.toNat.toUInt8))) w := by
  rw [run_callFunc_extern Tryd.func75 (by kernel_rfl) (by kernel_rfl) (by kernel_rfl) (e := Extern.BytealgCount.count) (by kernel_rfl), Lib.run_countString]
  rfl

set_option maxHeartbeats 400000 in
theorem index_sp (s : ByteArray) (w : World) :
    Calls Tryd.prog 61 #[.string s, .string ⟨#[32]⟩] w fun e w' => e = .returned (.int .i64 (ixs (bl s))) ∧ w' = w := by
  have hr := colon_run s
  go_enter Tryd.func61, Tryd.ntmps61
  go_wp2
  · go_ret
    refine ⟨ret_int ?_, rfl⟩
    have h : s.toList = [32] := (beq_iff_eq.1 ‹_›).symm
    have : bl s = [32] := by unfold bl; rw [← Lib.toList_data, h]; rfl
    rw [this]; rfl
  · go_ret
    refine ⟨ret_int ?_, rfl⟩
    exact ixs_lib s.data.toList
set_option maxHeartbeats 400000 in
theorem count_sp (s : ByteArray) (w : World) :
    Calls Tryd.prog 60 #[.string s, .string ⟨#[32]⟩] w fun e w' => e = .returned (.int .i64 (cs (bl s))) ∧ w' = w := by
  have hr := count_run s
  go_enter Tryd.func60, Tryd.ntmps60
  go_wp2
  go_ret
  refine ⟨ret_int ?_, rfl⟩
  rw [show (bl s) = s.data.toList.map (fun c => (c.toNat : Int)) from rfl, ← cs_lib]
  rfl

/-- A row of texts as it lies in memory. -/
def Sts (w : World) (a : Option Addr) (ps : List ByteArray) : Prop :=
  ps = [] ∨ ∃ b, a = some ⟨b, 0, none⟩ ∧ ∀ i, i < ps.length → w.cell? ⟨b, i, none⟩ = some (.string (ps.getD i ⟨#[]⟩))
theorem Sts.below {w w' : World} {a : Option Addr} {ps : List ByteArray} (h : Sts w a ps) (hb : Below w.heap.size w w') : Sts w' a ps := by
  rcases h with h0 | ⟨b, rfl, hc⟩
  · exact .inl h0
  · refine .inr ⟨b, rfl, fun i hi => ?_⟩
    have := hc i hi
    exact (hb.cell (World.block_lt_of_cell? w _ this)).trans this
def words (l : List Int) : List ByteArray := (spl l).map sb
theorem info9 : (Tryd.prog.info? 9).map (fun i => (i.zero, i.size, i.bytes)) = some (some (.string ⟨#[]⟩), 1, 16) := by kernel_rfl
theorem bl_cut (s : ByteArray) (k : Nat) : bl (s.extract 0 k) = (bl s).take k := by
  unfold bl
  simp [List.map_take]
theorem bl_cut_end (s : ByteArray) (k : Nat) : bl (s.extract k s.size) = (bl s).drop k := by
  unfold bl
  rw [← List.map_drop]
  congr 1
  simp
  exact List.take_of_length_le (by simp)

def GenRel (w : World) (G N : Nat) (all : List (List Int)) (v0 v10 : Value) (wr : World) : Prop :=
  ∃ (k : Nat) (rest : ByteArray) (done : List (List Int)), v10 = .int .i64 k ∧ v0 = .string rest ∧ done.length = k ∧ k + cs (bl rest) = N ∧ all = done ++ spl (bl rest) ∧ rest.size ≤ 100000 ∧
    Below w.heap.size w wr ∧ (∀ j, wr.frozen? ⟨G, j, none⟩ = false) ∧ (∀ j, j ≤ N → (wr.cell? ⟨G, j, none⟩).isSome = true) ∧ ∀ j, j < k → wr.cell? ⟨G, j, none⟩ = some (.string (sb (done.getD j [])))

theorem addr_ne (G : Nat) {k j : Nat} (h : ¬ k = j) : (⟨G, k, none⟩ : Addr) ≠ ⟨G, j, none⟩ := by
  intro g
  injection g with _ g2 _
  exact h g2
theorem getD_sb (l : List (List Int)) (j : Nat) (h : j < l.length) : (l.map sb).getD j ⟨#[]⟩ = sb (l.getD j []) := by
  simp [List.getD_eq_getElem?_getD, h]
theorem gen_step {w wr : World} {G N k : Nat} {done : List (List Int)} {x : ByteArray} (hG : w.heap.size ≤ G) (hd : done.length = k) (hk : k ≤ N) (hB : Below w.heap.size w wr) (hf : ∀ j, wr.frozen? ⟨G, j, none⟩ = false)
    (hs : ∀ j, j ≤ N → (wr.cell? ⟨G, j, none⟩).isSome = true) (hc : ∀ j, j < k → wr.cell? ⟨G, j, none⟩ = some (.string (sb (done.getD j [])))) :
    Below w.heap.size w (wr.setCell ⟨G, k, none⟩ (.string x)) ∧ (∀ j, (wr.setCell ⟨G, k, none⟩ (.string x)).frozen? ⟨G, j, none⟩ = false) ∧ (∀ j, j ≤ N → ((wr.setCell ⟨G, k, none⟩ (.string x)).cell? ⟨G, j, none⟩).isSome = true) ∧
    ∀ j, j < k + 1 → (wr.setCell ⟨G, k, none⟩ (.string x)).cell? ⟨G, j, none⟩ = some (.string (sb ((done ++ [bl x]).getD j []))) := by
  refine ⟨hB.setCell hG _, fun j => by simpa using hf j, fun j hj => ?_, fun j hj => ?_⟩
  · by_cases e : j = k
    · subst e; rw [World.cell?_setCell_same' _ _ _ (hs j hj)]; rfl
    · rw [World.cell?_setCell_other _ _ _ _ (addr_ne G (fun h => e h.symm))]; exact hs j hj
  · by_cases e : j = k
    · subst e
      rw [World.cell?_setCell_same' _ _ _ (hs j hk)]
      rw [List.getD_eq_getElem?_getD, ← hd]
      simp [sb_bl]
    · rw [World.cell?_setCell_other _ _ _ _ (addr_ne G (fun h => e h.symm)), hc j (by omega)]
      rw [List.getD_eq_getElem?_getD, List.getD_eq_getElem?_getD, List.getElem?_append_left (by omega)]

set_option maxRecDepth 20000 in
set_option maxHeartbeats 1000000 in
theorem gen_sp (s : ByteArray) (w : World) (hs : s.size ≤ 100000) :
    Calls Tryd.prog 52 #[.string s, .string ⟨#[32]⟩, .int .i64 0, .int .i64 (-1)] w fun e w' =>
      ∃ a cap, e = .returned (.slice a (words (bl s)).length cap) ∧ Sts w' a (words (bl s)) ∧ Below w.heap.size w w' := by
  obtain ⟨i0, hi, hz0, hz1, hz2⟩ := info_parts info9
  have hcs := cs_le (bl s)
  rw [bl_len] at hcs
  generalize hN : cs (bl s) = N at *
  have HN : Hid _ := hN
  clear hN
  obtain ⟨w0, hmk, hown0, hg0⟩ := run_make_full (P := Tryd.prog) w w.heap.size 23 9 i0 (.string ⟨#[]⟩) 1 Tryd.underlying23 hi hz0 hz1 .i64 .i64 (N + 1) (by rw [hz2]; omega) (by unfold maxLen; omega) (Nat.le_refl _)
  have ec : ((N + 1 : Nat) : Int) = (N : Int) + 1 := by omega
  rw [ec] at hmk
  have hstart : GenRel w w.heap.size N (spl (bl s)) (.string s) (.int .i64 0) w0 := by
    refine ⟨0, s, [], rfl, rfl, rfl, by rw [HN.out]; omega, rfl, hs, (Below.refl _ _).grown hg0 (Nat.le_refl _) (by simp), fun j => hown0.frozenAt j, fun j hj => ?_, fun j hj => by omega⟩
    have hlen := hown0.1
    have hj' : j < (madeCells (Value.string ⟨#[]⟩).cells ((N + 1) * 1)).toList.length := by rw [hlen]; omega
    have := hown0.cells (g := w.heap.size) rfl j _ (List.getElem?_eq_getElem hj')
    rw [addr_add, Nat.zero_add] at this
    rw [this]; rfl
  have HS : Hid _ := hstart
  have hmin : ¬ ((s.size : Int) + 1 < (N : Int) + 1) := by omega
  clear hstart hown0 hg0 ec
  go_enter Tryd.func52, Tryd.ntmps52
  go_wp2_with fail
  refine (count_sp _ _).mono ?_
  rw [HN.out]
  rintro e w1 ⟨rfl, rfl⟩
  have HN1 : Hid (cs (bl s) = N) := HN.out
  go_wp2
  go_loopw [0, 10] (fun v0 v10 wr => GenRel w1 w1.heap.size N (spl (bl s)) v0 v10 wr) (fun _ i _ => N - (intOf i).toNat)
  case atStart => exact HS.out
  case round =>
    obtain ⟨k, rest, done, rfl, rfl, hd, hkN, hall, hsz, hB, hf, hsome, hc⟩ := hrel
    have HA : Hid _ := hall
    have HB : Hid _ := hB
    have HF : Hid _ := hf
    have HSm : Hid _ := hsome
    have HC : Hid _ := hc
    have HD : Hid _ := hd
    have hkN' : k ≤ N := by omega
    have hfk := hf k
    obtain ⟨v, hv⟩ := Option.isSome_iff_exists.1 (hsome k hkN')
    clear hall hB hf hsome hc hd hmk HS
    by_cases hlt : k < N
    · have hx : ¬ ixs (bl rest) = -1 := fun h => by have := (ixs_cs (bl rest)).1 h; omega
      have hb := ixs_bd (bl rest)
      obtain ⟨m, hm⟩ := Int.eq_ofNat_of_zero_le (by omega : 0 ≤ ixs (bl rest))
      have hml : m < rest.size := by rw [bl_len] at hb; omega
      have HM : Hid _ := hm
      have H1 : Hid _ := spl_at (bl rest) m hm
      have H2 : Hid _ := cs_at (bl rest) m hm
      have hq : Hid _ := hkN
      clear hx hb hm hkN
      go_wp2_with fail
      refine (index_sp _ _).mono ?_
      rw [HM.out]
      rintro e w2 ⟨rfl, rfl⟩
      go_wp2
      go_roundw
      case rel =>
        obtain ⟨g1, g2, g3, g4⟩ := gen_step (x := rest.extract 0 m) (Nat.le_refl _) HD.out hkN' HB.out HF.out HSm.out HC.out
        refine ⟨k + 1, rest.extract (m + 1) rest.size, done ++ [bl (rest.extract 0 m)], by go_num, rfl, by simp [HD.out], ?_, ?_, by simp; omega, g1, g2, g3, g4⟩
        · rw [bl_cut_end]; have := H2.out; have := hq.out; omega
        · rw [HA.out, H1.out, bl_cut, bl_cut_end]; simp
      case measure => simp [intOf]; omega
    · have hkk : k = N := by omega
      subst hkk
      have hc0 : cs (bl rest) = 0 := by omega
      have H1 : Hid _ := spl_no (bl rest) ((ixs_cs (bl rest)).2 hc0)
      clear hc0 hkN hlt
      go_wp2
      go_ret
      obtain ⟨g1, g2, g3, g4⟩ := gen_step (x := rest) (Nat.le_refl _) HD.out hkN' HB.out HF.out HSm.out HC.out
      have hw : words (bl s) = (done ++ [bl rest]).map sb := by unfold words; rw [HA.out, H1.out]
      have hl : (words (bl s)).length = k + 1 := by rw [hw]; simp [HD.out]
      refine ⟨some ⟨w1.heap.size, 0, none⟩, k + 1, by rw [hl]; rfl, .inr ⟨w1.heap.size, rfl, fun j hj => ?_⟩, g1⟩
      rw [hl] at hj
      rw [g4 j hj, hw, getD_sb _ j (by simp [HD.out]; omega)]
set_option maxHeartbeats 400000 in
theorem split_sp (s : ByteArray) (w : World) (hs : s.size ≤ 100000) :
    Calls Tryd.prog 43 #[.string s, .string ⟨#[32]⟩] w fun e w' =>
      ∃ a cap, e = .returned (.slice a (words (bl s)).length cap) ∧ Sts w' a (words (bl s)) ∧ Below w.heap.size w w' := by
  go_enter Tryd.func43, Tryd.ntmps43
  go_wp2_with (go_at_call 52; refine (gen_sp _ _ hs).mono ?_; rintro e w' ⟨a, cap, rfl, h1, h2⟩)
  go_ret
  exact ⟨a, cap, rfl, h1, h2⟩

def wordsOf (l : List Int) : List ByteArray := if (col l [] false).length = 0 then [] else words (col l [] false)
theorem col_bd : ∀ (l out : List Int) (g : Bool), (∀ i, 0 ≤ l.getD i 0 ∧ l.getD i 0 < 256) → (∀ i, 0 ≤ out.getD i 0 ∧ out.getD i 0 < 256) → ∀ i, 0 ≤ (col l out g).getD i 0 ∧ (col l out g).getD i 0 < 256 := by
  intro l
  induction l with
  | nil => intro out g _ h; exact h
  | cons c l ih =>
    intro out g hl ho
    have hc : 0 ≤ c ∧ c < 256 := by simpa using hl 0
    have hl' : ∀ i, 0 ≤ l.getD i 0 ∧ l.getD i 0 < 256 := fun i => by simpa using hl (i + 1)
    simp only [col]
    split
    · exact ih out true hl' ho
    · split
      · refine ih _ false hl' ?_
        have := getD_app (getD_app ho 32 (by omega) (by omega)) c hc.1 hc.2
        simpa using this
      · exact ih _ false hl' (getD_app ho c hc.1 hc.2)
theorem col_len : ∀ (l out : List Int) (g : Bool), (col l out g).length ≤ out.length + l.length + g.toNat := by
  intro l
  induction l with
  | nil => intro out g; simp [col]
  | cons c l ih =>
    intro out g
    simp only [col]
    split
    · have := ih out true; simp at this ⊢; omega
    · split
      · rename_i h
        have := ih (out ++ [32, c]) false; simp [h.1] at this ⊢; omega
      · have := ih (out ++ [c]) false; simp at this ⊢; omega
theorem sb_size (l : List Int) : (sb l).size = l.length := by simp [sb, ByteArray.size]
theorem sb_empty (l : List Int) : (sb l).toList.isEmpty = decide (l.length = 0) := by
  rw [Lib.toList_data]
  cases l with
  | nil => rfl
  | cons a l => simp [sb]

set_option maxHeartbeats 400000 in
theorem words_any (s : ByteArray) (w : World) (hs : s.size ≤ 50000) :
    Calls Tryd.prog 26 #[.string s] w fun e w' => ∃ a cap, e = .returned (.slice a (wordsOf (bl s)).length cap) ∧ Sts w' a (wordsOf (bl s)) ∧ Below w.heap.size w w' := by
  have hcb := col_bd (bl s) [] false (bl_bd s) (by intro i; simp)
  have hcl := col_len (bl s) [] false
  rw [bl_len] at hcl
  simp at hcl
  have hsz : (sb (col (bl s) [] false)).size ≤ 100000 := by rw [sb_size]; omega
  have hem := sb_empty (col (bl s) [] false)
  have HBl : Hid _ := bl_sb _ hcb
  by_cases h0 : (col (bl s) [] false).length = 0
  · have hw : Hid (wordsOf (bl s) = []) := by show _ = _; unfold wordsOf; rw [if_pos h0]
    rw [decide_eq_true h0] at hem
    clear hcb hcl
    go_enter Tryd.func26, Tryd.ntmps26
    go_wp2_with (go_at_call 42; refine (collapse_any _ _ (by omega)).mono ?_; rintro e w' ⟨rfl, hb⟩)
    go_ret
    refine ⟨none, 0, by rw [hw.out]; rfl, .inl hw.out, ‹_›⟩
  · have hw : Hid (wordsOf (bl s) = words (col (bl s) [] false)) := by show _ = _; unfold wordsOf; rw [if_neg h0]
    rw [decide_eq_false h0] at hem
    clear hcb hcl
    go_enter Tryd.func26, Tryd.ntmps26
    go_wp2_with fail
    refine (collapse_any _ _ (by omega)).mono ?_
    rintro e w1 ⟨rfl, hb1⟩
    go_wp2_with fail
    refine (split_sp _ _ hsz).mono ?_
    rw [HBl.out, ← hw.out]
    rintro e w2 ⟨a, cap, rfl, h1, h2⟩
    go_wp2
    go_ret
    exact ⟨a, cap, rfl, h1, hb1.trans (h2.mono hb1.size)⟩
end Go.Proofs.YtknfipcegmajaaaDoor.Ch
namespace Go.Proofs.YtknfipcegmajaaaDoor.Ch
open Go.RowKit
set_option linter.unusedVariables false

def rp (c : Int) : Int := if isWhite c = true then 32 else c
theorem rp_bd (c : Int) (h : 0 ≤ c ∧ c < 256) : 0 ≤ rp c ∧ rp c < 256 := by unfold rp; split <;> omega
theorem rp_getD (l : List Int) (j : Nat) (h : j < l.length) : (l.map rp).getD j 0 = rp (l.getD j 0) := by
  simp [List.getD_eq_getElem?_getD, h]
theorem conv_free (s : ByteArray) (w : World) (hs : s.size ≤ maxLen) : ∃ cap w1, s.size ≤ cap ∧ cap ≤ maxLen ∧
    (convert 9 47 (.string s)).run Tryd.prog w = .ok (.slice (some ⟨w.heap.size, 0, none⟩) s.size cap) w1 ∧ Below w.heap.size w w1 ∧
    (∀ j, j < s.size → w1.cell? ⟨w.heap.size, j, none⟩ = some (.int .u8 ((bl s).getD j 0))) ∧ ∀ j, j < s.size → w1.frozen? ⟨w.heap.size, j, none⟩ = false := by
  refine ⟨grownCap w s.size 0 5, _, grownCap_ge _ _ _ _, grownCap_le_maxLen _ _ _ _ hs, run_bytes_of_string w 9 47 5 s Tryd.underlying9 Tryd.underlying47 Tryd.underlying5, ?_, ?_, ?_⟩
  · exact (Below.refl _ _).drew.alloc (Nat.le_refl _) _
  · intro i hi
    have h := World.cell?_alloc_mark w.drew (bytesRow s (grownCap w s.size 0 5)) 5 ((bytesRow s (grownCap w s.size 0 5)).size, (bytesRow s (grownCap w s.size 0 5)).size + 1) i
    refine h.trans ?_
    rw [bytesRow_at s _ i hi]
    simp [bl, List.getD_eq_getElem?_getD, hi]
  · intro i hi
    have hge := grownCap_ge w s.size 0 5
    have hsz : (bytesRow s (grownCap w s.size 0 5)).size = grownCap w s.size 0 5 := by
      unfold bytesRow
      rw [Array.size_append, Array.size_map, Array.size_replicate]
      have : s.data.size = s.size := rfl
      omega
    unfold World.frozen?
    have hh : (w.drew.alloc (.cells (bytesRow s (grownCap w s.size 0 5)) 5 ((bytesRow s (grownCap w s.size 0 5)).size, (bytesRow s (grownCap w s.size 0 5)).size + 1))).heap[w.heap.size]? = some (.cells (bytesRow s (grownCap w s.size 0 5)) 5 ((bytesRow s (grownCap w s.size 0 5)).size, (bytesRow s (grownCap w s.size 0 5)).size + 1)) := by
      show (w.heap.push _)[w.heap.size]? = _
      simp
    rw [hh]
    simp
    omega

def RepRel (w : World) (n : Nat) (l : List Int) (i : Value) (wr : World) : Prop :=
  ∃ k : Nat, k ≤ n ∧ i = .int .i64 k ∧ Below w.heap.size w wr ∧ (∀ j, j < n → wr.frozen? ⟨w.heap.size, j, none⟩ = false) ∧
    ∀ j, j < n → wr.cell? ⟨w.heap.size, j, none⟩ = some (.int .u8 (if j < k then rp (l.getD j 0) else l.getD j 0))

def spc (s : ByteArray) (how : Int) : ByteArray := if how = 2 then sb ((bl s).map rp) else if how = 3 then sb (col (bl s) [] false) else s
end Go.Proofs.YtknfipcegmajaaaDoor.Ch
namespace Go.Proofs.YtknfipcegmajaaaDoor.Ch
set_option linter.unusedVariables false

def step (st : List Int × Bool) (c : Int) : List Int × Bool :=
  if isWhite c = true then (st.1, true) else if st.2 = true ∧ 0 < st.1.length then (st.1 ++ [32, c], false) else (st.1 ++ [c], false)
theorem col_fold (l out : List Int) (g : Bool) : col l out g = (l.foldl step (out, g)).1 := by
  induction l generalizing out g with
  | nil => rfl
  | cons c l ih =>
    rw [List.foldl_cons]
    simp only [col, step]
    split
    · exact ih out true
    · split
      · exact ih _ false
      · exact ih _ false
def clean (out : List Int) : Prop := out.foldl step ([], false) = (out, false)
theorem clean_nil : clean [] := rfl
theorem clean_one {out : List Int} {c : Int} (h : clean out) (hc : isWhite c = false) : clean (out ++ [c]) := by
  unfold clean at *
  rw [List.foldl_append, h]
  simp [step, hc]
theorem clean_two {out : List Int} {c : Int} (h : clean out) (hc : isWhite c = false) (hl : 0 < out.length) : clean (out ++ [32, c]) := by
  unfold clean at *
  rw [List.foldl_append, h]
  have h32 : isWhite 32 = true := by decide
  simp [step, hc, h32, hl]
theorem clean_col (l out : List Int) (g : Bool) (h : clean out) : clean (col l out g) := by
  induction l generalizing out g with
  | nil => exact h
  | cons c l ih =>
    simp only [col]
    split
    · exact ih out true h
    · rename_i hw
      have hw' : isWhite c = false := by simpa using hw
      split
      · rename_i hg
        exact ih _ false (clean_two h hw' hg.2)
      · exact ih _ false (clean_one h hw')
theorem col_col (l : List Int) : col (col l [] false) [] false = col l [] false := by
  have := clean_col l [] false clean_nil
  unfold clean at this
  rw [col_fold (col l [] false) [] false, this]
theorem rp_white (c : Int) : isWhite (rp c) = isWhite c := by
  unfold rp
  split
  · rename_i h; rw [h]; decide
  · rfl
theorem col_rp (l out : List Int) (g : Bool) : col (l.map rp) out g = col l out g := by
  induction l generalizing out g with
  | nil => rfl
  | cons c l ih =>
    simp only [List.map_cons, col, rp_white]
    split
    · exact ih out true
    · rename_i hw
      have e : rp c = c := by unfold rp; rw [if_neg hw]
      rw [e]
      split
      · exact ih _ false
      · exact ih _ false
theorem wordsOf_col (l : List Int) : wordsOf (col l [] false) = wordsOf l := by
  unfold wordsOf
  rw [col_col]
theorem words_le (l : List Int) : (wordsOf l).length ≤ l.length + 1 := by
  unfold wordsOf
  split
  · simp
  · unfold words
    rw [List.length_map, spl_len]
    have := cs_le (col l [] false)
    have := col_len l [] false
    simp at this
    omega
end Go.Proofs.YtknfipcegmajaaaDoor.Ch
namespace Go.Proofs.YtknfipcegmajaaaDoor.Ch
set_option linter.unusedVariables false

def wd : List Int → List Int → List (List Int)
  | [], cur => if cur.length = 0 then [] else [cur]
  | c :: l, cur => if isWhite c = true then (if cur.length = 0 then wd l [] else cur :: wd l []) else wd l (cur ++ [c])
def join : List (List Int) → List Int
  | [] => []
  | [w] => w
  | w :: v :: ws => w ++ 32 :: join (v :: ws)
theorem join_snoc (D : List (List Int)) (h : D ≠ []) (w : List Int) : join (D ++ [w]) = join D ++ 32 :: w := by
  induction D with
  | nil => exact absurd rfl h
  | cons a D ih =>
    cases D with
    | nil => simp [join]
    | cons b D =>
      have := ih (by simp)
      simp only [List.cons_append, join] at this ⊢
      rw [this]
      simp
theorem join_more (D : List (List Int)) (cur : List Int) (c : Int) : join (D ++ [cur]) ++ [c] = join (D ++ [cur ++ [c]]) := by
  by_cases h : D = []
  · subst h; rfl
  · rw [join_snoc D h, join_snoc D h]; simp
theorem join_pos (D : List (List Int)) (h : ∀ w ∈ D, 0 < w.length) (hd : D ≠ []) : 0 < (join D).length := by
  cases D with
  | nil => exact absurd rfl hd
  | cons a D =>
    have ha := h a (by simp)
    cases D with
    | nil => exact ha
    | cons b D => simp only [join, List.length_append]; omega
theorem col_wd (l : List Int) : (∀ D, (∀ w ∈ D, 0 < w.length) → col l (join D) true = join (D ++ wd l [])) ∧
    (∀ D cur, (∀ w ∈ D, 0 < w.length) → 0 < cur.length → col l (join (D ++ [cur])) false = join (D ++ wd l cur)) := by
  induction l with
  | nil =>
    refine ⟨fun D hD => by simp [col, wd], fun D cur hD hc => ?_⟩
    simp only [col, wd]
    rw [if_neg (by omega)]
  | cons c l ih =>
    obtain ⟨ihA, ihB⟩ := ih
    refine ⟨fun D hD => ?_, fun D cur hD hc => ?_⟩
    · simp only [col, wd]
      by_cases hw : isWhite c = true
      · rw [if_pos hw, if_pos hw, if_pos (show ([] : List Int).length = 0 from rfl)]
        exact ihA D hD
      · rw [if_neg hw, if_neg hw]
        by_cases hd : D = []
        · subst hd
          rw [if_neg (by simp [join])]
          exact ihB [] [c] (by simp) (by simp)
        · rw [if_pos ⟨trivial, join_pos D hD hd⟩]
          have := ihB D [c] hD (by simp)
          rw [join_snoc D hd] at this
          exact this
    · simp only [col, wd]
      by_cases hw : isWhite c = true
      · rw [if_pos hw, if_pos hw, if_neg (by omega)]
        have := ihA (D ++ [cur]) (by intro w hw; rcases List.mem_append.1 hw with h | h; exact hD w h; simp at h; subst h; exact hc)
        rw [this]; simp
      · rw [if_neg hw, if_neg hw, if_neg (by simp)]
        rw [join_more]
        exact ihB D (cur ++ [c]) hD (by simp)
theorem col_join (l : List Int) : col l [] false = join (wd l []) := by
  have h := (col_wd l).1 [] (by simp)
  have e : ∀ l : List Int, col l [] true = col l [] false := by
    intro l
    cases l with
    | nil => rfl
    | cons c l => simp [col]
  rw [← e]
  simpa [join] using h
theorem wd_ok (l : List Int) : ∀ cur, (∀ x ∈ cur, ¬ x = 32) → ∀ w ∈ wd l cur, 0 < w.length ∧ ∀ x ∈ w, ¬ x = 32 := by
  induction l with
  | nil =>
    intro cur hc w hw
    simp only [wd] at hw
    split at hw
    · simp at hw
    · simp at hw; subst hw; exact ⟨by omega, hc⟩
  | cons c l ih =>
    intro cur hc w hw
    simp only [wd] at hw
    split at hw
    · split at hw
      · exact ih [] (by simp) w hw
      · rcases List.mem_cons.1 hw with rfl | h
        · exact ⟨by omega, hc⟩
        · exact ih [] (by simp) w h
    · rename_i hwh
      refine ih (cur ++ [c]) ?_ w hw
      intro x hx
      rcases List.mem_append.1 hx with h | h
      · exact hc x h
      · simp at h; subst h
        intro h32; subst h32
        exact hwh (by decide)
theorem spl_word (w : List Int) (h : ∀ x ∈ w, ¬ x = 32) : spl w = [w] := by
  induction w with
  | nil => rfl
  | cons a w ih =>
    have ha := h a (by simp)
    have := ih (fun x hx => h x (by simp [hx]))
    simp only [spl, ha, if_false, this]
    rfl
theorem spl_app (w r : List Int) (h : ∀ x ∈ w, ¬ x = 32) : spl (w ++ 32 :: r) = w :: spl r := by
  induction w with
  | nil => simp [spl]
  | cons a w ih =>
    have ha := h a (by simp)
    have := ih (fun x hx => h x (by simp [hx]))
    simp only [List.cons_append, spl, ha, if_false, this]
    rfl
theorem spl_join (ws : List (List Int)) (hn : ws ≠ []) (h : ∀ w ∈ ws, ∀ x ∈ w, ¬ x = 32) : spl (join ws) = ws := by
  induction ws with
  | nil => exact absurd rfl hn
  | cons a ws ih =>
    cases ws with
    | nil => exact spl_word a (h a (by simp))
    | cons b ws =>
      simp only [join]
      rw [spl_app a _ (h a (by simp)), ih (by simp) (fun w hw => h w (by simp [hw]))]
theorem wordsOf_wd (l : List Int) : wordsOf l = (wd l []).map sb := by
  have hok := wd_ok l [] (by simp)
  unfold wordsOf words
  rw [col_join]
  by_cases h : wd l [] = []
  · rw [h]; simp [join]
  · have hp := join_pos (wd l []) (fun w hw => (hok w hw).1) h
    rw [if_neg (by omega), spl_join _ h (fun w hw => (hok w hw).2)]

def lets : Nat → List Int → Option (List Int)
  | 0, _ => some []
  | n + 1, l => if l.length = 0 then some [] else if (dec l).2 = 0 ∨ isChar (dec l).1 = false then none else (lets n (l.drop (dec l).2.toNat)).map ((dec l).1 :: ·)
theorem lets_end (n : Nat) (l : List Int) (h : l.length = 0) : lets n l = some [] := by
  cases n <;> simp [lets, h]
theorem lets_bad (n : Nat) (l : List Int) (h0 : ¬ l.length = 0) (h : (dec l).2 = 0 ∨ isChar (dec l).1 = false) : lets (n + 1) l = none := by
  simp only [lets]; rw [if_neg h0, if_pos h]
theorem lets_step (n : Nat) (l : List Int) (h0 : ¬ l.length = 0) (h : ¬ ((dec l).2 = 0 ∨ isChar (dec l).1 = false)) : lets (n + 1) l = (lets n (l.drop (dec l).2.toNat)).map ((dec l).1 :: ·) := by
  simp only [lets]; rw [if_neg h0, if_neg h]
theorem part_char (r : Int) (h : isPart r = true) : isChar r = true := by
  unfold isPart isStart at h
  unfold isChar at *
  simp only [decide_eq_true_eq] at *
  omega
theorem tok_lets (n : Nat) : ∀ l : List Int, tok n l = (match lets n l with | none => false | some ls => ls.all isPart) := by
  induction n with
  | zero => intro l; rfl
  | succ n ih =>
    intro l
    by_cases h0 : l.length = 0
    · rw [tok_end _ l h0, lets_end _ l h0]; rfl
    · by_cases hz : (dec l).2 = 0
      · rw [tok_bad n l h0 (.inl hz), lets_bad n l h0 (.inl hz)]
      · by_cases hp : isPart (dec l).1 = true
        · have hch := part_char _ hp
          rw [tok_step n l h0 (by simp [hz, hp]), lets_step n l h0 (by simp [hz, hch]), ih]
          cases lets n (l.drop (dec l).2.toNat) with
          | none => rfl
          | some ls => simp [hp]
        · have hp' : isPart (dec l).1 = false := by simpa using hp
          rw [tok_bad n l h0 (.inr hp')]
          by_cases hch : isChar (dec l).1 = true
          · rw [lets_step n l h0 (by simp [hz, hch])]
            cases lets n (l.drop (dec l).2.toNat) with
            | none => rfl
            | some ls => simp [hp']
          · rw [lets_bad n l h0 (.inr (by simpa using hch))]
theorem lets_head (n : Nat) (l ls : List Int) (hn : l.length ≤ n) (h : lets n l = some ls) : (ls.length = 0 ↔ l.length = 0) ∧ (0 < ls.length → ls.getD 0 0 = (dec l).1) := by
  by_cases h0 : l.length = 0
  · rw [lets_end n l h0] at h
    simp at h; subst h
    exact ⟨by simp [h0], by simp⟩
  · obtain ⟨n, rfl⟩ : ∃ m, n = m + 1 := ⟨n - 1, by omega⟩
    by_cases hb : (dec l).2 = 0 ∨ isChar (dec l).1 = false
    · rw [lets_bad n l h0 hb] at h; cases h
    · rw [lets_step n l h0 hb] at h
      cases hx : lets n (l.drop (dec l).2.toNat) with
      | none => rw [hx] at h; cases h
      | some t =>
        rw [hx] at h
        simp at h; subst h
        exact ⟨by simp [h0], by simp⟩
theorem lets_le (n : Nat) : ∀ l ls : List Int, lets n l = some ls → ls.length ≤ n := by
  induction n with
  | zero => intro l ls h; simp [lets] at h; subst h; simp
  | succ n ih =>
    intro l ls h
    by_cases h0 : l.length = 0
    · rw [lets_end _ l h0] at h; simp at h; subst h; simp
    · by_cases hb : (dec l).2 = 0 ∨ isChar (dec l).1 = false
      · rw [lets_bad n l h0 hb] at h; cases h
      · rw [lets_step n l h0 hb] at h
        cases hx : lets n (l.drop (dec l).2.toNat) with
        | none => rw [hx] at h; cases h
        | some t =>
          rw [hx] at h
          simp at h; subst h
          have := ih _ _ hx
          simp; omega
theorem tokB_none {l : List Int} (h : lets l.length l = none) : tokB l = false := by
  unfold tokB; rw [tok_lets, h]; rfl
theorem tokB_some {l ls : List Int} (h : lets l.length l = some ls) : tokB l = (ls.all isPart && decide (0 < ls.length)) := by
  have := (lets_head l.length l ls (Nat.le_refl _) h).1
  unfold tokB; rw [tok_lets, h]
  show (ls.all isPart && _) = _
  congr 1
  rw [Bool.eq_iff_iff]; simp; omega
end Go.Proofs.YtknfipcegmajaaaDoor.Ch
namespace Go.Proofs.YtknfipcegmajaaaDoor.Ch
open Go.RowKit
set_option linter.unusedVariables false

def Ins (w : World) (a : Option Addr) (ls : List Int) : Prop :=
  ls = [] ∨ ∃ b, a = some ⟨b, 0, none⟩ ∧ ∀ i, i < ls.length → w.cell? ⟨b, i, none⟩ = some (.int .i64 (ls.getD i 0))
theorem Ins.below {w w' : World} {a : Option Addr} {ps : List Int} (h : Ins w a ps) (hb : Below w.heap.size w w') : Ins w' a ps := by
  rcases h with h0 | ⟨b, rfl, hc⟩
  · exact .inl h0
  · refine .inr ⟨b, rfl, fun i hi => ?_⟩
    have := hc i hi
    exact (hb.cell (World.block_lt_of_cell? w _ this)).trans this
theorem info3 : (Tryd.prog.info? 3).map (fun i => (i.zero, i.size, i.bytes)) = some (some (.int .i64 0), 1, 8) := by kernel_rfl
theorem own_ints {w : World} {base n : Nat} {v : Value} {l : List Int} (h : w.ownsRow base 3 1 v n (l.map (Value.int .i64))) : ∃ a cap, v = .slice a l.length cap ∧ cap ≤ maxLen ∧ Ins w a l := by
  have hn : n = l.length := by have := h.1; simp at this; omega
  subst hn
  rcases h.2 with ⟨rfl, h0⟩ | ⟨g, cap, cur, rfl, hbg, hg, hnc, hcm, hcs, htake⟩
  · exact ⟨none, 0, by rw [h0], Nat.zero_le _, .inl (List.eq_nil_of_length_eq_zero h0)⟩
  · refine ⟨_, cap, rfl, hcm, .inr ⟨g, rfl, fun i hi => ?_⟩⟩
    have := h.cells (g := g) rfl i (.int .i64 (l.getD i 0)) (by simp [List.getD_eq_getElem?_getD, hi])
    rw [addr_add, Nat.zero_add] at this
    exact this

def LPost (w : World) (o : Option (List Int)) (e : Ending) (w' : World) : Prop :=
  Below w.heap.size w w' ∧ ((o = none ∧ e = .returned (.tuple #[.slice none 0 0, .bool false])) ∨ ∃ ls a cap, o = some ls ∧ e = .returned (.tuple #[.slice a ls.length cap, .bool true]) ∧ Ins w' a ls)
def LRel (w1 : World) (l : List Int) (v4 i : Value) (wr : World) : Prop :=
  ∃ (k n : Nat) (done : List Int), k ≤ l.length ∧ l.length - k ≤ n ∧ i = .int .i64 k ∧ wr.ownsRow w1.heap.size 3 1 v4 done.length (done.map (Value.int .i64)) ∧ Below w1.heap.size w1 wr ∧
    done.length ≤ k ∧ lets l.length l = (lets n (l.drop k)).map (done ++ ·)

theorem all_take (ls : List Int) (k : Nat) (h : ∀ j, j < k → isPart (ls.getD j 0) = true) (hk : ls.length ≤ k) : ls.all isPart = true := by
  rw [List.all_eq_true]
  intro x hx
  obtain ⟨j, hj, rfl⟩ := List.mem_iff_getElem.1 hx
  have := h j (by omega)
  simpa [List.getD_eq_getElem?_getD, hj] using this
theorem all_not (ls : List Int) (k : Nat) (hk : k < ls.length) (h : isPart (ls.getD k 0) = false) : ls.all isPart = false := by
  rw [List.all_eq_false]
  exact ⟨ls[k], List.getElem_mem hk, by simpa [List.getD_eq_getElem?_getD, hk] using h⟩

theorem ix_none (l : List Int) (h : ∀ j, j < l.length → ¬ l.getD j 0 = 58) : ix l = -1 := by
  induction l with
  | nil => rfl
  | cons b l ih =>
    have h0 : ¬ b = 58 := by simpa using h 0 (by simp)
    have := ih (fun j hj => by simpa using h (j + 1) (by simp; omega))
    simp [ix, h0, this]
theorem ix_found (l : List Int) (k : Nat) (hk : k < l.length) (h : ∀ j, j < k → ¬ l.getD j 0 = 58) (hf : l.getD k 0 = 58) : ix l = (k : Int) := by
  induction l generalizing k with
  | nil => simp at hk
  | cons b l ih =>
    cases k with
    | zero =>
      have : b = 58 := by simpa using hf
      simp [ix, this]
    | succ k =>
      have h0 : ¬ b = 58 := by simpa using h 0 (by omega)
      have := ih k (by simpa using hk) (fun j hj => by simpa using h (j + 1) (by omega)) (by simpa using hf)
      simp only [ix, h0, if_false, this]
      rw [if_neg (by omega)]
      omega
theorem bl_at (s : ByteArray) (k : Nat) (h : k < s.size) : (bl s).getD k 0 = (s[k].toNat : Int) := by
  have : k < s.data.size := h
  unfold bl
  rw [List.getD_eq_getElem?_getD, List.getElem?_map, Array.getElem?_toList, Array.getElem?_eq_getElem this]
  rfl

theorem qn_at (s : ByteArray) (k : Nat) (h : ix (bl s) = (k : Int)) : qn s = if ncB (bl (s.extract 0 k)) = true ∧ ncB (bl (s.extract (k + 1) s.size)) = true then (s.extract 0 k, s.extract (k + 1) s.size, true) else (⟨#[]⟩, ⟨#[]⟩, false) := by
  unfold qn
  have e1 : (ix (bl s)).toNat = k := by omega
  rw [if_neg (by omega), e1]
end Go.Proofs.YtknfipcegmajaaaDoor.Ch
namespace Go.Proofs.YtknfipcegmajaaaDoor.Ch
open Go.RowKit
set_option linter.unusedVariables false

theorem size_zero {s : ByteArray} (h : s.size = 0) : s = ⟨#[]⟩ := by
  cases s with
  | mk d =>
    have h' : d.size = 0 := h
    have : d = #[] := Array.eq_empty_of_size_eq_zero h'
    subst this
    rfl
theorem toList_ne {s : ByteArray} (h : ¬ s.size = 0) : s.toList.isEmpty = false := by
  have hsz : s.toList.length ≠ 0 := by rw [Lib.toList_data, Array.length_toList]; exact h
  cases hl : s.toList with
  | nil => rw [hl] at hsz; simp at hsz
  | cons a l => rfl
theorem bl_app (a b : ByteArray) : bl (a ++ b) = bl a ++ bl b := by
  simp [bl]
theorem bl_one (s : ByteArray) (k : Nat) (h : k < s.size) : bl (s.extract k (k + 1)) = [(bl s).getD k 0] := by
  have h' : k < s.data.size := h
  rw [bl_at s k h]
  unfold bl
  simp
  rw [List.drop_eq_getElem_cons (by simpa using h')]
  simp
  rfl
theorem own_strs {w : World} {base n : Nat} {v : Value} {l : List ByteArray} (h : w.ownsRow base 9 1 v n (l.map Value.string)) : ∃ a cap, v = .slice a l.length cap ∧ cap ≤ maxLen ∧ Sts w a l := by
  have hn : n = l.length := by have := h.1; simp at this; omega
  subst hn
  rcases h.2 with ⟨rfl, h0⟩ | ⟨g, cap, cur, rfl, hbg, hg, hnc, hcm, hcs, htake⟩
  · exact ⟨none, 0, by rw [h0], Nat.zero_le _, .inl (List.eq_nil_of_length_eq_zero h0)⟩
  · refine ⟨_, cap, rfl, hcm, .inr ⟨g, rfl, fun i hi => ?_⟩⟩
    have := h.cells (g := g) rfl i (.string (l.getD i ⟨#[]⟩)) (by simp [List.getD_eq_getElem?_getD, hi])
    rw [addr_add, Nat.zero_add] at this
    exact this

def WRel (w : World) (n : Nat) (l : List Int) (v3 v4 i : Value) (wr : World) : Prop :=
  ∃ (k : Nat) (done : List ByteArray) (cur : ByteArray), k ≤ n + 1 ∧ i = .int .i64 k ∧ v4 = .string cur ∧ wr.ownsRow w.heap.size 9 1 v3 done.length (done.map Value.string) ∧ Below w.heap.size w wr ∧ done.length ≤ k ∧ cur.size ≤ k ∧
    ((k ≤ n ∧ (wd l []).map sb = done ++ (wd (l.drop k) (bl cur)).map sb) ∨ (k = n + 1 ∧ (wd l []).map sb = done))

set_option maxHeartbeats 1000000 in
theorem rwords_any (s : ByteArray) (w : World) (hs : s.size ≤ 100000) :
    Calls Tryd.prog 29 #[.string s] w fun e w' => ∃ a cap, e = .returned (.slice a (wordsOf (bl s)).length cap) ∧ Sts w' a (wordsOf (bl s)) ∧ Below w.heap.size w w' := by
  obtain ⟨i0, hi, hz0, hz1, hz2⟩ := info_parts info9
  rw [wordsOf_wd]
  go_enter Tryd.func29, Tryd.ntmps29
  go_wp2
  go_loopw [3, 4, 5] (fun v3 v4 i wr => WRel w s.size (bl s) v3 v4 i wr) (fun _ _ i _ => s.size + 1 - (intOf i).toNat)
  case atStart => exact ⟨0, [], ⟨#[]⟩, Nat.zero_le _, rfl, rfl, World.ownsRow_nil _ _ _ _, Below.refl _ _, Nat.zero_le _, Nat.zero_le _, .inl ⟨Nat.zero_le _, rfl⟩⟩
  case round =>
    obtain ⟨k, done, cur, hk, rfl, rfl, hown, hB, hdl, hcs, hall⟩ := hrel
    have HB : Hid _ := hB
    clear hB
    by_cases hle : k ≤ s.size
    · have hall' : (wd (bl s) []).map sb = done ++ (wd ((bl s).drop k) (bl cur)).map sb := by
        rcases hall with h | h
        · exact h.2
        · omega
      clear hall
      by_cases hlt : k < s.size
      · have hdk := drop_at (bl s) k (by rw [bl_len]; exact hlt)
        have hat := bl_at s k hlt
        rw [hdk, hat] at hall'
        have h1 := bl_one s k hlt
        rw [hat] at h1
        have H1 : Hid _ := h1
        have hk1 : (k : Int) + 1 ≤ (s.size : Int) := by omega
        have hbd : (s[k].toNat : Int) < 256 := by have := s[k].toNat_lt; omega
        clear hdk hat h1
        by_cases hw : isWhite (s[k].toNat : Int) = true
        · simp only [wd] at hall'
          rw [if_pos hw] at hall'
          by_cases h0 : cur.size = 0
          · have hc0 := size_zero h0
            subst hc0
            rw [if_pos (by rfl)] at hall'
            have HA : Hid _ := hall'
            clear hall' h0
            go_wp2_with (go_at_call 44; refine (rwhite_any _ _).mono ?_; rintro e w' ⟨rfl, rfl⟩)
            go_roundw
            case rel => exact ⟨k + 1, done, ⟨#[]⟩, by omega, by go_num, rfl, hown, HB.out, by omega, Nat.zero_le _, .inl ⟨by omega, HA.out⟩⟩
            case measure => simp [intOf]; omega
          · have hne := toList_ne h0
            rw [if_neg (by rw [bl_len]; exact h0)] at hall'
            have HA : Hid _ := hall'
            clear hall' h0
            go_wp2_with (first | (go_at_call 44; refine (rwhite_any _ _).mono ?_; rintro e wq ⟨rfl, rfl⟩) | (at_builtin; refine wpList_append_own _ rfl (.tmp 33) (.tmp 35) 23 rfl w.heap.size 9 i0 (.string ⟨#[]⟩) 1 16 Tryd.underlying23 hi hz0 hz1 hz2 rfl (by decide) _ _ _ rfl (hown.alloc _) ⟨wq.heap.size, 0, none⟩ 1 1 [.string cur] rfl rfl (cell_one_new _ _ _) (by intro u hu; simp at hu; subst hu; rfl) (by unfold maxLen; omega) (by omega) (by have := HB.out.size; simp; omega) ?_; intro v3n w3 hown3 hgr3 _))
            go_roundw
            case rel =>
              refine ⟨k + 1, done ++ [cur], ⟨#[]⟩, by omega, by go_num, rfl, by simpa using hown3, (HB.out.alloc HB.out.size _).grown hgr3 (by have := HB.out.size; simp; omega) (fun j hj => (hown.lt j hj).1), by simp; omega, Nat.zero_le _, .inl ⟨by omega, ?_⟩⟩
              rw [HA.out]
              simp [sb_bl]
              rfl
            case measure => simp [intOf]; omega
        · simp only [wd] at hall'
          rw [if_neg hw] at hall'
          have hw' : isWhite (s[k].toNat : Int) = false := by simpa using hw
          have HA : Hid _ := hall'
          clear hall' hw
          go_wp2_with (go_at_call 44; refine (rwhite_any _ _).mono ?_; rintro e w' ⟨rfl, rfl⟩)
          go_roundw
          case rel =>
            refine ⟨k + 1, done, cur ++ s.extract k (k + 1), by omega, by go_num, rfl, hown, HB.out, by omega, by simp; omega, .inl ⟨by omega, ?_⟩⟩
            rw [HA.out, bl_app, H1.out]
          case measure => simp [intOf]; omega
      · have hkn : k = s.size := by omega
        rw [List.drop_eq_nil_of_le (by rw [bl_len]; omega)] at hall'
        simp only [wd] at hall'
        by_cases h0 : cur.size = 0
        · have hc0 := size_zero h0
          subst hc0
          rw [if_pos (by rfl)] at hall'
          have HA : Hid _ := hall'
          clear hall' h0
          go_wp2
          go_roundw
          case rel => exact ⟨k + 1, done, ⟨#[]⟩, by omega, by go_num, rfl, hown, HB.out, by omega, Nat.zero_le _, .inr ⟨by omega, by rw [HA.out]; simp⟩⟩
          case measure => simp [intOf]; omega
        · have hne := toList_ne h0
          rw [if_neg (by rw [bl_len]; exact h0)] at hall'
          have HA : Hid _ := hall'
          clear hall' h0
          go_wp2_with (at_builtin; refine wpList_append_own _ rfl (.tmp 33) (.tmp 35) 23 rfl w.heap.size 9 i0 (.string ⟨#[]⟩) 1 16 Tryd.underlying23 hi hz0 hz1 hz2 rfl (by decide) _ _ _ rfl (hown.alloc _) ⟨wr.heap.size, 0, none⟩ 1 1 [.string cur] rfl rfl (cell_one_new _ _ _) (by intro u hu; simp at hu; subst hu; rfl) (by unfold maxLen; omega) (by omega) (by have := HB.out.size; simp; omega) ?_; intro v3n w3 hown3 hgr3 _)
          go_roundw
          case rel =>
            refine ⟨k + 1, done ++ [cur], ⟨#[]⟩, by omega, by go_num, rfl, by simpa using hown3, (HB.out.alloc HB.out.size _).grown hgr3 (by have := HB.out.size; simp; omega) (fun j hj => (hown.lt j hj).1), by simp; omega, Nat.zero_le _, .inr ⟨by omega, ?_⟩⟩
            rw [HA.out]
            simp [sb_bl]
          case measure => simp [intOf]; omega
    · have hall' : (wd (bl s) []).map sb = done := by
        rcases hall with h | h
        · omega
        · exact h.2
      obtain ⟨a, cap, rfl, hcm, hst⟩ := own_strs hown
      have HA : Hid _ := hall'
      clear hall hall' hown
      go_wp2
      go_ret
      rw [HA.out]
      exact ⟨a, cap, rfl, hst, HB.out⟩

theorem join_take (ws : List (List Int)) (k : Nat) (h : k < ws.length) : join (ws.take (k + 1)) = if k = 0 then ws.getD k [] else join (ws.take k) ++ 32 :: ws.getD k [] := by
  have e : ws.take (k + 1) = ws.take k ++ [ws.getD k []] := by
    rw [List.take_succ_eq_append_getElem h]
    simp [List.getD_eq_getElem?_getD, h]
  rw [e]
  by_cases h0 : k = 0
  · subst h0; simp [join]
  · rw [if_neg h0, join_snoc _ (by intro g; have := congrArg List.length g; rw [List.length_take, Nat.min_eq_left (by omega)] at this; exact h0 this)]
theorem wd_bd (l : List Int) : ∀ cur, (∀ i, 0 ≤ l.getD i 0 ∧ l.getD i 0 < 256) → (∀ i, 0 ≤ cur.getD i 0 ∧ cur.getD i 0 < 256) → ∀ w ∈ wd l cur, ∀ i, 0 ≤ w.getD i 0 ∧ w.getD i 0 < 256 := by
  induction l with
  | nil =>
    intro cur hl hc w hw
    simp only [wd] at hw
    split at hw
    · simp at hw
    · simp at hw; subst hw; exact hc
  | cons c l ih =>
    intro cur hl hc w hw
    have hl' : ∀ i, 0 ≤ l.getD i 0 ∧ l.getD i 0 < 256 := fun i => by simpa using hl (i + 1)
    have h0 : 0 ≤ c ∧ c < 256 := by simpa using hl 0
    have hn : ∀ i, 0 ≤ ([] : List Int).getD i 0 ∧ ([] : List Int).getD i 0 < 256 := by intro i; simp
    simp only [wd] at hw
    split at hw
    · split at hw
      · exact ih [] hl' hn w hw
      · rcases List.mem_cons.1 hw with rfl | h
        · exact hc
        · exact ih [] hl' hn w h
    · exact ih (cur ++ [c]) hl' (getD_app hc c h0.1 h0.2) w hw
theorem word_bd (l : List Int) (h : ∀ i, 0 ≤ l.getD i 0 ∧ l.getD i 0 < 256) (k : Nat) : ∀ i, 0 ≤ ((wd l []).getD k []).getD i 0 ∧ ((wd l []).getD k []).getD i 0 < 256 := by
  have hn : ∀ i, 0 ≤ ([] : List Int).getD i 0 ∧ ([] : List Int).getD i 0 < 256 := by intro i; simp
  rcases Nat.lt_or_ge k (wd l []).length with g | g
  · refine wd_bd l [] h hn _ ?_
    rw [List.getD_eq_getElem?_getD, List.getElem?_eq_getElem g]
    exact List.getElem_mem g
  · rw [List.getD_eq_getElem?_getD, List.getElem?_eq_none g]
    exact hn
theorem join_grow (t r : List (List Int)) : (join t).length ≤ (join (t ++ r)).length := by
  induction t with
  | nil => simp [join]
  | cons a t ih =>
    cases t with
    | nil =>
      cases r with
      | nil => simp
      | cons b r => simp [join]
    | cons b t =>
      simp only [List.cons_append, join, List.length_append, List.length_cons] at ih ⊢
      omega
theorem join_le (ws : List (List Int)) (k : Nat) : (join (ws.take k)).length ≤ (join ws).length := by
  have := join_grow (ws.take k) (ws.drop k)
  rw [List.take_append_drop] at this
  exact this
theorem word_le (ws : List (List Int)) (k : Nat) (h : k < ws.length) : (ws.getD k []).length ≤ (join ws).length := by
  have h1 := join_take ws k h
  have h2 := join_le ws (k + 1)
  rw [h1] at h2
  split at h2
  · exact h2
  · rw [List.length_append, List.length_cons] at h2; omega

end Go.Proofs.YtknfipcegmajaaaDoor.Ch
