/- Joined: HChStr, HChKnown, HChShare, HChSplit. -/
import Derived.Test.YtgaegajcejpmdaaGreatDoorHJ20
import Derived.Lib.SlBytesConst
import Derived.RegionTactic
namespace Go.Proofs.YtgaegajcejpmdaaGreatDoor.Ch
open Go.RowKit
set_option linter.unusedVariables false

def sb (l : List Int) : ByteArray := ⟨(l.map fun n => UInt8.ofNat n.toNat).toArray⟩
theorem push_fold (l : List Int) (s : ByteArray) : l.foldl (fun r n => r.push (UInt8.ofNat n.toNat)) s = ⟨s.data ++ (l.map fun n => UInt8.ofNat n.toNat).toArray⟩ := by
  induction l generalizing s with
  | nil => simp
  | cons a l ih =>
    rw [List.foldl_cons, ih]
    simp [ByteArray.push]
theorem bl_sb (l : List Int) (h : ∀ i, 0 ≤ l.getD i 0 ∧ l.getD i 0 < 256) : bl (sb l) = l := by
  unfold bl sb
  rw [List.map_map]
  refine List.ext_getElem (by simp) fun i h1 h2 => ?_
  have := h i
  rw [List.getD_eq_getElem?_getD, List.getElem?_eq_getElem h2] at this
  simp at this ⊢
  omega
theorem sb_bl (s : ByteArray) : sb (bl s) = s := by
  unfold bl sb
  rw [List.map_map]
  have : (fun n : Int => UInt8.ofNat n.toNat) ∘ (fun c : UInt8 => (c.toNat : Int)) = id := by
    funext c; simp
  rw [this, List.map_id]
theorem addr_add (b o j : Nat) : (⟨b, o, none⟩ : Addr).add j = ⟨b, o + j, none⟩ := by
  by_cases h : j = 0 <;> simp [Addr.add, h]
theorem conv_string (b o cap : Nat) (l : List Int) (w : World) (h : ∀ i, i < l.length → w.cell? ⟨b, o + i, none⟩ = some (.int .u8 (l.getD i 0))) :
    (convert 32 9 (.slice (some ⟨b, o, none⟩) l.length cap)).run Tryz.prog w = .ok (.string (sb l)) w := by
  rw [run_convert_bytes_string w 32 9 5 _ _ _ Tryz.underlying32 Tryz.underlying5 Tryz.underlying9]
  have hl := run_loadCells_list (P := Tryz.prog) (w := w) ⟨b, o, none⟩ (l.map (Value.int .u8)) (fun j v hj => by
    rw [List.getElem?_map] at hj
    have hjl : j < l.length := by
      rcases Nat.lt_or_ge j l.length with h | h
      · exact h
      · rw [List.getElem?_eq_none h] at hj; simp at hj
    have := h j hjl
    rw [List.getD_eq_getElem?_getD, List.getElem?_eq_getElem hjl] at this
    rw [List.getElem?_eq_getElem hjl] at hj
    simp at hj
    rw [← hj]
    rw [addr_add]
    simpa using this)
  rw [List.length_map] at hl
  rw [run_bytesToString w ⟨b, o, none⟩ l.length cap l hl, push_fold]
  have e : ByteArray.empty.data = #[] := rfl
  rw [e, Array.empty_append]
  rfl
theorem conv_nil (w : World) : (convert 32 9 (.slice none 0 0)).run Tryz.prog w = .ok (.string ⟨#[]⟩) w := by
  rw [run_convert_bytes_string w 32 9 5 _ _ _ Tryz.underlying32 Tryz.underlying5 Tryz.underlying9]
  rfl

def col : List Int → List Int → Bool → List Int
  | [], out, _ => out
  | c :: l, out, gap => if isWhite c = true then col l out true else if gap = true ∧ 0 < out.length then col l (out ++ [32, c]) false else col l (out ++ [c]) false
theorem drop_at (l : List Int) (k : Nat) (h : k < l.length) : l.drop k = l.getD k 0 :: l.drop (k + 1) := by
  rw [List.drop_eq_getElem_cons h]
  simp [List.getD_eq_getElem?_getD, h]

def ColRel (w : World) (S n : Nat) (l : List Int) (v g i : Value) (wr : World) : Prop :=
  ∃ (k : Nat) (out : List Int) (gap : Bool), k ≤ n ∧ i = .int .i64 k ∧ g = .bool gap ∧ v = .slice (some ⟨w.heap.size, 0, none⟩) out.length n ∧
    wr.ownsRow w.heap.size 5 1 v out.length (out.map (Value.int .u8)) ∧ Below w.heap.size w wr ∧ S < wr.heap.size ∧
    (∀ j, j < n → wr.cell? ⟨S, j, none⟩ = some (.int .u8 (l.getD j 0))) ∧ out.length + gap.toNat ≤ k ∧ (∀ j, 0 ≤ out.getD j 0 ∧ out.getD j 0 < 256) ∧ col (l.drop k) out gap = col l [] false

/-- An append to the row at block G leaves what lies below G, and the row at S. -/
theorem grow_keep {w wr w2 : World} {S n : Nat} {l : List Int} {o : Obj} (hB : Below w.heap.size w wr) (hS : S < wr.heap.size) (hlt : w.heap.size < S)
    (hc : ∀ j, j < n → wr.cell? ⟨S, j, none⟩ = some (.int .u8 (l.getD j 0))) (hg : (wr.alloc o).grownBy w2 (some w.heap.size)) :
    Below w.heap.size w w2 ∧ S < w2.heap.size ∧ ∀ j, j < n → w2.cell? ⟨S, j, none⟩ = some (.int .u8 (l.getD j 0)) := by
  have hs := hg.size
  simp at hs
  refine ⟨(hB.alloc hB.size _).grown hg (by simp; have := hB.size; omega) (fun k hk => by cases hk; exact Nat.le_refl _), by omega, fun j hj => ?_⟩
  refine hg.cell ?_ (by simp; omega)
  rw [World.cell?_alloc_past o S j hS]
  exact hc j hj
theorem getD_app {out : List Int} (h : ∀ j, 0 ≤ out.getD j 0 ∧ out.getD j 0 < 256) (c : Int) (h0 : 0 ≤ c) (h1 : c < 256) : ∀ j, 0 ≤ (out ++ [c]).getD j 0 ∧ (out ++ [c]).getD j 0 < 256 := by
  intro j
  rcases Nat.lt_trichotomy j out.length with g | g | g
  · have := h j
    rw [List.getD_eq_getElem?_getD] at this ⊢
    rw [List.getElem?_append_left g]
    exact this
  · subst g
    simp [List.getD_eq_getElem?_getD, h0, h1]
  · rw [List.getD_eq_getElem?_getD, List.getElem?_eq_none (by simp; omega)]
    simp
theorem info5 : (Tryz.prog.info? 5).map (fun i => (i.zero, i.size, i.bytes)) = some (some (.int .u8 0), 1, 1) := by kernel_rfl

set_option maxHeartbeats 400000 in
theorem collapse_any (s : ByteArray) (w : World) (hs : s.size ≤ 100000) :
    Calls Tryz.prog 64 #[.string s] w fun e w' => e = .returned (.string (sb (col (bl s) [] false))) ∧ Below w.heap.size w w' := by
  obtain ⟨i0, hi, hz0, hz1, hz2⟩ := info_parts info5
  obtain ⟨w0, hmk, hown0, hg0⟩ := run_make_own (P := Tryz.prog) w w.heap.size 32 5 i0 (.int .u8 0) 1 Tryz.underlying32 hi hz0 hz1 .i64 .i64 s.size (by rw [hz2]; omega) (by unfold maxLen; omega) (Nat.le_refl _)
  obtain ⟨cap, w1, hc, hcm, hrun, hbel, hsz, hb⟩ := conv_bytes s w0 (by unfold maxLen; omega)
  have hlt0 := (hown0.lt w.heap.size rfl).2
  have hstart : ColRel w w0.heap.size s.size (bl s) (.slice (some ⟨w.heap.size, 0, none⟩) 0 s.size) (.bool false) (.int .i64 0) w1 := by
    refine ⟨0, [], false, Nat.zero_le _, rfl, rfl, rfl, ?_, ?_, hsz, ?_, by simp, by simp, by simp⟩
    · exact hown0.kept (row := none) ⟨hbel.os, hbel.tape, hbel.output, hbel.size, fun k hk _ => hbel.block k hk⟩ (.inr (by simp [Value.ownBlock]))
    · exact ((Below.refl _ _).grown hg0 (Nat.le_refl _) (by simp)).trans (hbel.mono hg0.size)
    · rcases hb.2 with h | ⟨b', o', he, hcell⟩
      · intro j hj; rw [← bl_len, h] at hj; simp at hj
      · simp at he
        obtain ⟨rfl, rfl⟩ := he
        intro j hj
        simpa using hcell j (by rw [bl_len]; exact hj)
  have HS : Hid _ := hstart
  have hbd := bl_bd s
  have HL : Hid _ := bl_len s
  clear hstart hown0 hg0 hbel hb hc hcm
  generalize hS : w0.heap.size = S at *
  clear hS
  generalize bl s = l at *
  go_enter Tryz.func64, Tryz.ntmps64
  go_wp2
  go_loopw [3, 4, 13] (fun v g i wr => ColRel w S s.size l v g i wr) (fun _ _ i _ => s.size - (intOf i).toNat)
  case atStart => exact HS.out
  case round =>
    obtain ⟨k, out, gap, hk, rfl, rfl, rfl, hown, hbel, hSz, hcell, hlen, hob, hcol⟩ := hrel
    have HC : Hid _ := hcol
    have HB : Hid _ := hbel
    clear hcol hbel HS hrun hmk
    by_cases hlt : k < s.size
    · have hck := hcell k hlt
      have hb1 := (hbd k).1
      have hb2 := (hbd k).2
      have hdk : Hid _ := drop_at l k (by rw [HL.out]; exact hlt)
      have HCl : Hid _ := hcell
      have HOb : Hid _ := hob
      clear hcell hob hbd
      generalize l.getD k 0 = c at *
      by_cases hw : isWhite c = true
      · have hcl : Hid (col (c :: l.drop (k + 1)) out gap = col (l.drop (k + 1)) out true) := by show _ = _; rw [col, if_pos hw]
        go_wp2_with (go_at_call 116; refine (white_any _ _).mono ?_; rintro e w' ⟨rfl, rfl⟩)
        go_roundw
        case rel =>
          refine ⟨k + 1, out, true, by omega, by go_num, rfl, rfl, hown, HB.out, hSz, HCl.out, ?_, HOb.out, ?_⟩
          · simp; omega
          · rw [← HC.out, hdk.out, hcl.out]
        case measure => simp [intOf]; omega
      · have hw' : isWhite c = false := by simpa using hw
        have hkz : out.length < s.size := by omega
        clear hw
        by_cases hg : gap = true ∧ 0 < out.length
        · obtain ⟨rfl, hpos⟩ := hg
          have hcl : Hid (col (c :: l.drop (k + 1)) out true = col (l.drop (k + 1)) (out ++ [32, c]) false) := by show _ = _; rw [col, if_neg (by simp [hw']), if_pos ⟨rfl, hpos⟩]
          have hlen' : out.length + 1 < s.size := by simp at hlen; omega
          go_wp2_with (first | (go_at_call 116; refine (white_any _ _).mono ?_; rintro e w' ⟨rfl, rfl⟩) | (at_builtin; refine wpList_append_fits _ rfl (.tmp 26) (.tmp 27) 32 rfl w.heap.size 5 i0 1 Tryz.underlying32 hi hz1 w.heap.size out.length s.size _ rfl (hown.alloc _) ⟨_, 0, none⟩ 1 1 [.int .u8 32] rfl rfl (cell_one_new _ _ _) (by intro u hu; simp at hu; subst hu; rfl) (by omega) ?_; intro w2 hown2 hgrow2) | (at_builtin; refine wpList_append_fits _ rfl (.tmp 29) (.tmp 31) 32 rfl w.heap.size 5 i0 1 Tryz.underlying32 hi hz1 w.heap.size (out.length + 1) s.size _ rfl (hown2.alloc _) ⟨_, 0, none⟩ 1 1 [.int .u8 c] rfl rfl (cell_one_new _ _ _) (by intro u hu; simp at hu; subst hu; rfl) (by omega) ?_; intro w3 hown3 hgrow3))
          go_roundw
          case rel =>
            obtain ⟨b2, s2, c2⟩ := grow_keep HB.out hSz hlt0 HCl.out hgrow2
            obtain ⟨b3, s3, c3⟩ := grow_keep b2 s2 hlt0 c2 hgrow3
            refine ⟨k + 1, out ++ [32, c], false, by omega, by go_num, rfl, by simp, by simpa using hown3, b3, s3, c3, ?_, ?_, ?_⟩
            · simp at hlen ⊢; omega
            · have := getD_app (getD_app HOb.out 32 (by omega) (by omega)) c hb1 hb2
              simpa using this
            · rw [← HC.out, hdk.out, hcl.out]
          case measure => simp [intOf]; omega
        · have hcl : Hid (col (c :: l.drop (k + 1)) out gap = col (l.drop (k + 1)) (out ++ [c]) false) := by show _ = _; rw [col, if_neg (by simp [hw']), if_neg hg]
          cases gap
          · go_wp2_with (first | (go_at_call 116; refine (white_any _ _).mono ?_; rintro e w' ⟨rfl, rfl⟩) | (at_builtin; refine wpList_append_fits _ rfl (.tmp 29) (.tmp 31) 32 rfl w.heap.size 5 i0 1 Tryz.underlying32 hi hz1 w.heap.size out.length s.size _ rfl (hown.alloc _) ⟨_, 0, none⟩ 1 1 [.int .u8 c] rfl rfl (cell_one_new _ _ _) (by intro u hu; simp at hu; subst hu; rfl) (by omega) ?_; intro w2 hown2 hgrow2))
            go_roundw
            case rel =>
              obtain ⟨b2, s2, c2⟩ := grow_keep HB.out hSz hlt0 HCl.out hgrow2
              refine ⟨k + 1, out ++ [c], false, by omega, by go_num, rfl, by simp, by simpa using hown2, b2, s2, c2, ?_, getD_app HOb.out c hb1 hb2, ?_⟩
              · simp at hlen ⊢; omega
              · rw [← HC.out, hdk.out, hcl.out]
            case measure => simp [intOf]; omega
          · have h0 : ¬ (0 < out.length) := fun h => hg ⟨rfl, h⟩
            clear hg
            go_wp2_with (first | (go_at_call 116; refine (white_any _ _).mono ?_; rintro e w' ⟨rfl, rfl⟩) | (at_builtin; refine wpList_append_fits _ rfl (.tmp 29) (.tmp 31) 32 rfl w.heap.size 5 i0 1 Tryz.underlying32 hi hz1 w.heap.size out.length s.size _ rfl (hown.alloc _) ⟨_, 0, none⟩ 1 1 [.int .u8 c] rfl rfl (cell_one_new _ _ _) (by intro u hu; simp at hu; subst hu; rfl) (by omega) ?_; intro w2 hown2 hgrow2))
            go_roundw
            case rel =>
              obtain ⟨b2, s2, c2⟩ := grow_keep HB.out hSz hlt0 HCl.out hgrow2
              refine ⟨k + 1, out ++ [c], false, by omega, by go_num, rfl, by simp, by simpa using hown2, b2, s2, c2, ?_, getD_app HOb.out c hb1 hb2, ?_⟩
              · simp at hlen ⊢; omega
              · rw [← HC.out, hdk.out, hcl.out]
            case measure => simp [intOf]; omega
    · have hcv := conv_string w.heap.size 0 s.size out wr (fun j hj => by
        have := hown.cells (g := w.heap.size) rfl j (.int .u8 (out.getD j 0)) (by simp [List.getD_eq_getElem?_getD, hj])
        rw [addr_add] at this
        exact this)
      have he : Hid (col (l.drop k) out gap = out) := by show _ = _; rw [List.drop_eq_nil_of_le (by rw [HL.out]; omega)]; rfl
      clear hbd hcell hob
      go_wp2
      go_ret
      refine ⟨?_, HB.out⟩
      rw [← HC.out, he.out]
      rfl
end Go.Proofs.YtgaegajcejpmdaaGreatDoor.Ch
namespace Go.Proofs.YtgaegajcejpmdaaGreatDoor.Ch
open Go.RowKit
set_option linter.unusedVariables false

set_option maxHeartbeats 400000 in
theorem space_col (s : ByteArray) (w : World) (hs : s.size ≤ 100000) :
    Calls Tryz.prog 38 #[.string s, .int .i64 3] w fun e w' => e = .returned (.string (sb (col (bl s) [] false))) ∧ Below w.heap.size w w' := by
  go_enter Tryz.func38, Tryz.ntmps38
  go_wp2_with (go_at_call 64; refine (collapse_any _ _ hs).mono ?_; rintro e w' ⟨rfl, hb⟩)
  go_ret
  exact ⟨rfl, ‹_›⟩

theorem below_alloc_then {w w2 : World} {o : Obj} (h : Below (w.alloc o).heap.size (w.alloc o) w2) : Below w.heap.size w w2 :=
  ((Below.refl _ _).alloc (Nat.le_refl _) o).trans (h.mono (by simp))
theorem k_dec : dec [240, 159, 152, 128, 120] = (128512, 4) := by decide +kernel
theorem k_qn : qn ⟨#[97, 58, 98]⟩ = (⟨#[97]⟩, ⟨#[98]⟩, true) := by kernel_rfl
theorem k_col : sb (col (bl ⟨#[32, 97, 32, 9, 32, 98, 32]⟩) [] false) = ⟨#[97, 32, 98]⟩ := by kernel_rfl
theorem k_n1 : nameB (bl ⟨#[120, 49]⟩) = true := by kernel_rfl
theorem k_n2 : nameB (bl ⟨#[49, 120]⟩) = false := by kernel_rfl
theorem k_c : cnt (bl ⟨#[97, 195, 169]⟩).length (bl ⟨#[97, 195, 169]⟩) = 2 := by kernel_rfl

end Go.Proofs.YtgaegajcejpmdaaGreatDoor.Ch
namespace Go.Proofs.YtgaegajcejpmdaaGreatDoor.Ch
open Go.RowKit
set_option linter.unusedVariables false

theorem Bts.below {w w' : World} {a : Option Addr} {l : List Int} (h : Bts w a l) (hb : Below w.heap.size w w') : Bts w' a l := by
  refine ⟨h.1, ?_⟩
  rcases h.2 with h0 | ⟨b, o, rfl, hc⟩
  · exact .inl h0
  · refine .inr ⟨b, o, rfl, fun i hi => ?_⟩
    have := hc i hi
    exact (hb.cell (World.block_lt_of_cell? w _ this)).trans this
theorem conv_bts (a : Option Addr) (cap : Nat) (l : List Int) (w : World) (h : Bts w a l) (h0 : a = none → l = [] ∧ cap = 0) : (convert 32 9 (.slice a l.length cap)).run Tryz.prog w = .ok (.string (sb l)) w := by
  rcases h.2 with rfl | ⟨b, o, rfl, hc⟩
  · cases a with
    | none => obtain ⟨_, rfl⟩ := h0 rfl; exact conv_nil w
    | some x =>
      obtain ⟨b, o, sp⟩ := x
      rw [run_convert_bytes_string w 32 9 5 _ _ _ Tryz.underlying32 Tryz.underlying5 Tryz.underlying9]
      rfl
  · exact conv_string b o cap l w hc

theorem bts_drewN {w : World} {a : Option Addr} {l : List Int} (h : Bts w a l) (n : Nat) : Bts (w.drewN n) a l := by
  refine ⟨h.1, ?_⟩
  rcases h.2 with h0 | ⟨b, o, rfl, hc⟩
  · exact .inl h0
  · exact .inr ⟨b, o, rfl, fun i hi => hc i hi⟩
theorem fin_rng (r n : Int) : -1 ≤ (fin r n).1 ∧ (fin r n).1 ≤ 1114111 ∨ n = 0 := by
  unfold fin
  split
  · rename_i h
    by_cases h0 : n = 0
    · exact .inr h0
    · refine .inl ?_
      rw [← h] at h0
      unfold wid at h0
      simp only
      repeat' split at h0
      all_goals (first | omega | simp at h0)
  · simp
theorem dec_rng (l : List Int) (hby : ∀ i, 0 ≤ l.getD i 0 ∧ l.getD i 0 < 256) : -1 ≤ (dec l).1 ∧ (dec l).1 ≤ 1114111 := by
  have h0 := hby 0
  unfold dec dec2 dec3 dec4
  repeat' split
  all_goals (first | (simp; done) | (have h := fin_rng (l.getD 0 0 % 32 * 64 + l.getD 1 0 % 64) 2; omega) | (have h := fin_rng ((l.getD 0 0 % 16 * 64 + l.getD 1 0 % 64) * 64 + l.getD 2 0 % 64) 3; omega) | (have h := fin_rng (((l.getD 0 0 % 8 * 64 + l.getD 1 0 % 64) * 64 + l.getD 2 0 % 64) * 64 + l.getD 3 0 % 64) 4; omega) | (dsimp only; omega))
/-- What stays as it was while the statement goes on: the row of bytes, and all that lay there at its begin. -/
def Kept (w : World) (a : Option Addr) (l : List Int) (W : World) : Prop := Bts W a l ∧ Below w.heap.size w W
theorem Kept.drew {w W : World} {a : Option Addr} {l : List Int} (h : Kept w a l W) : Kept w a l W.drew := ⟨bts_drewN h.1 1, h.2.drew⟩
theorem Kept.step {w W W' : World} {a : Option Addr} {l : List Int} (h : Kept w a l W) (hb : Below W.heap.size W W') : Kept w a l W' := ⟨Bts.below h.1 hb, h.2.trans (hb.mono h.2.size)⟩
theorem wrap_i64_of (x : Int) (h0 : -9223372036854775808 ≤ x) (h1 : x ≤ 9223372036854775807) : IntKind.i64.wrap x = x := by
  simp [IntKind.wrap, IntKind.bits, IntKind.signed]
  split <;> omega
end Go.Proofs.YtgaegajcejpmdaaGreatDoor.Ch
namespace Go.Proofs.YtgaegajcejpmdaaGreatDoor.Ch
open Go.RowKit
set_option linter.unusedVariables false

def ixs : List Int → Int
  | [] => -1
  | b :: l => if b = 32 then 0 else if ixs l = -1 then -1 else ixs l + 1
theorem ixs_lib (l : List UInt8) : Lib.indexByte l 32 = ixs (l.map fun c => (c.toNat : Int)) := by
  induction l with
  | nil => rfl
  | cons b l ih =>
    simp only [Lib.indexByte, List.map_cons, ixs, ih]
    have e : (b == 32) = decide ((b.toNat : Int) = 32) := by
      rw [Bool.eq_iff_iff]; simp
      constructor
      · rintro rfl; rfl
      · intro h; exact UInt8.toNat_inj.1 (by simpa using (by omega : b.toNat = 32))
    rw [e]
    simp
theorem ixs_bd (l : List Int) : ixs l = -1 ∨ (0 ≤ ixs l ∧ ixs l < l.length) := by
  induction l with
  | nil => simp [ixs]
  | cons b l ih =>
    have : ((b :: l).length : Int) = l.length + 1 := by simp
    rw [this]
    simp only [ixs]
    by_cases h1 : b = 32
    · rw [if_pos h1]; omega
    · rw [if_neg h1]
      by_cases h2 : ixs l = -1
      · rw [if_pos h2]; omega
      · rw [if_neg h2]; omega
def cs : List Int → Nat
  | [] => 0
  | b :: l => if b = 32 then cs l + 1 else cs l
theorem cs_lib (l : List UInt8) : Lib.countByte l 32 = cs (l.map fun c => (c.toNat : Int)) := by
  induction l with
  | nil => rfl
  | cons b l ih =>
    unfold Lib.countByte at ih ⊢
    rw [List.count_cons, ih]
    simp only [List.map_cons, cs]
    by_cases h : b = 32
    · subst h; simp
    · have h' : ¬ ((b.toNat : Int) = 32) := fun g => h (UInt8.toNat_inj.1 (by simpa using (by omega : b.toNat = 32)))
      simp [h, h']
theorem cs_le (l : List Int) : cs l ≤ l.length := by
  induction l with
  | nil => simp [cs]
  | cons b l ih => simp only [cs, List.length_cons]; split <;> omega
def spl : List Int → List (List Int)
  | [] => [[]]
  | c :: l => if c = 32 then [] :: spl l else (c :: (spl l).headD []) :: (spl l).tail
theorem spl_len (l : List Int) : (spl l).length = cs l + 1 := by
  induction l with
  | nil => rfl
  | cons c l ih =>
    simp only [spl, cs]
    split
    · simp [ih]
    · simp [ih]
theorem spl_ne (l : List Int) : spl l = (spl l).headD [] :: (spl l).tail := by
  have := spl_len l
  cases h : spl l with
  | nil => rw [h] at this; simp at this
  | cons a t => rfl
theorem ixs_cs (l : List Int) : ixs l = -1 ↔ cs l = 0 := by
  induction l with
  | nil => simp [ixs, cs]
  | cons b l ih =>
    simp only [ixs, cs]
    have := ixs_bd l
    by_cases h : b = 32
    · simp [h]
    · simp only [h, if_false]
      by_cases h2 : ixs l = -1
      · simp [h2, ih.1 h2]
      · simp only [h2, if_false]
        constructor
        · intro g; omega
        · intro g; exact absurd (ih.2 g) h2
theorem spl_no (l : List Int) (h : ixs l = -1) : spl l = [l] := by
  induction l with
  | nil => rfl
  | cons b l ih =>
    simp only [ixs] at h
    have := ixs_bd l
    by_cases hb : b = 32
    · rw [if_pos hb] at h; omega
    · rw [if_neg hb] at h
      by_cases h2 : ixs l = -1
      · simp only [spl, hb, if_false, ih h2]; rfl
      · rw [if_neg h2] at h; omega
theorem spl_at (l : List Int) (k : Nat) (h : ixs l = (k : Int)) : spl l = l.take k :: spl (l.drop (k + 1)) := by
  induction l generalizing k with
  | nil => simp [ixs] at h
  | cons b l ih =>
    simp only [ixs] at h
    by_cases hb : b = 32
    · rw [if_pos hb] at h
      have : k = 0 := by omega
      subst this
      simp [spl, hb]
    · rw [if_neg hb] at h
      by_cases h2 : ixs l = -1
      · rw [if_pos h2] at h; omega
      · rw [if_neg h2] at h
        obtain ⟨k, rfl⟩ : ∃ m, k = m + 1 := ⟨k - 1, by have := ixs_bd l; omega⟩
        have := ih k (by omega)
        simp only [spl, hb, if_false, this]
        rfl
theorem cs_at (l : List Int) (k : Nat) (h : ixs l = (k : Int)) : cs l = cs (l.drop (k + 1)) + 1 := by
  have h1 := spl_len l
  rw [spl_at l k h] at h1
  have h2 := spl_len (l.drop (k + 1))
  simp at h1
  omega

theorem blank_run (s : ByteArray) (c : Int) (w : World) : (callFunc 215 #[.string s, .int .u8 c]).run Tryz.prog w = .ok (.value (.int .i64 (Lib.indexByte s.data.toList c.toNat.toUInt8))) w := colon_run s c w
set_option maxHeartbeats 400000 in
theorem index_sp (s : ByteArray) (w : World) :
    Calls Tryz.prog 150 #[.string s, .string ⟨#[32]⟩] w fun e w' => e = .returned (.int .i64 (ixs (bl s))) ∧ w' = w := by
  have hr := colon_run s
  go_enter Tryz.func150, Tryz.ntmps150
  go_wp2
  · go_ret
    refine ⟨ret_int ?_, rfl⟩
    have h : s.toList = [32] := (beq_iff_eq.1 ‹_›).symm
    have : bl s = [32] := by unfold bl; rw [← Lib.toList_data, h]; rfl
    rw [this]; rfl
  · go_ret
    refine ⟨ret_int ?_, rfl⟩
    exact ixs_lib s.data.toList
/-- A row of texts as it lies in memory. -/
def Sts (w : World) (a : Option Addr) (ps : List ByteArray) : Prop :=
  ps = [] ∨ ∃ b, a = some ⟨b, 0, none⟩ ∧ ∀ i, i < ps.length → w.cell? ⟨b, i, none⟩ = some (.string (ps.getD i ⟨#[]⟩))
theorem Sts.below {w w' : World} {a : Option Addr} {ps : List ByteArray} (h : Sts w a ps) (hb : Below w.heap.size w w') : Sts w' a ps := by
  rcases h with h0 | ⟨b, rfl, hc⟩
  · exact .inl h0
  · refine .inr ⟨b, rfl, fun i hi => ?_⟩
    have := hc i hi
    exact (hb.cell (World.block_lt_of_cell? w _ this)).trans this
def words (l : List Int) : List ByteArray := (spl l).map sb
theorem info9 : (Tryz.prog.info? 9).map (fun i => (i.zero, i.size, i.bytes)) = some (some (.string ⟨#[]⟩), 1, 16) := by kernel_rfl
theorem bl_cut (s : ByteArray) (k : Nat) : bl (s.extract 0 k) = (bl s).take k := by
  unfold bl
  simp [List.map_take]
theorem bl_cut_end (s : ByteArray) (k : Nat) : bl (s.extract k s.size) = (bl s).drop k := by
  unfold bl
  rw [← List.map_drop]
  congr 1
  simp
  exact List.take_of_length_le (by simp)

def GenRel (w : World) (G N : Nat) (all : List (List Int)) (v0 v10 : Value) (wr : World) : Prop :=
  ∃ (k : Nat) (rest : ByteArray) (done : List (List Int)), v10 = .int .i64 k ∧ v0 = .string rest ∧ done.length = k ∧ k + cs (bl rest) = N ∧ all = done ++ spl (bl rest) ∧ rest.size ≤ 100000 ∧
    Below w.heap.size w wr ∧ (∀ j, wr.frozen? ⟨G, j, none⟩ = false) ∧ (∀ j, j ≤ N → (wr.cell? ⟨G, j, none⟩).isSome = true) ∧ ∀ j, j < k → wr.cell? ⟨G, j, none⟩ = some (.string (sb (done.getD j [])))

theorem addr_ne (G : Nat) {k j : Nat} (h : ¬ k = j) : (⟨G, k, none⟩ : Addr) ≠ ⟨G, j, none⟩ := by
  intro g
  injection g with _ g2 _
  exact h g2
theorem getD_sb (l : List (List Int)) (j : Nat) (h : j < l.length) : (l.map sb).getD j ⟨#[]⟩ = sb (l.getD j []) := by
  simp [List.getD_eq_getElem?_getD, h]
theorem gen_step {w wr : World} {G N k : Nat} {done : List (List Int)} {x : ByteArray} (hG : w.heap.size ≤ G) (hd : done.length = k) (hk : k ≤ N) (hB : Below w.heap.size w wr) (hf : ∀ j, wr.frozen? ⟨G, j, none⟩ = false)
    (hs : ∀ j, j ≤ N → (wr.cell? ⟨G, j, none⟩).isSome = true) (hc : ∀ j, j < k → wr.cell? ⟨G, j, none⟩ = some (.string (sb (done.getD j [])))) :
    Below w.heap.size w (wr.setCell ⟨G, k, none⟩ (.string x)) ∧ (∀ j, (wr.setCell ⟨G, k, none⟩ (.string x)).frozen? ⟨G, j, none⟩ = false) ∧ (∀ j, j ≤ N → ((wr.setCell ⟨G, k, none⟩ (.string x)).cell? ⟨G, j, none⟩).isSome = true) ∧
    ∀ j, j < k + 1 → (wr.setCell ⟨G, k, none⟩ (.string x)).cell? ⟨G, j, none⟩ = some (.string (sb ((done ++ [bl x]).getD j []))) := by
  refine ⟨hB.setCell hG _, fun j => by simpa using hf j, fun j hj => ?_, fun j hj => ?_⟩
  · by_cases e : j = k
    · subst e; rw [World.cell?_setCell_same' _ _ _ (hs j hj)]; rfl
    · rw [World.cell?_setCell_other _ _ _ _ (addr_ne G (fun h => e h.symm))]; exact hs j hj
  · by_cases e : j = k
    · subst e
      rw [World.cell?_setCell_same' _ _ _ (hs j hk)]
      rw [List.getD_eq_getElem?_getD, ← hd]
      simp [sb_bl]
    · rw [World.cell?_setCell_other _ _ _ _ (addr_ne G (fun h => e h.symm)), hc j (by omega)]
      rw [List.getD_eq_getElem?_getD, List.getD_eq_getElem?_getD, List.getElem?_append_left (by omega)]

def wordsOf (l : List Int) : List ByteArray := if (col l [] false).length = 0 then [] else words (col l [] false)
theorem col_bd : ∀ (l out : List Int) (g : Bool), (∀ i, 0 ≤ l.getD i 0 ∧ l.getD i 0 < 256) → (∀ i, 0 ≤ out.getD i 0 ∧ out.getD i 0 < 256) → ∀ i, 0 ≤ (col l out g).getD i 0 ∧ (col l out g).getD i 0 < 256 := by
  intro l
  induction l with
  | nil => intro out g _ h; exact h
  | cons c l ih =>
    intro out g hl ho
    have hc : 0 ≤ c ∧ c < 256 := by simpa using hl 0
    have hl' : ∀ i, 0 ≤ l.getD i 0 ∧ l.getD i 0 < 256 := fun i => by simpa using hl (i + 1)
    simp only [col]
    split
    · exact ih out true hl' ho
    · split
      · refine ih _ false hl' ?_
        have := getD_app (getD_app ho 32 (by omega) (by omega)) c hc.1 hc.2
        simpa using this
      · exact ih _ false hl' (getD_app ho c hc.1 hc.2)
theorem col_len : ∀ (l out : List Int) (g : Bool), (col l out g).length ≤ out.length + l.length + g.toNat := by
  intro l
  induction l with
  | nil => intro out g; simp [col]
  | cons c l ih =>
    intro out g
    simp only [col]
    split
    · have := ih out true; simp at this ⊢; omega
    · split
      · rename_i h
        have := ih (out ++ [32, c]) false; simp [h.1] at this ⊢; omega
      · have := ih (out ++ [c]) false; simp at this ⊢; omega
theorem sb_size (l : List Int) : (sb l).size = l.length := by simp [sb, ByteArray.size]
theorem sb_empty (l : List Int) : (sb l).toList.isEmpty = decide (l.length = 0) := by
  rw [Lib.toList_data]
  cases l with
  | nil => rfl
  | cons a l => simp [sb]

end Go.Proofs.YtgaegajcejpmdaaGreatDoor.Ch
