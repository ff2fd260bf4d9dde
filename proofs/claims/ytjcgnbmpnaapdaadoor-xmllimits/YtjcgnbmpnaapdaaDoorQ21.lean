/- Escape. -/
import Derived.Test.YtjcgnbmpnaapdaaDoorBld
import Derived.Lib.ConvBytes
namespace Go.Proofs.YtjcgnbmpnaapdaaDoor
open Go.RowKit
set_option linter.unusedVariables false

def escO (attr : Bool) (c : UInt8) : List UInt8 :=
  if c = 38 then [38, 97, 109, 112, 59] else if c = 60 then [38, 108, 116, 59] else if c = 62 then [38, 103, 116, 59] else if c = 13 then [38, 35, 120, 68, 59]
  else if attr = false then [] else if c = 34 then [38, 113, 117, 111, 116, 59] else if c = 9 then [38, 35, 120, 57, 59] else if c = 10 then [38, 35, 120, 65, 59] else []
def escP (attr : Bool) (c : UInt8) : List UInt8 := if escO attr c = [] then [c] else escO attr c
def escU (attr : Bool) (l : List UInt8) : List UInt8 := l.flatMap (escP attr)
theorem u8ne {c d : UInt8} (h : c ≠ d) : ¬ ((c.toNat : Int) = (d.toNat : Int)) := by
  intro e
  exact h (UInt8.toNat_inj.1 (by omega))
theorem escaped_s (attr : Bool) (c : UInt8) (w : World) : Calls Tryd.prog 19 #[.int .u8 c.toNat, .bool attr] w fun e w' => e = .returned (.string ⟨(escO attr c).toArray⟩) ∧ w' = w := by
  by_cases h1 : c = 38
  · subst h1; cases attr <;> (go_enter Tryd.func19, Tryd.ntmps19; go_wp2; go_ret; exact ⟨rfl, rfl⟩)
  by_cases h2 : c = 60
  · subst h2; cases attr <;> (go_enter Tryd.func19, Tryd.ntmps19; go_wp2; go_ret; exact ⟨rfl, rfl⟩)
  by_cases h3 : c = 62
  · subst h3; cases attr <;> (go_enter Tryd.func19, Tryd.ntmps19; go_wp2; go_ret; exact ⟨rfl, rfl⟩)
  by_cases h4 : c = 13
  · subst h4; cases attr <;> (go_enter Tryd.func19, Tryd.ntmps19; go_wp2; go_ret; exact ⟨rfl, rfl⟩)
  have n1 : ¬ ((c.toNat : Int) = 38) := u8ne h1
  have n2 : ¬ ((c.toNat : Int) = 60) := u8ne h2
  have n3 : ¬ ((c.toNat : Int) = 62) := u8ne h3
  have n4 : ¬ ((c.toNat : Int) = 13) := u8ne h4
  cases attr
  · have e : escO false c = [] := by unfold escO; rw [if_neg h1, if_neg h2, if_neg h3, if_neg h4]; rfl
    rw [e]
    go_enter Tryd.func19, Tryd.ntmps19
    go_wp2
    go_ret
    exact ⟨rfl, rfl⟩
  by_cases h5 : c = 34
  · subst h5; (go_enter Tryd.func19, Tryd.ntmps19; go_wp2; go_ret; exact ⟨rfl, rfl⟩)
  by_cases h6 : c = 9
  · subst h6; (go_enter Tryd.func19, Tryd.ntmps19; go_wp2; go_ret; exact ⟨rfl, rfl⟩)
  by_cases h7 : c = 10
  · subst h7; (go_enter Tryd.func19, Tryd.ntmps19; go_wp2; go_ret; exact ⟨rfl, rfl⟩)
  have n5 : ¬ ((c.toNat : Int) = 34) := u8ne h5
  have n6 : ¬ ((c.toNat : Int) = 9) := u8ne h6
  have n7 : ¬ ((c.toNat : Int) = 10) := u8ne h7
  have e : escO true c = [] := by unfold escO; rw [if_neg h1, if_neg h2, if_neg h3, if_neg h4, if_neg (by simp), if_neg h5, if_neg h6, if_neg h7]
  rw [e]
  go_enter Tryd.func19, Tryd.ntmps19
  go_wp2
  go_ret
  exact ⟨rfl, rfl⟩
theorem own_low {w : World} {B B' n size : Nat} {e : TypeId} {v : Value} {xs : List Value} (h : w.ownsRow B e size v n xs) (hB : B' ≤ B) : w.ownsRow B' e size v n xs := by
  refine ⟨h.1, ?_⟩
  rcases h.2 with h0 | ⟨g, cap, cur, hv, hb, r⟩
  · exact .inl h0
  · exact .inr ⟨g, cap, cur, hv, Nat.le_trans hB hb, r⟩
theorem escP_len (attr : Bool) (c : UInt8) : (escP attr c).length ≤ 6 := by
  unfold escP
  split
  · simp
  · unfold escO
    repeat' split
    all_goals simp
theorem escU_len (attr : Bool) (l : List UInt8) : (escU attr l).length ≤ 6 * l.length := by
  induction l with
  | nil => simp [escU]
  | cons c cs ih =>
    have := escP_len attr c
    simp [escU] at *
    omega
theorem escU_snoc (attr : Bool) (l : List UInt8) (c : UInt8) : escU attr (l ++ [c]) = escU attr l ++ escP attr c := by simp [escU]
set_option maxHeartbeats 1600000 in
set_option maxRecDepth 100000 in
theorem esc_any (attr : Bool) (l : List UInt8) (w : World) (hl : l.length ≤ 100000000) : Calls Tryd.prog 10 #[.string ⟨l.toArray⟩, .bool attr] w fun e w' => e = .returned (.string ⟨(escU attr l).toArray⟩) ∧ Below w.heap.size w w' := by
  have hcs := Lib.run_convert_string_bytes (P := Tryd.prog) (w.alloc (.cells #[.pointer none, .slice none 0 0] 56)) 9 25 5 ⟨l.toArray⟩ Tryd.underlying9 Tryd.underlying25 Tryd.underlying5
  have hsz : (w.alloc (.cells #[.pointer none, .slice none 0 0] 56)).heap.size = w.heap.size + 1 := by simp
  have hsz2 : (Lib.bytesWorld (w.alloc (.cells #[.pointer none, .slice none 0 0] 56)) 5 ⟨l.toArray⟩).heap.size = w.heap.size + 1 + 1 := by rw [Lib.bytesWorld_size, hsz]
  have hold : ∀ k, k < w.heap.size + 1 → (Lib.bytesWorld (w.alloc (.cells #[.pointer none, .slice none 0 0] 56)) 5 ⟨l.toArray⟩).heap[k]? = (w.alloc (.cells #[.pointer none, .slice none 0 0] 56)).heap[k]? := fun k hk => Lib.bytesWorld_at_old _ _ _ k (by omega)
  have hnew := fun j (hj : j < l.length) => Lib.bytesWorld_cell (w.alloc (.cells #[.pointer none, .slice none 0 0] 56)) 5 ⟨l.toArray⟩ j hj
  have hio : (Lib.bytesWorld (w.alloc (.cells #[.pointer none, .slice none 0 0] 56)) 5 ⟨l.toArray⟩).os = w.os ∧ (Lib.bytesWorld (w.alloc (.cells #[.pointer none, .slice none 0 0] 56)) 5 ⟨l.toArray⟩).tape = w.tape ∧ (Lib.bytesWorld (w.alloc (.cells #[.pointer none, .slice none 0 0] 56)) 5 ⟨l.toArray⟩).output = w.output := ⟨rfl, rfl, rfl⟩
  have hb0 := heap_alloc_new w (.cells #[.pointer none, .slice none 0 0] 56)
  rw [← hold w.heap.size (by omega)] at hb0
  rw [hsz] at hcs hnew
  have hbl : ∀ k, k < w.heap.size → (Lib.bytesWorld (w.alloc (.cells #[.pointer none, .slice none 0 0] 56)) 5 ⟨l.toArray⟩).heap[k]? = w.heap[k]? := fun k hk => (hold k (by omega)).trans (Below.heap_alloc _ _ _ hk)
  generalize Lib.bytesWorld (w.alloc (.cells #[.pointer none, .slice none 0 0] 56)) 5 ⟨l.toArray⟩ = w2 at *
  generalize grownCap (w.alloc (.cells #[.pointer none, .slice none 0 0] 56)) (ByteArray.size ⟨l.toArray⟩) 0 5 = cp at *
  have hl2 : ByteArray.size ⟨l.toArray⟩ = l.length := by simp [ByteArray.size]
  rw [hl2] at hcs
  have hisB : IsB (w.heap.size + 1 + 1) w.heap.size (Lib.byteCells (escU attr (l.take 0))) w2 := .inl ⟨.slice none 0 0, hb0, ⟨rfl, .inl ⟨rfl, rfl⟩⟩, by simp [Value.ownBlock]⟩
  have HH : Hid _ := And.intro hnew (And.intro hio (And.intro hbl (And.intro hisB hsz2)))
  clear hnew hio hbl hisB hsz2 hold hb0 hl2
  go_enter Tryd.func10, Tryd.ntmps10
  go_wp2_with fail
  go_loopg [12] l.length (fun n v12 wr => ∃ i : Nat, v12 = .int .i64 i ∧ i + n = l.length ∧ IsB (w.heap.size + 1 + 1) w.heap.size (Lib.byteCells (escU attr (l.take i))) wr ∧ Fb (w.heap.size + 1 + 1) w.heap.size w2 wr)
  case atStart => exact ⟨0, rfl, by omega, HH.out.2.2.2.1, Fb.refl _ _ _⟩
  case round =>
    obtain ⟨i, rfl, hin, hB, hF⟩ := hrel
    by_cases hi : i < l.length
    · obtain ⟨m, rfl⟩ : ∃ m, gk = m + 1 := ⟨gk - 1, by omega⟩
      have hlt := hi
      obtain ⟨c, hc⟩ : ∃ c, c = l.getD i 0 := ⟨_, rfl⟩
      have hcell : wr.cell? ⟨w.heap.size + 1, i, none⟩ = some (.int .u8 c.toNat) := by
        have := HH.out.1 i hi
        rw [World.cell?_of_block (a := ⟨w.heap.size + 1, i, none⟩) (hF.blk (w.heap.size + 1) (by omega) (by omega)), this, hc]
      have hsn : escU attr (l.take (i + 1)) = escU attr (l.take i) ++ escP attr c := by
        rw [← escU_snoc, hc]
        congr 1
        rw [List.take_add_one, List.getElem?_eq_getElem hi]
        simp [List.getD, hi]
      have hlen : (Lib.byteCells (escU attr (l.take i))).length ≤ 600000000 := by
        have h1 := escU_len attr (l.take i)
        have h2 : (l.take i).length ≤ l.length := by simp; omega
        simp [Lib.byteCells]
        omega
      have hpl := escP_len attr c
      have hBz : w.heap.size + 1 + 1 ≤ wr.heap.size := by have h1 := HH.out.2.2.2.2; have h2 := hF.size; omega
      have HB : Hid _ := And.intro hB hF
      have HSN : Hid _ := hsn
      have HC : Hid _ := hc
      clear hB hF hsn hc
      by_cases he : escO attr c = []
      · have HE : Hid _ := he
        have hP : escP attr c = [c] := by unfold escP; rw [if_pos he]
        have HPP : Hid _ := hP
        clear he hP
        go_wp2_with (first
          | (go_at_call 19; refine (escaped_s attr c _).mono ?_; rw [HE.out]; rintro e w' ⟨rfl, rfl⟩)
          | (go_at_call 21; refine (wb_any _ _ _ _ _ HB.out.1 (by omega) hBz).mono ?_; rintro e w' ⟨rfl, h1, h2⟩; have HQ : Hid _ := And.intro h1 h2; clear h1 h2))
        go_roundg m
        case measure => omega
        case rel =>
          refine ⟨i + 1, ?_, by omega, .inr ?_, HB.out.2.trans HQ.out.2⟩
          · simp
          · rw [HSN.out, HPP.out]; simpa [Lib.byteCells] using HQ.out.1
      · have HE : Hid _ := he
        have hP : escP attr c = escO attr c := by unfold escP; rw [if_neg he]
        have HPP : Hid _ := hP
        obtain ⟨x, xs, hx⟩ : ∃ x xs, escO attr c = x :: xs := by
          cases h : escO attr c with
          | nil => exact absurd h he
          | cons x xs => exact ⟨x, xs, rfl⟩
        have hne : ¬ ((⟨(x :: xs).toArray⟩ : ByteArray) = ⟨#[]⟩) := by simp
        have hxl : (x :: xs).length ≤ 6 := by rw [← hx, ← hP]; exact hpl
        have HX : Hid _ := hx
        clear he hP hx
        go_wp2_with (first
          | (go_at_call 19; refine (escaped_s attr c _).mono ?_; rw [HX.out]; rintro e w' ⟨rfl, rfl⟩)
          | (go_at_call 20; refine (ws_any _ _ _ _ _ HB.out.1 (by simp [ByteArray.size] at hxl ⊢; omega) hBz).mono ?_; rintro e w' ⟨rfl, h1, h2⟩; have HQ : Hid _ := And.intro h1 h2; clear h1 h2))
        go_roundg m
        case measure => omega
        case rel =>
          refine ⟨i + 1, ?_, by omega, .inr ?_, HB.out.2.trans HQ.out.2⟩
          · simp
          · rw [HSN.out, HPP.out, HX.out]; simpa [Lib.byteCells, Lib.strCells] using HQ.out.1
    · have hil : i = l.length := by omega
      have HB : Hid _ := And.intro hB hF
      clear hB hF
      have hBb : Lib.IsBuilder 56 5 w.heap.size w.heap.size (Lib.byteCells (escU attr l)) wr := by
        have := HB.out.1
        rw [hil, List.take_length] at this
        rcases this with ⟨v, h1, h2, h3⟩ | ⟨v, h1, h2, h3⟩
        · exact .inl ⟨Nat.le_refl _, v, h1, own_low h2 (by omega), h3⟩
        · exact .inr ⟨Nat.le_refl _, v, h1, own_low h2 (by omega), h3⟩
      have hBz : w.heap.size ≤ wr.heap.size := by have h1 := HH.out.2.2.2.2; have h2 := HB.out.2.size; omega
      have HBb : Hid _ := hBb
      clear hBb
      go_wp2_with (first
        | (go_at_call 22; refine (bstr w.heap.size w.heap.size _ _ HBb.out hBz).mono ?_; rintro e w' ⟨rfl, h2⟩; have HQ : Hid _ := h2; clear h2))
      go_ret
      have hio := HH.out.2.1
      have hf := HB.out.2
      have hz := HH.out.2.2.2.2
      exact ⟨rfl, (⟨hf.os.trans hio.1, hf.tape.trans hio.2.1, hf.output.trans hio.2.2, by omega, fun k hk => (hf.blk k (by omega) (by omega)).trans (HH.out.2.2.1 k hk)⟩ : Below w.heap.size w wr).trans HQ.out⟩
end Go.Proofs.YtjcgnbmpnaapdaaDoor
