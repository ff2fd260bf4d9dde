/- Texts that the laws make: number. -/
import Derived.Test.YtijcbgjlofcdfabKn
import Derived.Test.YtijcbgjlofcdfabTxt3
namespace Go.Proofs.Ytijcbgjlofcdfab
open Go.RowKit
set_option linter.unusedVariables false

def sb (l : List Int) : ByteArray := ⟨(l.map fun n => UInt8.ofNat n.toNat).toArray⟩
theorem push_fold (l : List Int) (s : ByteArray) : l.foldl (fun r n => r.push (UInt8.ofNat n.toNat)) s = ⟨s.data ++ (l.map fun n => UInt8.ofNat n.toNat).toArray⟩ := by
  induction l generalizing s with
  | nil => simp
  | cons a l ih =>
    rw [List.foldl_cons, ih]
    simp [ByteArray.push]
theorem bl_sb (l : List Int) (h : ∀ i, 0 ≤ l.getD i 0 ∧ l.getD i 0 < 256) : bl (sb l) = l := by
  unfold bl sb
  rw [List.map_map]
  refine List.ext_getElem (by simp) fun i h1 h2 => ?_
  have := h i
  rw [List.getD_eq_getElem?_getD, List.getElem?_eq_getElem h2] at this
  simp at this ⊢
  omega
theorem sb_bl (s : ByteArray) : sb (bl s) = s := by
  unfold bl sb
  rw [List.map_map]
  have : (fun n : Int => UInt8.ofNat n.toNat) ∘ (fun c : UInt8 => (c.toNat : Int)) = id := by
    funext c; simp
  rw [this, List.map_id]
theorem addr_add (b o j : Nat) : (⟨b, o, none⟩ : Addr).add j = ⟨b, o + j, none⟩ := by
  by_cases h : j = 0 <;> simp [Addr.add, h]
theorem conv_string (b o cap : Nat) (l : List Int) (w : World) (h : ∀ i, i < l.length → w.cell? ⟨b, o + i, none⟩ = some (.int .u8 (l.getD i 0))) :
    (convert 39 9 (.slice (some ⟨b, o, none⟩) l.length cap)).run Try.prog w = .ok (.string (sb l)) w := by
  rw [run_convert_bytes_string w 39 9 5 _ _ _ Try.underlying39 Try.underlying5 Try.underlying9]
  have hl := run_loadCells_list (P := Try.prog) (w := w) ⟨b, o, none⟩ (l.map (Value.int .u8)) (fun j v hj => by
    rw [List.getElem?_map] at hj
    have hjl : j < l.length := by
      rcases Nat.lt_or_ge j l.length with h | h
      · exact h
      · rw [List.getElem?_eq_none h] at hj; simp at hj
    have := h j hjl
    rw [List.getD_eq_getElem?_getD, List.getElem?_eq_getElem hjl] at this
    rw [List.getElem?_eq_getElem hjl] at hj
    simp at hj
    rw [← hj]
    rw [addr_add]
    simpa using this)
  rw [List.length_map] at hl
  rw [run_bytesToString w ⟨b, o, none⟩ l.length cap l hl, push_fold]
  have e : ByteArray.empty.data = #[] := rfl
  rw [e, Array.empty_append]
  rfl
theorem bl_app (s t : ByteArray) : bl (s ++ t) = bl s ++ bl t := by
  unfold bl
  rw [ByteArray.data_append]
  simp
theorem conv_one (x : Int) (w : World) : (convert 39 9 (.slice (some ⟨w.heap.size, 0, none⟩) 1 1)).run Try.prog (w.alloc (.cells #[.int .u8 x] 5)) = .ok (.string (sb [x])) (w.alloc (.cells #[.int .u8 x] 5)) :=
  conv_string w.heap.size 0 1 [x] (w.alloc (.cells #[.int .u8 x] 5)) (fun i hi => by
    have : i = 0 := by simpa using hi
    subst this
    exact cl1 (nw_heap w _))
theorem sb_one_size (x : Int) : (sb [x]).size = 1 := rfl
theorem bl_one {x : Int} (h0 : 0 ≤ x) (h1 : x < 256) : bl (sb [x]) = [x] := bl_sb [x] (fun i => by
  cases i with
  | zero => exact ⟨h0, h1⟩
  | succ i => simp)
set_option maxHeartbeats 800000 in
theorem number_l (n : Int) (w : World) (h0 : 0 ≤ n) (h1 : n ≤ 999999999) : Calls Try.prog 5 #[.int .i64 n] w fun e w' => ∃ s : ByteArray, e = .returned (.string s) ∧ (bl s = nbF 8 n ∧ s.size ≤ 9 ∧ Below w.heap.size w w') := by
  have hcv0 := fun x : Int => conv_one x w
  have hm0 : 0 ≤ n % 10 ∧ n % 10 < 10 := by omega
  obtain ⟨hm1, hm2⟩ := hm0
  go_enter Try.func5, Try.ntmps5
  go_wp2_with fail
  clear hcv0
  go_loopg [0, 3] 8 (fun g v0 v3 wr => ∃ (m : Int) (s : ByteArray) (tl : List Int), v0 = .int .i64 m ∧ v3 = .string s ∧ 0 ≤ m ∧ m ≤ 999999999 ∧ m < 10 ^ (g + 1) ∧ nbF 8 n = nbF g m ++ tl ∧ bl s = (48 + m % 10) :: tl ∧ s.size + g = 9 ∧ Below w.heap.size w wr)
  case atStart =>
    refine ⟨n, sb [48 + n % 10], [], rfl, rfl, h0, h1, ?_, by simp, by rw [bl_one (by omega) (by omega)], rfl, (Below.refl _ _).alloc (Nat.le_refl _) _⟩
    have : (10 : Int) ^ (8 + 1) = 1000000000 := by decide
    rw [this]; omega
  case round =>
    obtain ⟨m, s, tl, rfl, rfl, m0, m9, mp, hnb, hbs, hsz, hbel⟩ := hrel
    by_cases hlt : 10 ≤ m
    · have hg : gk ≠ 0 := by
        rintro rfl
        simp at mp
        omega
      obtain ⟨g, rfl⟩ : ∃ g, gk = g + 1 := ⟨gk - 1, by omega⟩
      have hdv : 0 ≤ m / 10 ∧ m / 10 ≤ 999999999 := by omega
      have hmp : m / 10 < 10 ^ (g + 1) := by
        rw [Int.pow_succ] at mp
        omega
      have hmd : 0 ≤ m / 10 % 10 ∧ m / 10 % 10 < 10 := by omega
      have hnx : nbF 8 n = nbF g (m / 10) ++ ((48 + m % 10) :: tl) := by
        rw [hnb, nbF, if_neg (by omega), List.append_assoc]
        rfl
      have HX : Hid _ := And.intro hnx (And.intro hbs (And.intro hbel (And.intro hmp hsz)))
      have hcv := fun x : Int => conv_one x wr
      have hsb : (sb [48 + m / 10 % 10]).size = 1 := rfl
      have hs9 : s.size ≤ 9 := by omega
      have hsum : ¬ (9223372036854775807 < (sb [48 + m / 10 % 10]).size + s.size) := by rw [hsb]; omega
      obtain ⟨hd0, hd1⟩ := hdv
      obtain ⟨hmd0, hmd1⟩ := hmd
      clear hnx hnb hbs hbel hmp hsz mp
      go_wp2_with fail
      go_roundg g
      case measure => omega
      case rel =>
        refine ⟨m / 10, sb [48 + m / 10 % 10] ++ s, (48 + m % 10) :: tl, rfl, rfl, hd0, hd1, HX.out.2.2.2.1, HX.out.1, ?_, ?_, HX.out.2.2.1.alloc HX.out.2.2.1.size _⟩
        · rw [bl_app, bl_one (by omega) (by omega), HX.out.2.1]
          rfl
        · have := HX.out.2.2.2.2
          rw [ByteArray.size_append, hsb]
          omega
    · have hE : bl s = nbF 8 n := by
        rw [hnb, hbs]
        cases gk with
        | zero => rfl
        | succ g => rw [nbF, if_pos (by omega)]; rfl
      have HX : Hid _ := And.intro hE (And.intro hbel hsz)
      clear hE hnb hbs hbel hsz mp
      go_wp2_with fail
      go_ret
      exact ⟨s, rfl, HX.out.1, by have := HX.out.2.2; omega, HX.out.2.1⟩
end Go.Proofs.Ytijcbgjlofcdfab
