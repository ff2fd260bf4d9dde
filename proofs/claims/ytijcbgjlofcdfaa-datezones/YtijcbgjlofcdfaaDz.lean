/- Texts that the laws make: decimal. -/
import Derived.Test.YtijcbgjlofcdfaaKn
import Derived.Test.YtijcbgjlofcdfaaTxt3
namespace Go.Proofs.Ytijcbgjlofcdfaa
open Go.RowKit
set_option linter.unusedVariables false

theorem dec_cons : ∀ (i : Nat) (n : Int), decB n (i + 1) = (48 + n / 10 ^ i % 10) :: decB n i
  | 0, n => by simp [decB]
  | i + 1, n => by
    rw [decB, dec_cons i (n / 10)]
    have e : n / 10 / 10 ^ i = n / 10 ^ (i + 1) := by
      rw [Int.ediv_ediv_of_nonneg (by omega), Int.pow_succ, Int.mul_comm]
    rw [e, List.cons_append, decB]
theorem div_pow (n : Int) (i : Nat) : n / 10 ^ i / 10 = n / 10 ^ (i + 1) := by
  rw [Int.ediv_ediv_of_nonneg (Int.le_of_lt (Int.pow_pos (by omega))), Int.pow_succ]
def sb (l : List Int) : ByteArray := ⟨(l.map fun n => UInt8.ofNat n.toNat).toArray⟩
theorem push_fold (l : List Int) (s : ByteArray) : l.foldl (fun r n => r.push (UInt8.ofNat n.toNat)) s = ⟨s.data ++ (l.map fun n => UInt8.ofNat n.toNat).toArray⟩ := by
  induction l generalizing s with
  | nil => simp
  | cons a l ih =>
    rw [List.foldl_cons, ih]
    simp [ByteArray.push]
theorem bl_sb (l : List Int) (h : ∀ i, 0 ≤ l.getD i 0 ∧ l.getD i 0 < 256) : bl (sb l) = l := by
  unfold bl sb
  rw [List.map_map]
  refine List.ext_getElem (by simp) fun i h1 h2 => ?_
  have := h i
  rw [List.getD_eq_getElem?_getD, List.getElem?_eq_getElem h2] at this
  simp at this ⊢
  omega
theorem sb_bl (s : ByteArray) : sb (bl s) = s := by
  unfold bl sb
  rw [List.map_map]
  have : (fun n : Int => UInt8.ofNat n.toNat) ∘ (fun c : UInt8 => (c.toNat : Int)) = id := by
    funext c; simp
  rw [this, List.map_id]
theorem addr_add (b o j : Nat) : (⟨b, o, none⟩ : Addr).add j = ⟨b, o + j, none⟩ := by
  by_cases h : j = 0 <;> simp [Addr.add, h]
theorem conv_string (b o cap : Nat) (l : List Int) (w : World) (h : ∀ i, i < l.length → w.cell? ⟨b, o + i, none⟩ = some (.int .u8 (l.getD i 0))) :
    (convert 97 9 (.slice (some ⟨b, o, none⟩) l.length cap)).run Try.prog w = .ok (.string (sb l)) w := by
  rw [run_convert_bytes_string w 97 9 5 _ _ _ Try.underlying97 Try.underlying5 Try.underlying9]
  have hl := run_loadCells_list (P := Try.prog) (w := w) ⟨b, o, none⟩ (l.map (Value.int .u8)) (fun j v hj => by
    rw [List.getElem?_map] at hj
    have hjl : j < l.length := by
      rcases Nat.lt_or_ge j l.length with h | h
      · exact h
      · rw [List.getElem?_eq_none h] at hj; simp at hj
    have := h j hjl
    rw [List.getD_eq_getElem?_getD, List.getElem?_eq_getElem hjl] at this
    rw [List.getElem?_eq_getElem hjl] at hj
    simp at hj
    rw [← hj]
    rw [addr_add]
    simpa using this)
  rw [List.length_map] at hl
  rw [run_bytesToString w ⟨b, o, none⟩ l.length cap l hl, push_fold]
  have e : ByteArray.empty.data = #[] := rfl
  rw [e, Array.empty_append]
  rfl
theorem bl_app (s t : ByteArray) : bl (s ++ t) = bl s ++ bl t := by
  unfold bl
  rw [ByteArray.data_append]
  simp
theorem conv_one (x : Int) (w : World) : (convert 97 9 (.slice (some ⟨w.heap.size, 0, none⟩) 1 1)).run Try.prog (w.alloc (.cells #[.int .u8 x] 5)) = .ok (.string (sb [x])) (w.alloc (.cells #[.int .u8 x] 5)) :=
  conv_string w.heap.size 0 1 [x] (w.alloc (.cells #[.int .u8 x] 5)) (fun i hi => by
    have : i = 0 := by simpa using hi
    subst this
    exact cl1 (nw_heap w _))
theorem sb_one_size (x : Int) : (sb [x]).size = 1 := rfl
theorem bl_one {x : Int} (h0 : 0 ≤ x) (h1 : x < 256) : bl (sb [x]) = [x] := bl_sb [x] (fun i => by
  cases i with
  | zero => exact ⟨h0, h1⟩
  | succ i => simp)
set_option maxHeartbeats 800000 in
theorem decimal_p (n : Int) (k : Nat) (w : World) (h0 : 0 ≤ n) (h1 : n < 1000000) (hk : k ≤ 9) : Calls Try.prog 57 #[.int .i64 n, .int .i64 (k : Int)] w fun e w' => ∃ s : ByteArray, e = .returned (.string s) ∧ (bl s = decB n k ∧ Below w.heap.size w w') := by
  go_enter Try.func57, Try.ntmps57
  go_wp2_with fail
  go_loopg [0, 5, 6] k (fun g v0 v5 v6 wr => ∃ (i : Nat) (s : ByteArray) (V : Int), i + g = k ∧ v6 = .int .i64 (i : Int) ∧ v5 = .string s ∧ v0 = .int .i64 V ∧ V = n / 10 ^ i ∧ bl s = decB n i ∧ Below w.heap.size w wr)
  case atStart => exact ⟨0, ⟨#[]⟩, n, by omega, rfl, rfl, rfl, by simp, rfl, Below.refl _ _⟩
  case round =>
    obtain ⟨i, s, V, hig, rfl, rfl, rfl, hV, hbs, hbel⟩ := hrel
    have hV0 : 0 ≤ V ∧ V < 1000000 := by
      rw [hV]
      refine ⟨Int.ediv_nonneg h0 (Int.le_of_lt (Int.pow_pos (by omega))), ?_⟩
      have := Int.ediv_le_self (10 ^ i) h0
      omega
    have hsz : s.size = i := by rw [← bl_len, hbs, dec_len]
    have HX : Hid _ := And.intro hV (And.intro hbs (And.intro hbel hsz))
    have hs9 : s.size ≤ 9 := by omega
    clear hV hbs hbel hsz
    obtain ⟨hV1, hV2⟩ := hV0
    by_cases hlt : (i : Int) < (k : Int)
    · obtain ⟨g, rfl⟩ : ∃ g, gk = g + 1 := ⟨gk - 1, by omega⟩
      have hcv := fun x : Int => conv_one x wr
      have hsb : (sb [48 + V % 10]).size = 1 := rfl
      have hmod : 0 ≤ V % 10 ∧ V % 10 < 10 := by omega
      obtain ⟨hm0, hm1⟩ := hmod
      have hsum : ¬ (9223372036854775807 < (sb [48 + V % 10]).size + s.size) := by rw [hsb]; omega
      go_wp2_with fail
      go_roundg g
      case measure => omega
      case rel =>
        refine ⟨i + 1, sb [48 + V % 10] ++ s, V / 10, by omega, by simp, rfl, rfl, ?_, ?_, HX.out.2.2.1.alloc HX.out.2.2.1.size _⟩
        · rw [HX.out.1, div_pow]
        · rw [bl_app, bl_one (by omega) (by omega), HX.out.2.1, dec_cons, ← HX.out.1]
          rfl
    · have hik : i = k := by omega
      subst hik
      go_wp2_with fail
      go_ret
      exact ⟨s, rfl, HX.out.2.1, HX.out.2.2.1⟩
end Go.Proofs.Ytijcbgjlofcdfaa
