/- Texts that a law makes; escapes and pairs of letters, plain. -/
import Derived.Test.YthlkbijpphdblaaE1
namespace Go.Proofs.Ythlkbijpphdblaa
open Go.RowKit
set_option linter.unusedVariables false

theorem bl_sb (l : List Int) (h : ∀ i, 0 ≤ l.getD i 0 ∧ l.getD i 0 < 256) : bl (sb l) = l := by
  unfold bl sb ubs
  rw [List.map_map]
  refine List.ext_getElem (by simp) fun i h1 h2 => ?_
  have := h i
  rw [List.getD_eq_getElem?_getD, List.getElem?_eq_getElem h2] at this
  simp at this ⊢
  omega
theorem sb_bl (s : ByteArray) : sb (bl s) = s := by
  unfold bl sb ubs
  rw [List.map_map]
  have : (fun n : Int => UInt8.ofNat n.toNat) ∘ (fun c : UInt8 => (c.toNat : Int)) = id := by
    funext c; simp
  rw [this, List.map_id]
theorem bl_app (s t : ByteArray) : bl (s ++ t) = bl s ++ bl t := by
  unfold bl
  rw [ByteArray.data_append]
  simp
theorem conv_one (x : Int) (w : World) : (convert 42 9 (.slice (some ⟨w.heap.size, 0, none⟩) 1 1)).run Try.prog (w.alloc (.cells #[.int .u8 x] 5)) = .ok (.string (sb [x])) (w.alloc (.cells #[.int .u8 x] 5)) :=
  conv_string w.heap.size 0 1 [x] (w.alloc (.cells #[.int .u8 x] 5)) (fun i hi => by
    have : i = 0 := by simpa using hi
    subst this
    have h := nw_heap w (.cells #[.int .u8 x] 5)
    simp only [World.cell?, h]
    rfl)
theorem sb_one_size (x : Int) : (sb [x]).size = 1 := rfl
theorem bl_one {x : Int} (h0 : 0 ≤ x) (h1 : x < 256) : bl (sb [x]) = [x] := bl_sb [x] (fun i => by
  cases i with
  | zero => exact ⟨h0, h1⟩
  | succ i => simp)
def sgL : List Int := [46, 92, 63, 42, 43, 40, 41, 124, 91, 93, 123, 125, 45, 94]
def nrt (c : Int) : Bool := decide (c = 110) || decide (c = 114) || decide (c = 116)
/-- What the law asks of an escape of one byte. -/
def okE (c : Int) : Bool := match parS [92, c] with
  | .ok (.nd k s a b ks) _ => rtB 0 s && decide (s.length ≤ 1000) && (if sgL.contains c then decide (k = 2) && decide (sz s = 1) && memB s c else if (escS c).2 then decide (s = (escS c).1) else nrt c && decide (sz s = 1))
  | .bad p e => decide (e ≠ 0) && decide (0 ≤ e ∧ e ≤ 9) && decide (0 ≤ p ∧ p ≤ 2) && !(sgL.contains c) && !(escS c).2 && !(nrt c)
theorem okE_all : ((List.range 256).all fun (c : Nat) => okE (Int.ofNat c)) = true := by decide +kernel
theorem okE_p (c : Int) (h0 : 0 ≤ c) (h1 : c < 256) : okE c = true := by
  have h := List.all_eq_true.1 okE_all c.toNat (by rw [List.mem_range]; omega)
  have e : Int.ofNat c.toNat = c := by simp; omega
  rwa [e] at h
def okP (a b : Int) : Bool := match parS [91, 97, 45, 122, 45, 91, a, 45, b, 93, 93], parS [91, 94, a, 45, b, 93] with
  | .ok (.nd _ s _ _ _) _, .ok (.nd _ t _ _ _) _ => rtB 0 s && rtB 0 t && decide (s.length ≤ 1000) && decide (t.length ≤ 1000) && decide (sz s = 26 - (b - a) - 1) && !memB s a && !memB t b && decide (sz t = 1114112 - (b - a) - 1)
  | _, _ => false
theorem okP_all : ((List.range 26).all fun (a : Nat) => (List.range 26).all fun (b : Nat) => !decide (a ≤ b) || okP (97 + Int.ofNat a) (97 + Int.ofNat b)) = true := by decide +kernel
theorem okP_p (a b : Int) (h0 : 97 ≤ a) (h1 : a ≤ b) (h2 : b ≤ 122) : okP a b = true := by
  have h := List.all_eq_true.1 (List.all_eq_true.1 okP_all (a - 97).toNat (by rw [List.mem_range]; omega)) (b - 97).toNat (by rw [List.mem_range]; omega)
  have e : 97 + Int.ofNat (a - 97).toNat = a := by simp; omega
  have e' : 97 + Int.ofNat (b - 97).toNat = b := by simp; omega
  rw [e, e'] at h
  have d : decide ((a - 97).toNat ≤ (b - 97).toNat) = true := by simp; omega
  rw [d] at h
  simpa using h
theorem nd_open {O : Nat → Prop} {w : World} {k a b : Int} {s : List Rg} {ks : List Nd} {q0 : Int} {s0 : Option Addr} {s1 s2 : Nat} {q2 q3 : Int} {t0 : Option Addr} {t1 t2 : Nat} (h : NdV O w (.nd k s a b ks) [.int .i64 q0, .slice s0 s1 s2, .int .i64 q2, .int .i64 q3, .slice t0 t1 t2]) : q0 = k ∧ Sl .i32 w (.slice s0 s1 s2) s := by
  cases h with
  | mk _ _ _ _ _ vs ad cap css hs hl hc hk hn => exact ⟨rfl, hs.sl⟩
end Go.Proofs.Ythlkbijpphdblaa
