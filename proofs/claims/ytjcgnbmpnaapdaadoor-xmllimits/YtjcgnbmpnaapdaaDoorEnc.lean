/- Contracts of Encode, of the program and of the reference: a letter's bytes. -/
import Derived.Test.YtjcgnbmpnaapdaaDoorShare
namespace Go.Proofs.YtjcgnbmpnaapdaaDoor
open Go.RowKit
set_option linter.unusedVariables false

theorem bts_alloc (w : World) (l : List Int) (h : ∀ i, 0 ≤ l.getD i 0 ∧ l.getD i 0 < 256) : Bts (w.alloc (.cells (l.map (Value.int .u8)).toArray 5)) (some ⟨w.heap.size, 0, none⟩) l := by
  refine ⟨h, .inr ⟨_, _, rfl, fun i hi => ?_⟩⟩
  rw [Nat.zero_add, World.cell?_alloc_at _ _ _ i rfl]
  simp [List.getD_eq_getElem?_getD, hi]

theorem wid_rng (r : Int) : (wid r = 0 → r < 0 ∨ 1114111 < r ∨ (55296 ≤ r ∧ r ≤ 57343)) ∧ (wid r = 1 → 0 ≤ r ∧ r < 128) ∧ (wid r = 2 → 128 ≤ r ∧ r < 2048) ∧
    (wid r = 3 → 2048 ≤ r ∧ r < 65536 ∧ ¬ (55296 ≤ r ∧ r ≤ 57343)) ∧ (wid r = 4 → 65536 ≤ r ∧ r ≤ 1114111) := by
  unfold wid
  repeat' split
  all_goals omega
theorem enc0 {r : Int} (h : wid r = 0) : enc r = [] := by unfold enc; rw [h]; rfl
theorem enc1 {r : Int} (h : wid r = 1) : enc r = [r] := by unfold enc; rw [h]; rfl
theorem enc2 {r : Int} (h : wid r = 2) : enc r = [192 + r / 64, 128 + r % 64] := by unfold enc; rw [h]; rfl
theorem enc3 {r : Int} (h : wid r = 3) : enc r = [224 + r / 4096, 128 + r / 64 % 64, 128 + r % 64] := by unfold enc; rw [h]; rfl
theorem enc4 {r : Int} (h : wid r = 4) : enc r = [240 + r / 262144, 128 + r / 4096 % 64, 128 + r / 64 % 64, 128 + r % 64] := by unfold enc; rw [h]; rfl
theorem bd_cons {a : Int} {l : List Int} (h0 : 0 ≤ a) (h1 : a < 256) (h : ∀ i, 0 ≤ l.getD i 0 ∧ l.getD i 0 < 256) : ∀ i, 0 ≤ (a :: l).getD i 0 ∧ (a :: l).getD i 0 < 256 := by
  intro i
  cases i with
  | zero => simpa using ⟨h0, h1⟩
  | succ n => simpa using h n
theorem bd_nil : ∀ i, 0 ≤ ([] : List Int).getD i 0 ∧ ([] : List Int).getD i 0 < 256 := by intro i; simp
theorem enc_bd (r : Int) : ∀ i, 0 ≤ (enc r).getD i 0 ∧ (enc r).getD i 0 < 256 := by
  have hw := wid_rng r
  rcases wid_cases r with h | h | h | h | h
  · rw [enc0 h]; exact bd_nil
  · rw [enc1 h]; have := hw.2.1 h; exact bd_cons (by omega) (by omega) bd_nil
  · rw [enc2 h]; have := hw.2.2.1 h; exact bd_cons (by omega) (by omega) (bd_cons (by omega) (by omega) bd_nil)
  · rw [enc3 h]; have := hw.2.2.2.1 h; exact bd_cons (by omega) (by omega) (bd_cons (by omega) (by omega) (bd_cons (by omega) (by omega) bd_nil))
  · rw [enc4 h]; have := hw.2.2.2.2 h; exact bd_cons (by omega) (by omega) (bd_cons (by omega) (by omega) (bd_cons (by omega) (by omega) (bd_cons (by omega) (by omega) bd_nil)))

def EncPost (w : World) (r : Int) (e : Ending) (w' : World) : Prop :=
  ∃ a, e = .returned (.slice a (enc r).length (enc r).length) ∧ Bts w' a (enc r) ∧ Below w.heap.size w w' ∧ (a = none → enc r = [])
theorem encPost_new {w : World} {r : Int} {l : List Int} (h : enc r = l) : EncPost w r (.returned (.slice (some ⟨w.heap.size, 0, none⟩) l.length l.length)) (w.alloc (.cells (l.map (Value.int .u8)).toArray 5)) := by
  subst h
  exact ⟨_, rfl, bts_alloc w _ (enc_bd r), (Below.refl _ _).alloc (Nat.le_refl _) _, fun h => by cases h⟩
theorem encPost_nil {w : World} {r : Int} (h : enc r = []) : EncPost w r (.returned (.slice none 0 0)) w := by
  refine ⟨none, by rw [h]; rfl, by rw [h]; exact ⟨bd_nil, .inl rfl⟩, Below.refl _ _, fun _ => h⟩

set_option maxHeartbeats 400000 in
theorem encode_any (r : Int) (w : World) : Calls Tryd.prog 64 #[.int .i32 r] w (EncPost w r) := by
  have hw := wid_rng r
  rcases wid_cases r with h | h | h | h | h
  · have HE : Hid _ := enc0 h
    clear hw
    go_enter Tryd.func64, Tryd.ntmps64
    go_wp2_with (go_at_call 83; refine (width_any _ _).mono ?_; rintro e w' ⟨rfl, rfl⟩)
    go_ret
    exact encPost_nil HE.out
  · have HE : Hid _ := enc1 h
    have hr := hw.2.1 h
    have j1 : r % 256 = r := by omega
    clear hw
    go_enter Tryd.func64, Tryd.ntmps64
    go_wp2_with (go_at_call 83; refine (width_any _ _).mono ?_; rintro e w' ⟨rfl, rfl⟩)
    go_ret
    exact encPost_new HE.out
  · have HE : Hid _ := enc2 h
    have hr := hw.2.2.1 h
    have h0 := hr.1
    have h1 := hr.2
    have j1 := i32_join 6 192 (r / 64) (by omega) (by omega) (by omega) (by omega) (by omega) (by omega)
    have j2 : (192 + r / 64) % 256 = 192 + r / 64 := by omega
    clear hw hr
    go_enter Tryd.func64, Tryd.ntmps64
    go_wp2_with (first | (go_at_call 83; refine (width_any _ _).mono ?_; rintro e w' ⟨rfl, rfl⟩) | (go_at_call 84; refine (later_any _ _ (by omega) (by omega)).mono ?_; rintro e w' ⟨rfl, rfl⟩))
    go_ret
    exact encPost_new HE.out
  · have HE : Hid _ := enc3 h
    have hr := hw.2.2.2.1 h
    have h0 := hr.1
    have h1 := hr.2.1
    have j1 := i32_join 5 224 (r / 4096) (by omega) (by omega) (by omega) (by omega) (by omega) (by omega)
    have j2 : (224 + r / 4096) % 256 = 224 + r / 4096 := by omega
    clear hw hr
    go_enter Tryd.func64, Tryd.ntmps64
    go_wp2_with (first | (go_at_call 83; refine (width_any _ _).mono ?_; rintro e w' ⟨rfl, rfl⟩) | (go_at_call 84; refine (later_any _ _ (by omega) (by omega)).mono ?_; rintro e w' ⟨rfl, rfl⟩))
    go_ret
    exact encPost_new HE.out
  · have HE : Hid _ := enc4 h
    have hr := hw.2.2.2.2 h
    have h0 := hr.1
    have h1 := hr.2
    have j1 := i32_join 4 240 (r / 262144) (by omega) (by omega) (by omega) (by omega) (by omega) (by omega)
    have j2 : (240 + r / 262144) % 256 = 240 + r / 262144 := by omega
    clear hw hr
    go_enter Tryd.func64, Tryd.ntmps64
    go_wp2_with (first | (go_at_call 83; refine (width_any _ _).mono ?_; rintro e w' ⟨rfl, rfl⟩) | (go_at_call 84; refine (later_any _ _ (by omega) (by omega)).mono ?_; rintro e w' ⟨rfl, rfl⟩))
    go_ret
    exact encPost_new HE.out

end Go.Proofs.YtjcgnbmpnaapdaaDoor
