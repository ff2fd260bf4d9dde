/- Joined: HK43, HK44, HK45, HK50, HK51. -/
import Derived.Test.YtgaegajcejpmdaaGreatDoorHJ29
import Derived.Test.YtgaegajcejpmdaaGreatDoorHJ22
import Derived.Test.YtgaegajcejpmdaaGreatDoorHJ4
import Derived.Test.YtgaegajcejpmdaaGreatDoorHJ30
import Derived.Test.YtgaegajcejpmdaaGreatDoorHJ18
import Derived.Laws.Tables
import Derived.Test.YtgaegajcejpmdaaGreatDoorHJ25
import Derived.Deep.MidRow
import Derived.Deep.RegionHeld3
import Derived.Deep.DeepCutAuto
namespace Go.Proofs.YtgaegajcejpmdaaGreatDoor
open Go.RowKit
set_option linter.unusedVariables false
set_option linter.unusedSimpArgs false

theorem res2r {W : World} {X : Nat} {cs : Array Value} {fn : Func} {p r : Tmp} {tmps : Array Value} (hf : fn.results = #[.cell p 47, .tmp r]) (hp : tmps.getD p undef = .pointer (some ⟨X, 0, none⟩)) (h : W.heap[X]? = some (.cells cs 47 (0, 0))) (hs : cs.size = 16) :
    (results fn tmps).run Tryz.prog W = .ok (.tuple #[.agg cs, tmps.getD r undef]) W := by
  have hl := run_loadVar_row (P := Tryz.prog) W X 47 47 cs (0, 0) _ h Tryz.underlying47 rfl (by rw [hs]; kernel_rfl)
  have hp' : tmps[p]?.getD undef = .pointer (some ⟨X, 0, none⟩) := by simpa using hp
  simp [results, hf, hp', asAddr, hl]
/-- The result's place, when it is filled. -/
theorem rfin {w W : World} {cs0 : Array Value} (hS : W.heap[w.heap.size]? = some (.cells cs0 47 (0, 0))) (hb : Below w.heap.size w W) (cs : Array Value) : (W.setRow w.heap.size cs).heap[w.heap.size]? = some (.cells cs 47 (0, 0)) ∧ Below w.heap.size w (W.setRow w.heap.size cs) :=
  ⟨setRow_heap W w.heap.size _ cs _ _ hS, below_setRow hb (Nat.le_refl _) _⟩
theorem rat {w W : World} {cs0 : Array Value} (hb : Below (w.alloc (.cells cs0 47)).heap.size (w.alloc (.cells cs0 47)) W) : W.heap[w.heap.size]? = some (.cells cs0 47 (0, 0)) ∧ Below w.heap.size w W :=
  ⟨(hb.block _ (by simp)).trans (M.nw_heap w _), ((Below.refl w.heap.size w).alloc (Nat.le_refl _) _).trans (hb.mono (by simp))⟩
set_option maxRecDepth 100000 in
set_option maxHeartbeats 3200000 in
theorem text_1t (s : ByteArray) (w : World) (hs : s.size ≤ 100000) : Calls Tryz.prog 40 #[.int .i64 1, .string s] w fun e w' => e = .returned (.tuple #[vlV 1 s false (.slice none 0 0) 0 z0 sp0, .int .i64 0]) ∧ Below w.heap.size w w' := by
  have HR0 : Hid _ := rat (w := w) (cs0 := #[.int .i64 0, .string ⟨#[]⟩, .bool false, .slice none 0 0, .int .i64 0, .int .i64 0, .int .i64 0, .int .i64 0, .int .i64 0, .int .i64 0, .int .i64 0, .bool false, .int .i64 0, .int .i64 0, .int .i64 0, .int .i64 0]) (Below.refl _ _)
  go_enter Tryz.func40, Tryz.ntmps40
  obtain ⟨w1, hw1⟩ : ∃ W, w.alloc (.cells #[.int .i64 0, .string ⟨#[]⟩, .bool false, .slice none 0 0, .int .i64 0, .int .i64 0, .int .i64 0, .int .i64 0, .int .i64 0, .int .i64 0, .int .i64 0, .bool false, .int .i64 0, .int .i64 0, .int .i64 0, .int .i64 0] 47) = W := ⟨_, rfl⟩
  rw [hw1] at HR0
  have HR : Hid _ := HR0.out
  go_upto_region 8 with fail
  try rw [hw1]
  clear hw1
  have HF : Hid _ := rfin HR.out.1 HR.out.2 #[.int .i64 1, .string s, .bool false, .slice none 0 0, .int .i64 0, .int .i64 0, .int .i64 0, .int .i64 0, .int .i64 0, .int .i64 0, .int .i64 0, .bool false, .int .i64 0, .int .i64 0, .int .i64 0, .int .i64 0]
  have hS := HR.out.1
  go_wp2_with (first | (refine wpList_store_row rfl 47 _ _ rfl w.heap.size _ rfl rfl 47 _ hS (by kernel_rfl) rfl (by simp [Value.oneCell']) ?_) | fail)
  exact bodyPost_ret (v := .tuple #[vlV 1 s false (.slice none 0 0) 0 z0 sp0, .int .i64 0]) (by refine (res2r (X := w.heap.size) Tryz.results40 ?_ HF.out.1 rfl).trans ?_ <;> rfl) rfl ⟨rfl, HF.out.2⟩
set_option maxRecDepth 100000 in
set_option maxHeartbeats 3200000 in
theorem text_2t (s : ByteArray) (w : World) (hs : s.size ≤ 100000) : Calls Tryz.prog 40 #[.int .i64 2, .string s] w fun e w' => e = .returned (.tuple #[vlV 1 s false (.slice none 0 0) 0 z0 sp0, .int .i64 0]) ∧ Below w.heap.size w w' := by
  have HR0 : Hid _ := rat (w := w) (cs0 := #[.int .i64 0, .string ⟨#[]⟩, .bool false, .slice none 0 0, .int .i64 0, .int .i64 0, .int .i64 0, .int .i64 0, .int .i64 0, .int .i64 0, .int .i64 0, .bool false, .int .i64 0, .int .i64 0, .int .i64 0, .int .i64 0]) (Below.refl _ _)
  go_enter Tryz.func40, Tryz.ntmps40
  obtain ⟨w1, hw1⟩ : ∃ W, w.alloc (.cells #[.int .i64 0, .string ⟨#[]⟩, .bool false, .slice none 0 0, .int .i64 0, .int .i64 0, .int .i64 0, .int .i64 0, .int .i64 0, .int .i64 0, .int .i64 0, .bool false, .int .i64 0, .int .i64 0, .int .i64 0, .int .i64 0] 47) = W := ⟨_, rfl⟩
  rw [hw1] at HR0
  have HR : Hid _ := HR0.out
  go_upto_region 8 with fail
  try rw [hw1]
  clear hw1
  have HF : Hid _ := rfin HR.out.1 HR.out.2 #[.int .i64 1, .string s, .bool false, .slice none 0 0, .int .i64 0, .int .i64 0, .int .i64 0, .int .i64 0, .int .i64 0, .int .i64 0, .int .i64 0, .bool false, .int .i64 0, .int .i64 0, .int .i64 0, .int .i64 0]
  have hS := HR.out.1
  go_wp2_with (first | (refine wpList_store_row rfl 47 _ _ rfl w.heap.size _ rfl rfl 47 _ hS (by kernel_rfl) rfl (by simp [Value.oneCell']) ?_) | fail)
  exact bodyPost_ret (v := .tuple #[vlV 1 s false (.slice none 0 0) 0 z0 sp0, .int .i64 0]) (by refine (res2r (X := w.heap.size) Tryz.results40 ?_ HF.out.1 rfl).trans ?_ <;> rfl) rfl ⟨rfl, HF.out.2⟩
set_option maxRecDepth 100000 in
set_option maxHeartbeats 3200000 in
theorem text_3t (s : ByteArray) (w : World) (hs : s.size ≤ 100000) : Calls Tryz.prog 40 #[.int .i64 3, .string s] w fun e w' => e = .returned (.tuple #[vlV 1 s false (.slice none 0 0) 0 z0 sp0, .int .i64 0]) ∧ Below w.heap.size w w' := by
  have HR0 : Hid _ := rat (w := w) (cs0 := #[.int .i64 0, .string ⟨#[]⟩, .bool false, .slice none 0 0, .int .i64 0, .int .i64 0, .int .i64 0, .int .i64 0, .int .i64 0, .int .i64 0, .int .i64 0, .bool false, .int .i64 0, .int .i64 0, .int .i64 0, .int .i64 0]) (Below.refl _ _)
  go_enter Tryz.func40, Tryz.ntmps40
  obtain ⟨w1, hw1⟩ : ∃ W, w.alloc (.cells #[.int .i64 0, .string ⟨#[]⟩, .bool false, .slice none 0 0, .int .i64 0, .int .i64 0, .int .i64 0, .int .i64 0, .int .i64 0, .int .i64 0, .int .i64 0, .bool false, .int .i64 0, .int .i64 0, .int .i64 0, .int .i64 0] 47) = W := ⟨_, rfl⟩
  rw [hw1] at HR0
  have HR : Hid _ := HR0.out
  go_upto_region 8 with fail
  try rw [hw1]
  clear hw1
  have HF : Hid _ := rfin HR.out.1 HR.out.2 #[.int .i64 1, .string s, .bool false, .slice none 0 0, .int .i64 0, .int .i64 0, .int .i64 0, .int .i64 0, .int .i64 0, .int .i64 0, .int .i64 0, .bool false, .int .i64 0, .int .i64 0, .int .i64 0, .int .i64 0]
  have hS := HR.out.1
  go_wp2_with (first | (refine wpList_store_row rfl 47 _ _ rfl w.heap.size _ rfl rfl 47 _ hS (by kernel_rfl) rfl (by simp [Value.oneCell']) ?_) | fail)
  exact bodyPost_ret (v := .tuple #[vlV 1 s false (.slice none 0 0) 0 z0 sp0, .int .i64 0]) (by refine (res2r (X := w.heap.size) Tryz.results40 ?_ HF.out.1 rfl).trans ?_ <;> rfl) rfl ⟨rfl, HF.out.2⟩
set_option maxRecDepth 100000 in
set_option maxHeartbeats 3200000 in
theorem text_4t (s : ByteArray) (w : World) (hs : s.size ≤ 100000) (h : Ch.tokB (Ch.bl s) = true) : Calls Tryz.prog 40 #[.int .i64 4, .string s] w fun e w' => e = .returned (.tuple #[vlV 1 s false (.slice none 0 0) 0 z0 sp0, .int .i64 0]) ∧ Below w.heap.size w w' := by
  have HR0 : Hid _ := rat (w := w) (cs0 := #[.int .i64 0, .string ⟨#[]⟩, .bool false, .slice none 0 0, .int .i64 0, .int .i64 0, .int .i64 0, .int .i64 0, .int .i64 0, .int .i64 0, .int .i64 0, .bool false, .int .i64 0, .int .i64 0, .int .i64 0, .int .i64 0]) (Below.refl _ _)
  have HC : Hid _ := fun W => Ch.rtok_any s W hs
  rw [h] at HC
  have HL : Hid _ := fun W hW => rat (w := w) (W := W) (cs0 := #[.int .i64 0, .string ⟨#[]⟩, .bool false, .slice none 0 0, .int .i64 0, .int .i64 0, .int .i64 0, .int .i64 0, .int .i64 0, .int .i64 0, .int .i64 0, .bool false, .int .i64 0, .int .i64 0, .int .i64 0, .int .i64 0]) hW
  go_enter Tryz.func40, Tryz.ntmps40
  go_upto_region 8 with (go_at_call 67; refine Calls.mono (HC.out _) ?_; rintro e w1 ⟨rfl, hb1⟩; have HR : Hid _ := HL.out _ hb1; clear hb1)
  have HF : Hid _ := rfin HR.out.1 HR.out.2 #[.int .i64 1, .string s, .bool false, .slice none 0 0, .int .i64 0, .int .i64 0, .int .i64 0, .int .i64 0, .int .i64 0, .int .i64 0, .int .i64 0, .bool false, .int .i64 0, .int .i64 0, .int .i64 0, .int .i64 0]
  have hS := HR.out.1
  go_wp2_with (first | (refine wpList_store_row rfl 47 _ _ rfl w.heap.size _ rfl rfl 47 _ hS (by kernel_rfl) rfl (by simp [Value.oneCell']) ?_) | fail)
  exact bodyPost_ret (v := .tuple #[vlV 1 s false (.slice none 0 0) 0 z0 sp0, .int .i64 0]) (by refine (res2r (X := w.heap.size) Tryz.results40 ?_ HF.out.1 rfl).trans ?_ <;> rfl) rfl ⟨rfl, HF.out.2⟩
set_option maxRecDepth 100000 in
set_option maxHeartbeats 3200000 in
theorem text_4f (s : ByteArray) (w : World) (hs : s.size ≤ 100000) (h : Ch.tokB (Ch.bl s) = false) : Calls Tryz.prog 40 #[.int .i64 4, .string s] w fun e w' => e = .returned (.tuple #[vlV 0 ⟨#[]⟩ false (.slice none 0 0) 0 z0 sp0, .int .i64 2]) ∧ Below w.heap.size w w' := by
  have HR0 : Hid _ := rat (w := w) (cs0 := #[.int .i64 0, .string ⟨#[]⟩, .bool false, .slice none 0 0, .int .i64 0, .int .i64 0, .int .i64 0, .int .i64 0, .int .i64 0, .int .i64 0, .int .i64 0, .bool false, .int .i64 0, .int .i64 0, .int .i64 0, .int .i64 0]) (Below.refl _ _)
  have HC : Hid _ := fun W => Ch.rtok_any s W hs
  rw [h] at HC
  have HL : Hid _ := fun W hW => rat (w := w) (W := W) (cs0 := #[.int .i64 0, .string ⟨#[]⟩, .bool false, .slice none 0 0, .int .i64 0, .int .i64 0, .int .i64 0, .int .i64 0, .int .i64 0, .int .i64 0, .int .i64 0, .bool false, .int .i64 0, .int .i64 0, .int .i64 0, .int .i64 0]) hW
  go_enter Tryz.func40, Tryz.ntmps40
  go_upto_region 8 with (go_at_call 67; refine Calls.mono (HC.out _) ?_; rintro e w1 ⟨rfl, hb1⟩; have HR : Hid _ := HL.out _ hb1; clear hb1)
  have HF : Hid _ := rfin HR.out.1 HR.out.2 #[.int .i64 0, .string ⟨#[]⟩, .bool false, .slice none 0 0, .int .i64 0, .int .i64 0, .int .i64 0, .int .i64 0, .int .i64 0, .int .i64 0, .int .i64 0, .bool false, .int .i64 0, .int .i64 0, .int .i64 0, .int .i64 0]
  have hS := HR.out.1
  go_wp2_with (first | (refine wpList_store_row rfl 47 _ _ rfl w.heap.size _ rfl rfl 47 _ hS (by kernel_rfl) rfl (by simp [Value.oneCell']) ?_) | fail)
  exact bodyPost_ret (v := .tuple #[vlV 0 ⟨#[]⟩ false (.slice none 0 0) 0 z0 sp0, .int .i64 2]) (by refine (res2r (X := w.heap.size) Tryz.results40 ?_ HF.out.1 rfl).trans ?_ <;> rfl) rfl ⟨rfl, HF.out.2⟩
set_option maxRecDepth 100000 in
set_option maxHeartbeats 3200000 in
theorem text_5t (s : ByteArray) (w : World) (hs : s.size ≤ 100000) (h : Ch.nameB (Ch.bl s) = true) : Calls Tryz.prog 40 #[.int .i64 5, .string s] w fun e w' => e = .returned (.tuple #[vlV 1 s false (.slice none 0 0) 0 z0 sp0, .int .i64 0]) ∧ Below w.heap.size w w' := by
  have HR0 : Hid _ := rat (w := w) (cs0 := #[.int .i64 0, .string ⟨#[]⟩, .bool false, .slice none 0 0, .int .i64 0, .int .i64 0, .int .i64 0, .int .i64 0, .int .i64 0, .int .i64 0, .int .i64 0, .bool false, .int .i64 0, .int .i64 0, .int .i64 0, .int .i64 0]) (Below.refl _ _)
  have HC : Hid _ := fun W => Ch.rname_any s W hs
  rw [h] at HC
  have HL : Hid _ := fun W hW => rat (w := w) (W := W) (cs0 := #[.int .i64 0, .string ⟨#[]⟩, .bool false, .slice none 0 0, .int .i64 0, .int .i64 0, .int .i64 0, .int .i64 0, .int .i64 0, .int .i64 0, .int .i64 0, .bool false, .int .i64 0, .int .i64 0, .int .i64 0, .int .i64 0]) hW
  go_enter Tryz.func40, Tryz.ntmps40
  go_upto_region 8 with (go_at_call 68; refine Calls.mono (HC.out _) ?_; rintro e w1 ⟨rfl, hb1⟩; have HR : Hid _ := HL.out _ hb1; clear hb1)
  have HF : Hid _ := rfin HR.out.1 HR.out.2 #[.int .i64 1, .string s, .bool false, .slice none 0 0, .int .i64 0, .int .i64 0, .int .i64 0, .int .i64 0, .int .i64 0, .int .i64 0, .int .i64 0, .bool false, .int .i64 0, .int .i64 0, .int .i64 0, .int .i64 0]
  have hS := HR.out.1
  go_wp2_with (first | (refine wpList_store_row rfl 47 _ _ rfl w.heap.size _ rfl rfl 47 _ hS (by kernel_rfl) rfl (by simp [Value.oneCell']) ?_) | fail)
  exact bodyPost_ret (v := .tuple #[vlV 1 s false (.slice none 0 0) 0 z0 sp0, .int .i64 0]) (by refine (res2r (X := w.heap.size) Tryz.results40 ?_ HF.out.1 rfl).trans ?_ <;> rfl) rfl ⟨rfl, HF.out.2⟩
set_option maxRecDepth 100000 in
set_option maxHeartbeats 3200000 in
theorem text_5f (s : ByteArray) (w : World) (hs : s.size ≤ 100000) (h : Ch.nameB (Ch.bl s) = false) : Calls Tryz.prog 40 #[.int .i64 5, .string s] w fun e w' => e = .returned (.tuple #[vlV 0 ⟨#[]⟩ false (.slice none 0 0) 0 z0 sp0, .int .i64 2]) ∧ Below w.heap.size w w' := by
  have HR0 : Hid _ := rat (w := w) (cs0 := #[.int .i64 0, .string ⟨#[]⟩, .bool false, .slice none 0 0, .int .i64 0, .int .i64 0, .int .i64 0, .int .i64 0, .int .i64 0, .int .i64 0, .int .i64 0, .bool false, .int .i64 0, .int .i64 0, .int .i64 0, .int .i64 0]) (Below.refl _ _)
  have HC : Hid _ := fun W => Ch.rname_any s W hs
  rw [h] at HC
  have HL : Hid _ := fun W hW => rat (w := w) (W := W) (cs0 := #[.int .i64 0, .string ⟨#[]⟩, .bool false, .slice none 0 0, .int .i64 0, .int .i64 0, .int .i64 0, .int .i64 0, .int .i64 0, .int .i64 0, .int .i64 0, .bool false, .int .i64 0, .int .i64 0, .int .i64 0, .int .i64 0]) hW
  go_enter Tryz.func40, Tryz.ntmps40
  go_upto_region 8 with (go_at_call 68; refine Calls.mono (HC.out _) ?_; rintro e w1 ⟨rfl, hb1⟩; have HR : Hid _ := HL.out _ hb1; clear hb1)
  have HF : Hid _ := rfin HR.out.1 HR.out.2 #[.int .i64 0, .string ⟨#[]⟩, .bool false, .slice none 0 0, .int .i64 0, .int .i64 0, .int .i64 0, .int .i64 0, .int .i64 0, .int .i64 0, .int .i64 0, .bool false, .int .i64 0, .int .i64 0, .int .i64 0, .int .i64 0]
  have hS := HR.out.1
  go_wp2_with (first | (refine wpList_store_row rfl 47 _ _ rfl w.heap.size _ rfl rfl 47 _ hS (by kernel_rfl) rfl (by simp [Value.oneCell']) ?_) | fail)
  exact bodyPost_ret (v := .tuple #[vlV 0 ⟨#[]⟩ false (.slice none 0 0) 0 z0 sp0, .int .i64 2]) (by refine (res2r (X := w.heap.size) Tryz.results40 ?_ HF.out.1 rfl).trans ?_ <;> rfl) rfl ⟨rfl, HF.out.2⟩
set_option maxRecDepth 100000 in
set_option maxHeartbeats 3200000 in
theorem text_6t (s : ByteArray) (w : World) (hs : s.size ≤ 100000) (h : Ch.ncB (Ch.bl s) = true) : Calls Tryz.prog 40 #[.int .i64 6, .string s] w fun e w' => e = .returned (.tuple #[vlV 1 s false (.slice none 0 0) 0 z0 sp0, .int .i64 0]) ∧ Below w.heap.size w w' := by
  have HR0 : Hid _ := rat (w := w) (cs0 := #[.int .i64 0, .string ⟨#[]⟩, .bool false, .slice none 0 0, .int .i64 0, .int .i64 0, .int .i64 0, .int .i64 0, .int .i64 0, .int .i64 0, .int .i64 0, .bool false, .int .i64 0, .int .i64 0, .int .i64 0, .int .i64 0]) (Below.refl _ _)
  have HC : Hid _ := fun W => Ch.rnc_any s W hs
  rw [h] at HC
  have HL : Hid _ := fun W hW => rat (w := w) (W := W) (cs0 := #[.int .i64 0, .string ⟨#[]⟩, .bool false, .slice none 0 0, .int .i64 0, .int .i64 0, .int .i64 0, .int .i64 0, .int .i64 0, .int .i64 0, .int .i64 0, .bool false, .int .i64 0, .int .i64 0, .int .i64 0, .int .i64 0]) hW
  go_enter Tryz.func40, Tryz.ntmps40
  go_upto_region 8 with (go_at_call 69; refine Calls.mono (HC.out _) ?_; rintro e w1 ⟨rfl, hb1⟩; have HR : Hid _ := HL.out _ hb1; clear hb1)
  have HF : Hid _ := rfin HR.out.1 HR.out.2 #[.int .i64 1, .string s, .bool false, .slice none 0 0, .int .i64 0, .int .i64 0, .int .i64 0, .int .i64 0, .int .i64 0, .int .i64 0, .int .i64 0, .bool false, .int .i64 0, .int .i64 0, .int .i64 0, .int .i64 0]
  have hS := HR.out.1
  go_wp2_with (first | (refine wpList_store_row rfl 47 _ _ rfl w.heap.size _ rfl rfl 47 _ hS (by kernel_rfl) rfl (by simp [Value.oneCell']) ?_) | fail)
  exact bodyPost_ret (v := .tuple #[vlV 1 s false (.slice none 0 0) 0 z0 sp0, .int .i64 0]) (by refine (res2r (X := w.heap.size) Tryz.results40 ?_ HF.out.1 rfl).trans ?_ <;> rfl) rfl ⟨rfl, HF.out.2⟩
set_option maxRecDepth 100000 in
set_option maxHeartbeats 3200000 in
theorem text_6f (s : ByteArray) (w : World) (hs : s.size ≤ 100000) (h : Ch.ncB (Ch.bl s) = false) : Calls Tryz.prog 40 #[.int .i64 6, .string s] w fun e w' => e = .returned (.tuple #[vlV 0 ⟨#[]⟩ false (.slice none 0 0) 0 z0 sp0, .int .i64 2]) ∧ Below w.heap.size w w' := by
  have HR0 : Hid _ := rat (w := w) (cs0 := #[.int .i64 0, .string ⟨#[]⟩, .bool false, .slice none 0 0, .int .i64 0, .int .i64 0, .int .i64 0, .int .i64 0, .int .i64 0, .int .i64 0, .int .i64 0, .bool false, .int .i64 0, .int .i64 0, .int .i64 0, .int .i64 0]) (Below.refl _ _)
  have HC : Hid _ := fun W => Ch.rnc_any s W hs
  rw [h] at HC
  have HL : Hid _ := fun W hW => rat (w := w) (W := W) (cs0 := #[.int .i64 0, .string ⟨#[]⟩, .bool false, .slice none 0 0, .int .i64 0, .int .i64 0, .int .i64 0, .int .i64 0, .int .i64 0, .int .i64 0, .int .i64 0, .bool false, .int .i64 0, .int .i64 0, .int .i64 0, .int .i64 0]) hW
  go_enter Tryz.func40, Tryz.ntmps40
  go_upto_region 8 with (go_at_call 69; refine Calls.mono (HC.out _) ?_; rintro e w1 ⟨rfl, hb1⟩; have HR : Hid _ := HL.out _ hb1; clear hb1)
  have HF : Hid _ := rfin HR.out.1 HR.out.2 #[.int .i64 0, .string ⟨#[]⟩, .bool false, .slice none 0 0, .int .i64 0, .int .i64 0, .int .i64 0, .int .i64 0, .int .i64 0, .int .i64 0, .int .i64 0, .bool false, .int .i64 0, .int .i64 0, .int .i64 0, .int .i64 0]
  have hS := HR.out.1
  go_wp2_with (first | (refine wpList_store_row rfl 47 _ _ rfl w.heap.size _ rfl rfl 47 _ hS (by kernel_rfl) rfl (by simp [Value.oneCell']) ?_) | fail)
  exact bodyPost_ret (v := .tuple #[vlV 0 ⟨#[]⟩ false (.slice none 0 0) 0 z0 sp0, .int .i64 2]) (by refine (res2r (X := w.heap.size) Tryz.results40 ?_ HF.out.1 rfl).trans ?_ <;> rfl) rfl ⟨rfl, HF.out.2⟩
set_option maxRecDepth 100000 in
set_option maxHeartbeats 3200000 in
theorem text_7t (s : ByteArray) (w : World) (hs : s.size ≤ 100000) (h : Ch.ncB (Ch.bl s) = true) : Calls Tryz.prog 40 #[.int .i64 7, .string s] w fun e w' => e = .returned (.tuple #[vlV 1 s false (.slice none 0 0) 0 z0 sp0, .int .i64 0]) ∧ Below w.heap.size w w' := by
  have HR0 : Hid _ := rat (w := w) (cs0 := #[.int .i64 0, .string ⟨#[]⟩, .bool false, .slice none 0 0, .int .i64 0, .int .i64 0, .int .i64 0, .int .i64 0, .int .i64 0, .int .i64 0, .int .i64 0, .bool false, .int .i64 0, .int .i64 0, .int .i64 0, .int .i64 0]) (Below.refl _ _)
  have HC : Hid _ := fun W => Ch.rnc_any s W hs
  rw [h] at HC
  have HL : Hid _ := fun W hW => rat (w := w) (W := W) (cs0 := #[.int .i64 0, .string ⟨#[]⟩, .bool false, .slice none 0 0, .int .i64 0, .int .i64 0, .int .i64 0, .int .i64 0, .int .i64 0, .int .i64 0, .int .i64 0, .bool false, .int .i64 0, .int .i64 0, .int .i64 0, .int .i64 0]) hW
  go_enter Tryz.func40, Tryz.ntmps40
  go_upto_region 8 with (go_at_call 69; refine Calls.mono (HC.out _) ?_; rintro e w1 ⟨rfl, hb1⟩; have HR : Hid _ := HL.out _ hb1; clear hb1)
  have HF : Hid _ := rfin HR.out.1 HR.out.2 #[.int .i64 1, .string s, .bool false, .slice none 0 0, .int .i64 0, .int .i64 0, .int .i64 0, .int .i64 0, .int .i64 0, .int .i64 0, .int .i64 0, .bool false, .int .i64 0, .int .i64 0, .int .i64 0, .int .i64 0]
  have hS := HR.out.1
  go_wp2_with (first | (refine wpList_store_row rfl 47 _ _ rfl w.heap.size _ rfl rfl 47 _ hS (by kernel_rfl) rfl (by simp [Value.oneCell']) ?_) | fail)
  exact bodyPost_ret (v := .tuple #[vlV 1 s false (.slice none 0 0) 0 z0 sp0, .int .i64 0]) (by refine (res2r (X := w.heap.size) Tryz.results40 ?_ HF.out.1 rfl).trans ?_ <;> rfl) rfl ⟨rfl, HF.out.2⟩
set_option maxRecDepth 100000 in
set_option maxHeartbeats 3200000 in
theorem text_7f (s : ByteArray) (w : World) (hs : s.size ≤ 100000) (h : Ch.ncB (Ch.bl s) = false) : Calls Tryz.prog 40 #[.int .i64 7, .string s] w fun e w' => e = .returned (.tuple #[vlV 0 ⟨#[]⟩ false (.slice none 0 0) 0 z0 sp0, .int .i64 2]) ∧ Below w.heap.size w w' := by
  have HR0 : Hid _ := rat (w := w) (cs0 := #[.int .i64 0, .string ⟨#[]⟩, .bool false, .slice none 0 0, .int .i64 0, .int .i64 0, .int .i64 0, .int .i64 0, .int .i64 0, .int .i64 0, .int .i64 0, .bool false, .int .i64 0, .int .i64 0, .int .i64 0, .int .i64 0]) (Below.refl _ _)
  have HC : Hid _ := fun W => Ch.rnc_any s W hs
  rw [h] at HC
  have HL : Hid _ := fun W hW => rat (w := w) (W := W) (cs0 := #[.int .i64 0, .string ⟨#[]⟩, .bool false, .slice none 0 0, .int .i64 0, .int .i64 0, .int .i64 0, .int .i64 0, .int .i64 0, .int .i64 0, .int .i64 0, .bool false, .int .i64 0, .int .i64 0, .int .i64 0, .int .i64 0]) hW
  go_enter Tryz.func40, Tryz.ntmps40
  go_upto_region 8 with (go_at_call 69; refine Calls.mono (HC.out _) ?_; rintro e w1 ⟨rfl, hb1⟩; have HR : Hid _ := HL.out _ hb1; clear hb1)
  have HF : Hid _ := rfin HR.out.1 HR.out.2 #[.int .i64 0, .string ⟨#[]⟩, .bool false, .slice none 0 0, .int .i64 0, .int .i64 0, .int .i64 0, .int .i64 0, .int .i64 0, .int .i64 0, .int .i64 0, .bool false, .int .i64 0, .int .i64 0, .int .i64 0, .int .i64 0]
  have hS := HR.out.1
  go_wp2_with (first | (refine wpList_store_row rfl 47 _ _ rfl w.heap.size _ rfl rfl 47 _ hS (by kernel_rfl) rfl (by simp [Value.oneCell']) ?_) | fail)
  exact bodyPost_ret (v := .tuple #[vlV 0 ⟨#[]⟩ false (.slice none 0 0) 0 z0 sp0, .int .i64 2]) (by refine (res2r (X := w.heap.size) Tryz.results40 ?_ HF.out.1 rfl).trans ?_ <;> rfl) rfl ⟨rfl, HF.out.2⟩
set_option maxRecDepth 100000 in
set_option maxHeartbeats 3200000 in
theorem text_8t (s : ByteArray) (w : World) (hs : s.size ≤ 100000) (h : Ch.ncB (Ch.bl s) = true) : Calls Tryz.prog 40 #[.int .i64 8, .string s] w fun e w' => e = .returned (.tuple #[vlV 1 s false (.slice none 0 0) 0 z0 sp0, .int .i64 0]) ∧ Below w.heap.size w w' := by
  have HR0 : Hid _ := rat (w := w) (cs0 := #[.int .i64 0, .string ⟨#[]⟩, .bool false, .slice none 0 0, .int .i64 0, .int .i64 0, .int .i64 0, .int .i64 0, .int .i64 0, .int .i64 0, .int .i64 0, .bool false, .int .i64 0, .int .i64 0, .int .i64 0, .int .i64 0]) (Below.refl _ _)
  have HC : Hid _ := fun W => Ch.rnc_any s W hs
  rw [h] at HC
  have HL : Hid _ := fun W hW => rat (w := w) (W := W) (cs0 := #[.int .i64 0, .string ⟨#[]⟩, .bool false, .slice none 0 0, .int .i64 0, .int .i64 0, .int .i64 0, .int .i64 0, .int .i64 0, .int .i64 0, .int .i64 0, .bool false, .int .i64 0, .int .i64 0, .int .i64 0, .int .i64 0]) hW
  go_enter Tryz.func40, Tryz.ntmps40
  go_upto_region 8 with (go_at_call 69; refine Calls.mono (HC.out _) ?_; rintro e w1 ⟨rfl, hb1⟩; have HR : Hid _ := HL.out _ hb1; clear hb1)
  have HF : Hid _ := rfin HR.out.1 HR.out.2 #[.int .i64 1, .string s, .bool false, .slice none 0 0, .int .i64 0, .int .i64 0, .int .i64 0, .int .i64 0, .int .i64 0, .int .i64 0, .int .i64 0, .bool false, .int .i64 0, .int .i64 0, .int .i64 0, .int .i64 0]
  have hS := HR.out.1
  go_wp2_with (first | (refine wpList_store_row rfl 47 _ _ rfl w.heap.size _ rfl rfl 47 _ hS (by kernel_rfl) rfl (by simp [Value.oneCell']) ?_) | fail)
  exact bodyPost_ret (v := .tuple #[vlV 1 s false (.slice none 0 0) 0 z0 sp0, .int .i64 0]) (by refine (res2r (X := w.heap.size) Tryz.results40 ?_ HF.out.1 rfl).trans ?_ <;> rfl) rfl ⟨rfl, HF.out.2⟩
set_option maxRecDepth 100000 in
set_option maxHeartbeats 3200000 in
theorem text_8f (s : ByteArray) (w : World) (hs : s.size ≤ 100000) (h : Ch.ncB (Ch.bl s) = false) : Calls Tryz.prog 40 #[.int .i64 8, .string s] w fun e w' => e = .returned (.tuple #[vlV 0 ⟨#[]⟩ false (.slice none 0 0) 0 z0 sp0, .int .i64 2]) ∧ Below w.heap.size w w' := by
  have HR0 : Hid _ := rat (w := w) (cs0 := #[.int .i64 0, .string ⟨#[]⟩, .bool false, .slice none 0 0, .int .i64 0, .int .i64 0, .int .i64 0, .int .i64 0, .int .i64 0, .int .i64 0, .int .i64 0, .bool false, .int .i64 0, .int .i64 0, .int .i64 0, .int .i64 0]) (Below.refl _ _)
  have HC : Hid _ := fun W => Ch.rnc_any s W hs
  rw [h] at HC
  have HL : Hid _ := fun W hW => rat (w := w) (W := W) (cs0 := #[.int .i64 0, .string ⟨#[]⟩, .bool false, .slice none 0 0, .int .i64 0, .int .i64 0, .int .i64 0, .int .i64 0, .int .i64 0, .int .i64 0, .int .i64 0, .bool false, .int .i64 0, .int .i64 0, .int .i64 0, .int .i64 0]) hW
  go_enter Tryz.func40, Tryz.ntmps40
  go_upto_region 8 with (go_at_call 69; refine Calls.mono (HC.out _) ?_; rintro e w1 ⟨rfl, hb1⟩; have HR : Hid _ := HL.out _ hb1; clear hb1)
  have HF : Hid _ := rfin HR.out.1 HR.out.2 #[.int .i64 0, .string ⟨#[]⟩, .bool false, .slice none 0 0, .int .i64 0, .int .i64 0, .int .i64 0, .int .i64 0, .int .i64 0, .int .i64 0, .int .i64 0, .bool false, .int .i64 0, .int .i64 0, .int .i64 0, .int .i64 0]
  have hS := HR.out.1
  go_wp2_with (first | (refine wpList_store_row rfl 47 _ _ rfl w.heap.size _ rfl rfl 47 _ hS (by kernel_rfl) rfl (by simp [Value.oneCell']) ?_) | fail)
  exact bodyPost_ret (v := .tuple #[vlV 0 ⟨#[]⟩ false (.slice none 0 0) 0 z0 sp0, .int .i64 2]) (by refine (res2r (X := w.heap.size) Tryz.results40 ?_ HF.out.1 rfl).trans ?_ <;> rfl) rfl ⟨rfl, HF.out.2⟩
theorem text_y (k : Int) (s : ByteArray) (w : World) (hs : s.size ≤ 100000) (h0 : 1 ≤ k) (h1 : k ≤ 8) (h : nmdB k (Ch.bl s) = true) : Calls Tryz.prog 40 #[.int .i64 k, .string s] w fun e w' => e = .returned (.tuple #[vlV 1 s false (.slice none 0 0) 0 z0 sp0, .int .i64 0]) ∧ Below w.heap.size w w' := by
  rcases (by omega : k = 1 ∨ k = 2 ∨ k = 3 ∨ k = 4 ∨ k = 5 ∨ k = 6 ∨ k = 7 ∨ k = 8) with rfl | rfl | rfl | rfl | rfl | rfl | rfl | rfl
  · exact text_1t s w hs
  · exact text_2t s w hs
  · exact text_3t s w hs
  · exact text_4t s w hs h
  · exact text_5t s w hs h
  · exact text_6t s w hs h
  · exact text_7t s w hs h
  · exact text_8t s w hs h
theorem text_n (k : Int) (s : ByteArray) (w : World) (hs : s.size ≤ 100000) (h0 : 1 ≤ k) (h1 : k ≤ 8) (h : nmdB k (Ch.bl s) = false) : Calls Tryz.prog 40 #[.int .i64 k, .string s] w fun e w' => e = .returned (.tuple #[vlV 0 ⟨#[]⟩ false (.slice none 0 0) 0 z0 sp0, .int .i64 2]) ∧ Below w.heap.size w w' := by
  rcases (by omega : k = 1 ∨ k = 2 ∨ k = 3 ∨ k = 4 ∨ k = 5 ∨ k = 6 ∨ k = 7 ∨ k = 8) with rfl | rfl | rfl | rfl | rfl | rfl | rfl | rfl
  · exact absurd h (by simp [nmdB])
  · exact absurd h (by simp [nmdB])
  · exact absurd h (by simp [nmdB])
  · exact text_4f s w hs h
  · exact text_5f s w hs h
  · exact text_6f s w hs h
  · exact text_7f s w hs h
  · exact text_8f s w hs h
end Go.Proofs.YtgaegajcejpmdaaGreatDoor
namespace Go.Proofs.YtgaegajcejpmdaaGreatDoor
open Go.RowKit
set_option linter.unusedVariables false
set_option linter.unusedSimpArgs false

theorem parse_rk (k : Int) (h0 : 24 ≤ k) (h1 : k ≤ 31) (t : ByteArray) (w : World) (hs : t.size ≤ maxLen) : Calls Tryz.prog 45 #[.int .i64 (k - 24 + 1), .string t] w fun e w' => Dt.PaQ (Dt.prM (k - 24 + 1) (Dt.bl t)) w e w' := by
  rcases (by omega : k = 24 ∨ k = 25 ∨ k = 26 ∨ k = 27 ∨ k = 28 ∨ k = 29 ∨ k = 30 ∨ k = 31) with rfl | rfl | rfl | rfl | rfl | rfl | rfl | rfl
  · exact Dt.parse_r1 t w hs
  · exact Dt.parse_r2 t w hs
  · exact Dt.parse_r3 t w hs
  · exact Dt.parse_r4 t w hs
  · exact Dt.parse_r5 t w hs
  · exact Dt.parse_r6 t w hs
  · exact Dt.parse_r7 t w hs
  · exact Dt.parse_r8 t w hs
theorem psa_some {d : Kd} {w w' : World} {a : Option Addr} {c : Nat} (hb : Below w.heap.size w w') (hbt : Dc.BtR w' (.slice a d.nm.2.1.length c) d.nm.2.1) : PsA (some d) w (.returned (.tuple #[vlV d.pr d.tx d.nm.1 (.slice a d.nm.2.1.length c) d.nm.2.2 d.mo d.sp, .int .i64 0])) w' := ⟨hb, _, rfl, a, c, rfl, hbt⟩
theorem psa_none {w w' : World} (hb : Below w.heap.size w w') : PsA none w (.returned (.tuple #[vlV 0 ⟨#[]⟩ false (.slice none 0 0) 0 z0 sp0, .int .i64 2])) w' := ⟨hb, rfl⟩
set_option maxRecDepth 100000 in
set_option maxHeartbeats 6400000 in
theorem rparse_t (k : Int) (s : ByteArray) (w : World) (hs : s.size ≤ 100000) (h0 : 1 ≤ k) (h1 : k ≤ 8) : Calls Tryz.prog 22 #[.int .i64 k, .string s] w (PsA (psS k s) w) := by
  have hk : isK k = true := isK_iff.2 (by omega)
  have hI : ∀ W, Calls Tryz.prog 35 #[.int .i64 k] W fun e w' => e = .returned (.bool true) ∧ w' = W := fun W => by have := is_k k W; rw [hk] at this; exact this
  have hwk := fun W => white_r k W
  have hsp := fun W => Ch.rspace_any s (whS k) W hs
  have hst : (Ch.spc s (whS k)).size ≤ 100000 := Nat.le_trans (spc_size s _) hs
  have hp : psS k s = if nmdB k (Ch.bl (Ch.spc s (whS k))) = true then some (.txt 1 (Ch.spc s (whS k))) else none := by unfold psS rdS; rw [if_pos h1]
  rw [hp]
  clear hp
  generalize Ch.spc s (whS k) = t at *
  generalize whS k = wk at *
  have h1b : decide (k ≤ 8) = true := by simpa using h1
  cases hb : nmdB k (Ch.bl t) with
  | true =>
    have HT : Hid _ := fun W => text_y k t W hst h0 h1 hb
    clear hb hst hk
    rw [if_pos rfl]
    go_enter Tryz.func22, Tryz.ntmps22
    go_wp2_with (first | (go_at_call 35; refine Calls.mono (hI _) ?_; rintro e w' ⟨rfl, hw1⟩; have hw2 := hw1.symm; clear hw1; subst hw2) | (go_at_call 18; refine Calls.mono (hwk _) ?_; rintro e w' ⟨rfl, hw1⟩; have hw2 := hw1.symm; clear hw1; subst hw2) | (go_at_call 39; refine Calls.mono (hsp _) ?_; rintro e w1 ⟨rfl, hb1⟩; have HB1 : Hid _ := hb1; clear hb1) | (go_at_call 40; refine Calls.mono (HT.out _) ?_; rintro e w2 ⟨rfl, hb2⟩; have HR : Hid _ := rat (w := w) (cs0 := #[.int .i64 0, .string ⟨#[]⟩, .bool false, .slice none 0 0, .int .i64 0, .int .i64 0, .int .i64 0, .int .i64 0, .int .i64 0, .int .i64 0, .int .i64 0, .bool false, .int .i64 0, .int .i64 0, .int .i64 0, .int .i64 0]) (HB1.out.trans (hb2.mono HB1.out.size)); have hS := HR.out.1; have HF : Hid _ := rfin HR.out.1 HR.out.2 #[.int .i64 1, .string t, .bool false, .slice none 0 0, .int .i64 0, .int .i64 0, .int .i64 0, .int .i64 0, .int .i64 0, .int .i64 0, .int .i64 0, .bool false, .int .i64 0, .int .i64 0, .int .i64 0, .int .i64 0]; clear hb2) | (refine wpList_store_row rfl 47 _ _ rfl w.heap.size _ rfl rfl 47 _ hS (by kernel_rfl) rfl (by simp [Value.oneCell']) ?_))
    exact bodyPost_ret (v := .tuple #[vlV 1 t false (.slice none 0 0) 0 z0 sp0, .int .i64 0]) (by refine (res2r (X := w.heap.size) Tryz.results22 ?_ HF.out.1 rfl).trans ?_ <;> rfl) rfl (psa_some (d := .txt 1 t) HF.out.2 (btr_nil (Nat.zero_le _)))
  | false =>
    have HT : Hid _ := fun W => text_n k t W hst h0 h1 hb
    clear hb hst hk
    rw [if_neg (by simp)]
    go_enter Tryz.func22, Tryz.ntmps22
    go_wp2_with (first | (go_at_call 35; refine Calls.mono (hI _) ?_; rintro e w' ⟨rfl, hw1⟩; have hw2 := hw1.symm; clear hw1; subst hw2) | (go_at_call 18; refine Calls.mono (hwk _) ?_; rintro e w' ⟨rfl, hw1⟩; have hw2 := hw1.symm; clear hw1; subst hw2) | (go_at_call 39; refine Calls.mono (hsp _) ?_; rintro e w1 ⟨rfl, hb1⟩; have HB1 : Hid _ := hb1; clear hb1) | (go_at_call 40; refine Calls.mono (HT.out _) ?_; rintro e w2 ⟨rfl, hb2⟩; have HR : Hid _ := rat (w := w) (cs0 := #[.int .i64 0, .string ⟨#[]⟩, .bool false, .slice none 0 0, .int .i64 0, .int .i64 0, .int .i64 0, .int .i64 0, .int .i64 0, .int .i64 0, .int .i64 0, .bool false, .int .i64 0, .int .i64 0, .int .i64 0, .int .i64 0]) (HB1.out.trans (hb2.mono HB1.out.size)); have hS := HR.out.1; have HF : Hid _ := rfin HR.out.1 HR.out.2 #[.int .i64 0, .string ⟨#[]⟩, .bool false, .slice none 0 0, .int .i64 0, .int .i64 0, .int .i64 0, .int .i64 0, .int .i64 0, .int .i64 0, .int .i64 0, .bool false, .int .i64 0, .int .i64 0, .int .i64 0, .int .i64 0]; clear hb2) | (refine wpList_store_row rfl 47 _ _ rfl w.heap.size _ rfl rfl 47 _ hS (by kernel_rfl) rfl (by simp [Value.oneCell']) ?_))
    exact bodyPost_ret (v := .tuple #[vlV 0 ⟨#[]⟩ false (.slice none 0 0) 0 z0 sp0, .int .i64 2]) (by refine (res2r (X := w.heap.size) Tryz.results22 ?_ HF.out.1 rfl).trans ?_ <;> rfl) rfl (psa_none HF.out.2)
set_option maxRecDepth 100000 in
set_option maxHeartbeats 6400000 in
theorem rparse_b (s : ByteArray) (w : World) (hs : s.size ≤ 100000) : Calls Tryz.prog 22 #[.int .i64 9, .string s] w (PsA (psS 9 s) w) := by
  have hk : isK 9 = true := isK_iff.2 (by omega)
  have hI : ∀ W, Calls Tryz.prog 35 #[.int .i64 9] W fun e w' => e = .returned (.bool true) ∧ w' = W := fun W => by have := is_k 9 W; rw [hk] at this; exact this
  have hwk := fun W => white_r 9 W
  have hsp := fun W => Ch.rspace_any s (whS 9) W hs
  have hst : (Ch.spc s (whS 9)).size ≤ 100000 := Nat.le_trans (spc_size s _) hs
  have hp : psS 9 s = (trS (Ch.spc s (whS 9))).map (.txt 9) := by unfold psS rdS; rw [if_neg (by decide), if_pos rfl]
  rw [hp]
  clear hp
  generalize Ch.spc s (whS 9) = t at *
  generalize whS 9 = wk at *
  have HL : Hid _ := fun W hW => rat (w := w) (W := W) (cs0 := #[.int .i64 0, .string ⟨#[]⟩, .bool false, .slice none 0 0, .int .i64 0, .int .i64 0, .int .i64 0, .int .i64 0, .int .i64 0, .int .i64 0, .int .i64 0, .bool false, .int .i64 0, .int .i64 0, .int .i64 0, .int .i64 0]) hW
  go_enter Tryz.func22, Tryz.ntmps22
  go_upto_region 7 with (first | (go_at_call 35; refine Calls.mono (hI _) ?_; rintro e w' ⟨rfl, hw1⟩; have hw2 := hw1.symm; clear hw1; subst hw2) | (go_at_call 18; refine Calls.mono (hwk _) ?_; rintro e w' ⟨rfl, hw1⟩; have hw2 := hw1.symm; clear hw1; subst hw2) | (go_at_call 39; refine Calls.mono (hsp _) ?_; rintro e w1 ⟨rfl, hb1⟩; have HB1 : Hid _ := hb1; clear hb1))
  have HR : Hid _ := HL.out _ HB1.out
  have hS := HR.out.1
  have HF1 : Hid _ := rfin HR.out.1 HR.out.2 #[.int .i64 9, .string ⟨#[116, 114, 117, 101]⟩, .bool false, .slice none 0 0, .int .i64 0, .int .i64 0, .int .i64 0, .int .i64 0, .int .i64 0, .int .i64 0, .int .i64 0, .bool false, .int .i64 0, .int .i64 0, .int .i64 0, .int .i64 0]
  have HF2 : Hid _ := rfin HR.out.1 HR.out.2 #[.int .i64 9, .string ⟨#[102, 97, 108, 115, 101]⟩, .bool false, .slice none 0 0, .int .i64 0, .int .i64 0, .int .i64 0, .int .i64 0, .int .i64 0, .int .i64 0, .int .i64 0, .bool false, .int .i64 0, .int .i64 0, .int .i64 0, .int .i64 0]
  have HF3 : Hid _ := rfin HR.out.1 HR.out.2 #[.int .i64 0, .string ⟨#[]⟩, .bool false, .slice none 0 0, .int .i64 0, .int .i64 0, .int .i64 0, .int .i64 0, .int .i64 0, .int .i64 0, .int .i64 0, .bool false, .int .i64 0, .int .i64 0, .int .i64 0, .int .i64 0]
  clear hst hk
  go_wp2_with (refine wpList_store_row rfl 47 _ _ rfl w.heap.size _ rfl rfl 47 _ hS (by kernel_rfl) rfl (by simp [Value.oneCell']) ?_)
  all_goals
    first
      | (have ht : trS t = some ⟨#[116, 114, 117, 101]⟩ := by (unfold trS; simp_all)
         rw [ht]
         exact bodyPost_ret (v := .tuple #[vlV 9 ⟨#[116, 114, 117, 101]⟩ false (.slice none 0 0) 0 z0 sp0, .int .i64 0]) (by refine (res2r (X := w.heap.size) Tryz.results22 ?_ HF1.out.1 rfl).trans ?_ <;> rfl) rfl (psa_some (d := .txt 9 ⟨#[116, 114, 117, 101]⟩) HF1.out.2 (btr_nil (Nat.zero_le _))))
      | (have ht : trS t = some ⟨#[102, 97, 108, 115, 101]⟩ := by (unfold trS; simp_all)
         rw [ht]
         exact bodyPost_ret (v := .tuple #[vlV 9 ⟨#[102, 97, 108, 115, 101]⟩ false (.slice none 0 0) 0 z0 sp0, .int .i64 0]) (by refine (res2r (X := w.heap.size) Tryz.results22 ?_ HF2.out.1 rfl).trans ?_ <;> rfl) rfl (psa_some (d := .txt 9 ⟨#[102, 97, 108, 115, 101]⟩) HF2.out.2 (btr_nil (Nat.zero_le _))))
      | (have ht : trS t = none := by (unfold trS; simp_all)
         rw [ht]
         exact bodyPost_ret (v := .tuple #[vlV 0 ⟨#[]⟩ false (.slice none 0 0) 0 z0 sp0, .int .i64 2]) (by refine (res2r (X := w.heap.size) Tryz.results22 ?_ HF3.out.1 rfl).trans ?_ <;> rfl) rfl (psa_none HF3.out.2))
set_option maxRecDepth 100000 in
set_option maxHeartbeats 6400000 in
theorem rparse_st (q : Dt.Sp) (s : ByteArray) (w : World) (hs : s.size ≤ 100000) (hq : Dt.prP (Dt.bl (Ch.spc s (whS 32))) = some q) : Calls Tryz.prog 22 #[.int .i64 32, .string s] w (PsA (psS 32 s) w) := by
  have hk : isK 32 = true := isK_iff.2 (by omega)
  have hI : ∀ W, Calls Tryz.prog 35 #[.int .i64 32] W fun e w' => e = .returned (.bool true) ∧ w' = W := fun W => by have := is_k 32 W; rw [hk] at this; exact this
  have hwk := fun W => white_r 32 W
  have hsp := fun W => Ch.rspace_any s (whS 32) W hs
  have hst : (Ch.spc s (whS 32)).size ≤ 100000 := Nat.le_trans (spc_size s _) hs
  have hp : psS 32 s = some (.spn q) := by unfold psS rdS; rw [if_neg (by decide), if_neg (by decide), if_neg (by decide), if_pos rfl, hq]; rfl
  rw [hp]
  clear hp
  generalize Ch.spc s (whS 32) = t at *
  generalize whS 32 = wk at *
  have HP : Hid _ := fun W => Dt.parseSpan_r t W (by unfold maxLen; omega)
  rw [hq] at HP
  clear hq hst hk
  go_enter Tryz.func22, Tryz.ntmps22
  go_upto_region 19 with (first | (go_at_call 35; refine Calls.mono (hI _) ?_; rintro e w' ⟨rfl, hw1⟩; have hw2 := hw1.symm; clear hw1; subst hw2) | (go_at_call 18; refine Calls.mono (hwk _) ?_; rintro e w' ⟨rfl, hw1⟩; have hw2 := hw1.symm; clear hw1; subst hw2) | (go_at_call 39; refine Calls.mono (hsp _) ?_; rintro e w1 ⟨rfl, hb1⟩; have HB1 : Hid _ := hb1; clear hb1) | (go_at_call 44; refine Calls.mono (HP.out _) ?_; intro e w2 hq; unfold Dt.PsQ at hq; obtain ⟨rfl, hb2⟩ := hq; have H2 : Hid _ := hb2; clear hb2) | (refine wpList_store_row rfl 45 _ _ rfl _ _ rfl rfl 45 _ (M.nw_heap _ _) (by kernel_rfl) rfl (by simp [Value.oneCell']) ?_; rw [alloc_setRow]))
  have hyV := M.nw_heap w2 (.cells #[.int .i64 q.o, .int .i64 q.s, .int .i64 q.n] 45)
  have hbV : Below w2.heap.size w2 (w2.alloc (.cells #[.int .i64 q.o, .int .i64 q.s, .int .i64 q.n] 45)) := (Below.refl _ _).alloc (Nat.le_refl _) _
  obtain ⟨V, hVV⟩ : ∃ X, w2.alloc (.cells #[.int .i64 q.o, .int .i64 q.s, .int .i64 q.n] 45) = X := ⟨_, rfl⟩
  rw [hVV] at hyV hbV ⊢
  have hUV := H2.out.trans (hbV.mono H2.out.size)
  have HR : Hid _ := rat (w := w) (cs0 := #[.int .i64 0, .string ⟨#[]⟩, .bool false, .slice none 0 0, .int .i64 0, .int .i64 0, .int .i64 0, .int .i64 0, .int .i64 0, .int .i64 0, .int .i64 0, .bool false, .int .i64 0, .int .i64 0, .int .i64 0, .int .i64 0]) (HB1.out.trans (hUV.mono HB1.out.size))
  have hS := HR.out.1
  have HF : Hid _ := rfin HR.out.1 HR.out.2 #[.int .i64 32, .string ⟨#[]⟩, .bool false, .slice none 0 0, .int .i64 0, .int .i64 0, .int .i64 0, .int .i64 0, .int .i64 0, .int .i64 0, .int .i64 0, .bool false, .int .i64 0, .int .i64 q.o, .int .i64 q.s, .int .i64 q.n]
  clear hUV hbV hVV
  go_wp2_with (first | (refine wpList_load_row rfl 45 _ rfl w2.heap.size rfl 45 _ (0, 0) _ hyV Tryz.underlying45 rfl (by kernel_rfl) ?_) | (refine wpList_store_row rfl 47 _ _ rfl w.heap.size _ rfl rfl 47 _ hS (by kernel_rfl) rfl (by simp [Value.oneCell']) ?_))
  exact bodyPost_ret (v := .tuple #[vlV 32 ⟨#[]⟩ false (.slice none 0 0) 0 z0 q, .int .i64 0]) (by refine (res2r (X := w.heap.size) Tryz.results22 ?_ HF.out.1 rfl).trans ?_ <;> rfl) rfl (psa_some (d := .spn q) HF.out.2 (btr_nil (Nat.zero_le _)))
set_option maxRecDepth 100000 in
set_option maxHeartbeats 6400000 in
theorem rparse_sf (s : ByteArray) (w : World) (hs : s.size ≤ 100000) (hq : Dt.prP (Dt.bl (Ch.spc s (whS 32))) = none) : Calls Tryz.prog 22 #[.int .i64 32, .string s] w (PsA (psS 32 s) w) := by
  have hk : isK 32 = true := isK_iff.2 (by omega)
  have hI : ∀ W, Calls Tryz.prog 35 #[.int .i64 32] W fun e w' => e = .returned (.bool true) ∧ w' = W := fun W => by have := is_k 32 W; rw [hk] at this; exact this
  have hwk := fun W => white_r 32 W
  have hsp := fun W => Ch.rspace_any s (whS 32) W hs
  have hst : (Ch.spc s (whS 32)).size ≤ 100000 := Nat.le_trans (spc_size s _) hs
  have hp : psS 32 s = none := by unfold psS rdS; rw [if_neg (by decide), if_neg (by decide), if_neg (by decide), if_pos rfl, hq]; rfl
  rw [hp]
  clear hp
  generalize Ch.spc s (whS 32) = t at *
  generalize whS 32 = wk at *
  have HP : Hid _ := fun W => Dt.parseSpan_r t W (by unfold maxLen; omega)
  rw [hq] at HP
  clear hq hst hk
  go_enter Tryz.func22, Tryz.ntmps22
  go_upto_region 19 with (first | (go_at_call 35; refine Calls.mono (hI _) ?_; rintro e w' ⟨rfl, hw1⟩; have hw2 := hw1.symm; clear hw1; subst hw2) | (go_at_call 18; refine Calls.mono (hwk _) ?_; rintro e w' ⟨rfl, hw1⟩; have hw2 := hw1.symm; clear hw1; subst hw2) | (go_at_call 39; refine Calls.mono (hsp _) ?_; rintro e w1 ⟨rfl, hb1⟩; have HB1 : Hid _ := hb1; clear hb1) | (go_at_call 44; refine Calls.mono (HP.out _) ?_; intro e w2 hq; unfold Dt.PsQ at hq; obtain ⟨rfl, hb2⟩ := hq; have H2 : Hid _ := hb2; clear hb2) | (refine wpList_store_row rfl 45 _ _ rfl _ _ rfl rfl 45 _ (M.nw_heap _ _) (by kernel_rfl) rfl (by simp [Value.oneCell']) ?_; rw [alloc_setRow]))
  have hyV := M.nw_heap w2 (.cells #[.int .i64 0, .int .i64 0, .int .i64 0] 45)
  have hbV : Below w2.heap.size w2 (w2.alloc (.cells #[.int .i64 0, .int .i64 0, .int .i64 0] 45)) := (Below.refl _ _).alloc (Nat.le_refl _) _
  obtain ⟨V, hVV⟩ : ∃ X, w2.alloc (.cells #[.int .i64 0, .int .i64 0, .int .i64 0] 45) = X := ⟨_, rfl⟩
  rw [hVV] at hyV hbV ⊢
  have hUV := H2.out.trans (hbV.mono H2.out.size)
  have HR : Hid _ := rat (w := w) (cs0 := #[.int .i64 0, .string ⟨#[]⟩, .bool false, .slice none 0 0, .int .i64 0, .int .i64 0, .int .i64 0, .int .i64 0, .int .i64 0, .int .i64 0, .int .i64 0, .bool false, .int .i64 0, .int .i64 0, .int .i64 0, .int .i64 0]) (HB1.out.trans (hUV.mono HB1.out.size))
  have hS := HR.out.1
  have HF : Hid _ := rfin HR.out.1 HR.out.2 #[.int .i64 0, .string ⟨#[]⟩, .bool false, .slice none 0 0, .int .i64 0, .int .i64 0, .int .i64 0, .int .i64 0, .int .i64 0, .int .i64 0, .int .i64 0, .bool false, .int .i64 0, .int .i64 0, .int .i64 0, .int .i64 0]
  clear hUV hbV hVV
  go_wp2_with (first | (refine wpList_load_row rfl 45 _ rfl w2.heap.size rfl 45 _ (0, 0) _ hyV Tryz.underlying45 rfl (by kernel_rfl) ?_) | (refine wpList_store_row rfl 47 _ _ rfl w.heap.size _ rfl rfl 47 _ hS (by kernel_rfl) rfl (by simp [Value.oneCell']) ?_))
  exact bodyPost_ret (v := .tuple #[vlV 0 ⟨#[]⟩ false (.slice none 0 0) 0 z0 sp0, .int .i64 2]) (by refine (res2r (X := w.heap.size) Tryz.results22 ?_ HF.out.1 rfl).trans ?_ <;> rfl) rfl (psa_none HF.out.2)
set_option maxRecDepth 100000 in
set_option maxHeartbeats 6400000 in
theorem rparse_mt (k : Int) (h0 : 24 ≤ k) (h1 : k ≤ 31) (m : Dt.Mo) (s : ByteArray) (w : World) (hs : s.size ≤ 100000) (hq : Dt.prM (k - 24 + 1) (Dt.bl (Ch.spc s (whS k))) = some m) : Calls Tryz.prog 22 #[.int .i64 k, .string s] w (PsA (psS k s) w) := by
  have hk : isK k = true := isK_iff.2 (by omega)
  have hI : ∀ W, Calls Tryz.prog 35 #[.int .i64 k] W fun e w' => e = .returned (.bool true) ∧ w' = W := fun W => by have := is_k k W; rw [hk] at this; exact this
  have hwk := fun W => white_r k W
  have hsp := fun W => Ch.rspace_any s (whS k) W hs
  have hst : (Ch.spc s (whS k)).size ≤ 100000 := Nat.le_trans (spc_size s _) hs
  have hp : psS k s = some (.mom k m) := by unfold psS rdS; rw [if_neg (by omega), if_neg (by omega), if_neg (by omega), if_neg (by omega), hq]; rfl
  rw [hp]
  clear hp
  generalize Ch.spc s (whS k) = t at *
  generalize whS k = wk at *
  have HP : Hid _ := fun W => parse_rk k h0 h1 t W (by unfold maxLen; omega)
  rw [hq] at HP
  clear hq hst hk
  have f8 : decide (k ≤ 8) = false := by simp; omega
  have f9 : (k == 9) = false := by simp; omega
  have f24 : decide (k < 24) = false := by simp; omega
  have f32 : (k == 32) = false := by simp; omega
  have w1' : IntKind.i64.wrap (k - 24) = k - 24 := by rw [IntKind.wrap_i64]; omega
  have w2' : IntKind.i64.wrap (k - 24 + 1) = k - 24 + 1 := by rw [IntKind.wrap_i64]; omega
  go_enter Tryz.func22, Tryz.ntmps22
  go_upto_region 23 with (first | (go_at_call 35; refine Calls.mono (hI _) ?_; rintro e w' ⟨rfl, hw1⟩; have hw2 := hw1.symm; clear hw1; subst hw2) | (go_at_call 18; refine Calls.mono (hwk _) ?_; rintro e w' ⟨rfl, hw1⟩; have hw2 := hw1.symm; clear hw1; subst hw2) | (go_at_call 39; refine Calls.mono (hsp _) ?_; rintro e w1 ⟨rfl, hb1⟩; have HB1 : Hid _ := hb1; clear hb1) | (go_at_call 45; refine Calls.mono (HP.out _) ?_; intro e w2 hq; unfold Dt.PaQ at hq; obtain ⟨rfl, hb2⟩ := hq; have H2 : Hid _ := hb2; clear hb2) | (refine wpList_store_row rfl 44 _ _ rfl _ _ rfl rfl 44 _ (M.nw_heap _ _) (by kernel_rfl) rfl (by simp [Value.oneCell']) ?_; rw [alloc_setRow]))
  have hyV := M.nw_heap w2 (.cells #[.int .i64 m.k, .int .i64 m.y, .int .i64 m.m, .int .i64 m.d, .int .i64 m.s, .int .i64 m.n, .bool m.hz, .int .i64 m.z] 44)
  have hbV : Below w2.heap.size w2 (w2.alloc (.cells #[.int .i64 m.k, .int .i64 m.y, .int .i64 m.m, .int .i64 m.d, .int .i64 m.s, .int .i64 m.n, .bool m.hz, .int .i64 m.z] 44)) := (Below.refl _ _).alloc (Nat.le_refl _) _
  obtain ⟨V, hVV⟩ : ∃ X, w2.alloc (.cells #[.int .i64 m.k, .int .i64 m.y, .int .i64 m.m, .int .i64 m.d, .int .i64 m.s, .int .i64 m.n, .bool m.hz, .int .i64 m.z] 44) = X := ⟨_, rfl⟩
  rw [hVV] at hyV hbV ⊢
  have hUV := H2.out.trans (hbV.mono H2.out.size)
  have HR : Hid _ := rat (w := w) (cs0 := #[.int .i64 0, .string ⟨#[]⟩, .bool false, .slice none 0 0, .int .i64 0, .int .i64 0, .int .i64 0, .int .i64 0, .int .i64 0, .int .i64 0, .int .i64 0, .bool false, .int .i64 0, .int .i64 0, .int .i64 0, .int .i64 0]) (HB1.out.trans (hUV.mono HB1.out.size))
  have hS := HR.out.1
  have HF : Hid _ := rfin HR.out.1 HR.out.2 #[.int .i64 k, .string ⟨#[]⟩, .bool false, .slice none 0 0, .int .i64 0, .int .i64 m.k, .int .i64 m.y, .int .i64 m.m, .int .i64 m.d, .int .i64 m.s, .int .i64 m.n, .bool m.hz, .int .i64 m.z, .int .i64 0, .int .i64 0, .int .i64 0]
  clear hUV hbV hVV
  go_wp2_with (first | (refine wpList_load_row rfl 44 _ rfl w2.heap.size rfl 44 _ (0, 0) _ hyV Tryz.underlying44 rfl (by kernel_rfl) ?_) | (refine wpList_store_row rfl 47 _ _ rfl w.heap.size _ rfl rfl 47 _ hS (by kernel_rfl) rfl (by simp [Value.oneCell']) ?_))
  exact bodyPost_ret (v := .tuple #[vlV k ⟨#[]⟩ false (.slice none 0 0) 0 m sp0, .int .i64 0]) (by refine (res2r (X := w.heap.size) Tryz.results22 ?_ HF.out.1 rfl).trans ?_ <;> rfl) rfl (psa_some (d := .mom k m) HF.out.2 (btr_nil (Nat.zero_le _)))
set_option maxRecDepth 100000 in
set_option maxHeartbeats 6400000 in
theorem rparse_mf (k : Int) (h0 : 24 ≤ k) (h1 : k ≤ 31) (s : ByteArray) (w : World) (hs : s.size ≤ 100000) (hq : Dt.prM (k - 24 + 1) (Dt.bl (Ch.spc s (whS k))) = none) : Calls Tryz.prog 22 #[.int .i64 k, .string s] w (PsA (psS k s) w) := by
  have hk : isK k = true := isK_iff.2 (by omega)
  have hI : ∀ W, Calls Tryz.prog 35 #[.int .i64 k] W fun e w' => e = .returned (.bool true) ∧ w' = W := fun W => by have := is_k k W; rw [hk] at this; exact this
  have hwk := fun W => white_r k W
  have hsp := fun W => Ch.rspace_any s (whS k) W hs
  have hst : (Ch.spc s (whS k)).size ≤ 100000 := Nat.le_trans (spc_size s _) hs
  have hp : psS k s = none := by unfold psS rdS; rw [if_neg (by omega), if_neg (by omega), if_neg (by omega), if_neg (by omega), hq]; rfl
  rw [hp]
  clear hp
  generalize Ch.spc s (whS k) = t at *
  generalize whS k = wk at *
  have HP : Hid _ := fun W => parse_rk k h0 h1 t W (by unfold maxLen; omega)
  rw [hq] at HP
  clear hq hst hk
  have f8 : decide (k ≤ 8) = false := by simp; omega
  have f9 : (k == 9) = false := by simp; omega
  have f24 : decide (k < 24) = false := by simp; omega
  have f32 : (k == 32) = false := by simp; omega
  have w1' : IntKind.i64.wrap (k - 24) = k - 24 := by rw [IntKind.wrap_i64]; omega
  have w2' : IntKind.i64.wrap (k - 24 + 1) = k - 24 + 1 := by rw [IntKind.wrap_i64]; omega
  go_enter Tryz.func22, Tryz.ntmps22
  go_upto_region 23 with (first | (go_at_call 35; refine Calls.mono (hI _) ?_; rintro e w' ⟨rfl, hw1⟩; have hw2 := hw1.symm; clear hw1; subst hw2) | (go_at_call 18; refine Calls.mono (hwk _) ?_; rintro e w' ⟨rfl, hw1⟩; have hw2 := hw1.symm; clear hw1; subst hw2) | (go_at_call 39; refine Calls.mono (hsp _) ?_; rintro e w1 ⟨rfl, hb1⟩; have HB1 : Hid _ := hb1; clear hb1) | (go_at_call 45; refine Calls.mono (HP.out _) ?_; intro e w2 hq; unfold Dt.PaQ at hq; obtain ⟨rfl, hb2⟩ := hq; have H2 : Hid _ := hb2; clear hb2) | (refine wpList_store_row rfl 44 _ _ rfl _ _ rfl rfl 44 _ (M.nw_heap _ _) (by kernel_rfl) rfl (by simp [Value.oneCell']) ?_; rw [alloc_setRow]))
  have hyV := M.nw_heap w2 (.cells #[.int .i64 0, .int .i64 0, .int .i64 0, .int .i64 0, .int .i64 0, .int .i64 0, .bool false, .int .i64 0] 44)
  have hbV : Below w2.heap.size w2 (w2.alloc (.cells #[.int .i64 0, .int .i64 0, .int .i64 0, .int .i64 0, .int .i64 0, .int .i64 0, .bool false, .int .i64 0] 44)) := (Below.refl _ _).alloc (Nat.le_refl _) _
  obtain ⟨V, hVV⟩ : ∃ X, w2.alloc (.cells #[.int .i64 0, .int .i64 0, .int .i64 0, .int .i64 0, .int .i64 0, .int .i64 0, .bool false, .int .i64 0] 44) = X := ⟨_, rfl⟩
  rw [hVV] at hyV hbV ⊢
  have hUV := H2.out.trans (hbV.mono H2.out.size)
  have HR : Hid _ := rat (w := w) (cs0 := #[.int .i64 0, .string ⟨#[]⟩, .bool false, .slice none 0 0, .int .i64 0, .int .i64 0, .int .i64 0, .int .i64 0, .int .i64 0, .int .i64 0, .int .i64 0, .bool false, .int .i64 0, .int .i64 0, .int .i64 0, .int .i64 0]) (HB1.out.trans (hUV.mono HB1.out.size))
  have hS := HR.out.1
  have HF : Hid _ := rfin HR.out.1 HR.out.2 #[.int .i64 0, .string ⟨#[]⟩, .bool false, .slice none 0 0, .int .i64 0, .int .i64 0, .int .i64 0, .int .i64 0, .int .i64 0, .int .i64 0, .int .i64 0, .bool false, .int .i64 0, .int .i64 0, .int .i64 0, .int .i64 0]
  clear hUV hbV hVV
  go_wp2_with (first | (refine wpList_load_row rfl 44 _ rfl w2.heap.size rfl 44 _ (0, 0) _ hyV Tryz.underlying44 rfl (by kernel_rfl) ?_) | (refine wpList_store_row rfl 47 _ _ rfl w.heap.size _ rfl rfl 47 _ hS (by kernel_rfl) rfl (by simp [Value.oneCell']) ?_))
  exact bodyPost_ret (v := .tuple #[vlV 0 ⟨#[]⟩ false (.slice none 0 0) 0 z0 sp0, .int .i64 2]) (by refine (res2r (X := w.heap.size) Tryz.results22 ?_ HF.out.1 rfl).trans ?_ <;> rfl) rfl (psa_none HF.out.2)
end Go.Proofs.YtgaegajcejpmdaaGreatDoor
namespace Go.Proofs.YtgaegajcejpmdaaGreatDoor
open Go.RowKit
set_option linter.unusedVariables false
set_option linter.unusedSimpArgs false

theorem ps_num {k : Int} {s : ByteArray} (h0 : 10 ≤ k) (h1 : k ≤ 23) : psS k s = match Dc.parS (Dc.bl (Ch.spc s (whS k))) with
    | .ok n => if cntB k (Dc.bl (Ch.spc s (whS k))) n = true then some (.num n) else none
    | .error _ => none := by
  unfold psS rdS
  rw [if_neg (by omega), if_neg (by omega), if_pos h1]
  cases Dc.parS (Dc.bl (Ch.spc s (whS k))) <;> rfl
theorem par_no {l : List Int} {x : Int} (h : Dc.parS l = .error x) : (x != 0) = true := by
  rcases par_err h with rfl | rfl <;> rfl
set_option maxRecDepth 100000 in
set_option maxHeartbeats 6400000 in
theorem rparse_de (k : Int) (s : ByteArray) (w : World) (hs : s.size ≤ 100000) (h0 : 10 ≤ k) (h1 : k ≤ 23) {x : Int} (hq : Dc.parS (Dc.bl (Ch.spc s (whS k))) = .error x) : Calls Tryz.prog 22 #[.int .i64 k, .string s] w (PsA (psS k s) w) := by
  have hk : isK k = true := isK_iff.2 (by omega)
  have hI : ∀ W, Calls Tryz.prog 35 #[.int .i64 k] W fun e w' => e = .returned (.bool true) ∧ w' = W := fun W => by have := is_k k W; rw [hk] at this; exact this
  have hwk := fun W => white_r k W
  have hsp := fun W => Ch.rspace_any s (whS k) W hs
  have hst : (Ch.spc s (whS k)).size ≤ 100000 := Nat.le_trans (spc_size s _) hs
  have hp : psS k s = none := by rw [ps_num h0 h1, hq]
  rw [hp]
  clear hp
  generalize Ch.spc s (whS k) = t at *
  generalize whS k = wk at *
  have f8 : decide (k ≤ 8) = false := by simp; omega
  have f9 : (k == 9) = false := by simp; omega
  have f24 : decide (k < 24) = true := by simp; omega
  have hx := par_no hq
  have HP : Hid _ := fun W => Dc.parse_r t W (by unfold maxLen; omega)
  unfold Dc.PaP at HP
  rw [hq] at HP
  clear hq hst hk h0 h1
  go_enter Tryz.func22, Tryz.ntmps22
  go_upto_region 14 with (first | (go_at_call 35; refine Calls.mono (hI _) ?_; rintro e w' ⟨rfl, hw1⟩; have hw2 := hw1.symm; clear hw1; subst hw2) | (go_at_call 18; refine Calls.mono (hwk _) ?_; rintro e w' ⟨rfl, hw1⟩; have hw2 := hw1.symm; clear hw1; subst hw2) | (go_at_call 39; refine Calls.mono (hsp _) ?_; rintro e w1 ⟨rfl, hb1⟩; have HB1 : Hid _ := hb1; clear hb1) | (go_at_call 41; refine Calls.mono (HP.out _) ?_; intro e w2 hq; obtain ⟨hb2, rfl⟩ := hq; have H2 : Hid _ := hb2; clear hb2) | (refine wpList_store_row rfl 43 _ _ rfl _ _ rfl rfl 43 _ (M.nw_heap _ _) (by kernel_rfl) rfl (by simp [Value.oneCell']) ?_; rw [alloc_setRow]))
  have hyV := M.nw_heap w2 (.cells #[.bool false, .slice none 0 0, .int .i64 0] 43)
  have hbV : Below w2.heap.size w2 (w2.alloc (.cells #[.bool false, .slice none 0 0, .int .i64 0] 43)) := (Below.refl _ _).alloc (Nat.le_refl _) _
  obtain ⟨V, hVV⟩ : ∃ X, w2.alloc (.cells #[.bool false, .slice none 0 0, .int .i64 0] 43) = X := ⟨_, rfl⟩
  rw [hVV] at hyV hbV ⊢
  have hUV := H2.out.trans (hbV.mono H2.out.size)
  have HR : Hid _ := rat (w := w) (cs0 := #[.int .i64 0, .string ⟨#[]⟩, .bool false, .slice none 0 0, .int .i64 0, .int .i64 0, .int .i64 0, .int .i64 0, .int .i64 0, .int .i64 0, .int .i64 0, .bool false, .int .i64 0, .int .i64 0, .int .i64 0, .int .i64 0]) (HB1.out.trans (hUV.mono HB1.out.size))
  have hS := HR.out.1
  have HF : Hid _ := rfin HR.out.1 HR.out.2 #[.int .i64 0, .string ⟨#[]⟩, .bool false, .slice none 0 0, .int .i64 0, .int .i64 0, .int .i64 0, .int .i64 0, .int .i64 0, .int .i64 0, .int .i64 0, .bool false, .int .i64 0, .int .i64 0, .int .i64 0, .int .i64 0]
  clear hUV hbV hVV
  go_wp2_with (first | (refine wpList_load_row rfl 43 _ rfl w2.heap.size rfl 43 _ (0, 0) _ hyV Tryz.underlying43 rfl (by kernel_rfl) ?_) | (refine wpList_store_row rfl 47 _ _ rfl w.heap.size _ rfl rfl 47 _ hS (by kernel_rfl) rfl (by simp [Value.oneCell']) ?_))
  exact bodyPost_ret (v := .tuple #[vlV 0 ⟨#[]⟩ false (.slice none 0 0) 0 z0 sp0, .int .i64 2]) (by refine (res2r (X := w.heap.size) Tryz.results22 ?_ HF.out.1 rfl).trans ?_ <;> rfl) rfl (psa_none HF.out.2)
set_option maxRecDepth 100000 in
set_option maxHeartbeats 6400000 in
theorem rparse_d10 (k : Int) (s : ByteArray) (w : World) (hs : s.size ≤ 100000) (h0 : 10 ≤ k) (h1 : k ≤ 10) {n : Dc.Nm} (hq : Dc.parS (Dc.bl (Ch.spc s (whS k))) = .ok n)  : Calls Tryz.prog 22 #[.int .i64 k, .string s] w (PsA (psS k s) w) := by
  have hk : isK k = true := isK_iff.2 (by omega)
  have hI : ∀ W, Calls Tryz.prog 35 #[.int .i64 k] W fun e w' => e = .returned (.bool true) ∧ w' = W := fun W => by have := is_k k W; rw [hk] at this; exact this
  have hwk := fun W => white_r k W
  have hsp := fun W => Ch.rspace_any s (whS k) W hs
  have hst : (Ch.spc s (whS k)).size ≤ 100000 := Nat.le_trans (spc_size s _) hs
  have hc : cntB k (Dc.bl (Ch.spc s (whS k))) n = true := by unfold cntB; rw [if_pos (by omega)]
  have hp : psS k s = some (.num n) := by rw [ps_num (by omega) (by omega), hq]; simp only [hc]; rfl
  rw [hp]
  clear hp hc
  generalize Ch.spc s (whS k) = t at *
  generalize whS k = wk at *
  have f8 : decide (k ≤ 8) = false := by simp; omega
  have f9 : (k == 9) = false := by simp; omega
  have f24 : decide (k < 24) = true := by simp; omega
  have f11 : decide (11 ≤ k) = false := by simp; omega
  have hcn := Dc.par_ok hq
  have HP : Hid _ := fun W => Dc.parse_r t W (by unfold maxLen; omega)
  unfold Dc.PaP at HP
  rw [hq] at HP
  clear hq hst hk
  go_enter Tryz.func22, Tryz.ntmps22
  go_upto_region 14 with (first | (go_at_call 35; refine Calls.mono (hI _) ?_; rintro e w' ⟨rfl, hw1⟩; have hw2 := hw1.symm; clear hw1; subst hw2) | (go_at_call 18; refine Calls.mono (hwk _) ?_; rintro e w' ⟨rfl, hw1⟩; have hw2 := hw1.symm; clear hw1; subst hw2) | (go_at_call 39; refine Calls.mono (hsp _) ?_; rintro e w1 ⟨rfl, hb1⟩; have HB1 : Hid _ := hb1; clear hb1) | (go_at_call 41; refine Calls.mono (HP.out _) ?_; intro e w2 hq; obtain ⟨hb2, rv, rfl, hbt⟩ := hq; obtain ⟨va, vc, rfl, _⟩ := hbt.form; have H2 : Hid _ := hb2; have HT : Hid (Dc.BtR w2 (.slice va n.2.1.length vc) n.2.1) := hbt; clear hb2 hbt) | (refine wpList_store_row rfl 43 _ _ rfl _ _ rfl rfl 43 _ (M.nw_heap _ _) (by kernel_rfl) rfl (by simp [Value.oneCell']) ?_; rw [alloc_setRow]))
  have hyV := M.nw_heap w2 (.cells #[.bool n.1, .slice va n.2.1.length vc, .int .i64 n.2.2] 43)
  have hbV : Below w2.heap.size w2 (w2.alloc (.cells #[.bool n.1, .slice va n.2.1.length vc, .int .i64 n.2.2] 43)) := (Below.refl _ _).alloc (Nat.le_refl _) _
  obtain ⟨V, hVV⟩ : ∃ X, w2.alloc (.cells #[.bool n.1, .slice va n.2.1.length vc, .int .i64 n.2.2] 43) = X := ⟨_, rfl⟩
  rw [hVV] at hyV hbV ⊢
  have hUV := H2.out.trans (hbV.mono H2.out.size)
  have hbt := HT.out.below hbV
  have HR : Hid _ := rat (w := w) (cs0 := #[.int .i64 0, .string ⟨#[]⟩, .bool false, .slice none 0 0, .int .i64 0, .int .i64 0, .int .i64 0, .int .i64 0, .int .i64 0, .int .i64 0, .int .i64 0, .bool false, .int .i64 0, .int .i64 0, .int .i64 0, .int .i64 0]) (HB1.out.trans (hUV.mono HB1.out.size))
  have hS := HR.out.1
  have HF : Hid _ := rfin HR.out.1 HR.out.2 #[.int .i64 10, .string ⟨#[]⟩, .bool n.1, .slice va n.2.1.length vc, .int .i64 n.2.2, .int .i64 0, .int .i64 0, .int .i64 0, .int .i64 0, .int .i64 0, .int .i64 0, .bool false, .int .i64 0, .int .i64 0, .int .i64 0, .int .i64 0]
  have HBT : Hid _ := Dc.BtR.kept hbt (Nat.le_of_eq (setRow_size V w.heap.size #[.int .i64 10, .string ⟨#[]⟩, .bool n.1, .slice va n.2.1.length vc, .int .i64 n.2.2, .int .i64 0, .int .i64 0, .int .i64 0, .int .i64 0, .int .i64 0, .int .i64 0, .bool false, .int .i64 0, .int .i64 0, .int .i64 0, .int .i64 0]).symm) (fun k hk => setRow_other _ _ _ _ hk) (btr_apart (cs := vlL 0 ⟨#[]⟩ false (.slice none 0 0) 0 z0 sp0) hbt hS no_u8)
  clear hbt
  go_wp2_with (first | (refine wpList_load_row rfl 43 _ rfl w2.heap.size rfl 43 _ (0, 0) _ hyV Tryz.underlying43 rfl (by kernel_rfl) ?_) | (refine wpList_store_row rfl 47 _ _ rfl w.heap.size _ rfl rfl 47 _ hS (by kernel_rfl) rfl (by simp [Value.oneCell']) ?_))
  exact bodyPost_ret (v := .tuple #[vlV 10 ⟨#[]⟩ n.1 (.slice va n.2.1.length vc) n.2.2 z0 sp0, .int .i64 0]) (by refine (res2r (X := w.heap.size) Tryz.results22 ?_ HF.out.1 rfl).trans ?_ <;> rfl) rfl (psa_some (d := .num n) HF.out.2 HBT.out)
set_option maxRecDepth 100000 in
set_option maxHeartbeats 6400000 in
theorem rparse_dp (k : Int) (s : ByteArray) (w : World) (hs : s.size ≤ 100000) (h0 : 11 ≤ k) (h1 : k ≤ 23) {n : Dc.Nm} (hq : Dc.parS (Dc.bl (Ch.spc s (whS k))) = .ok n) (hh : hasP (Dc.bl (Ch.spc s (whS k))) = true) : Calls Tryz.prog 22 #[.int .i64 k, .string s] w (PsA (psS k s) w) := by
  have hk : isK k = true := isK_iff.2 (by omega)
  have hI : ∀ W, Calls Tryz.prog 35 #[.int .i64 k] W fun e w' => e = .returned (.bool true) ∧ w' = W := fun W => by have := is_k k W; rw [hk] at this; exact this
  have hwk := fun W => white_r k W
  have hsp := fun W => Ch.rspace_any s (whS k) W hs
  have hst : (Ch.spc s (whS k)).size ≤ 100000 := Nat.le_trans (spc_size s _) hs
  have hc : cntB k (Dc.bl (Ch.spc s (whS k))) n = false := by
    have h2 : ¬ Dc.ix (Dc.bl (Ch.spc s (whS k))) = -1 := fun q => by rw [hasP_ix.2 q] at hh; cases hh
    unfold cntB
    rw [if_neg (by omega), if_neg h2]
  have hp : psS k s = none := by rw [ps_num (by omega) (by omega), hq]; simp only [hc]; rfl
  rw [hp]
  clear hp hc
  generalize Ch.spc s (whS k) = t at *
  generalize whS k = wk at *
  have f8 : decide (k ≤ 8) = false := by simp; omega
  have f9 : (k == 9) = false := by simp; omega
  have f24 : decide (k < 24) = true := by simp; omega
  have f11 : decide (11 ≤ k) = true := by simp; omega
  have hcn := Dc.par_ok hq
  have HP : Hid _ := fun W => Dc.parse_r t W (by unfold maxLen; omega)
  unfold Dc.PaP at HP
  rw [hq] at HP
  have HPT : Hid _ := fun W => point_r t W hst
  rw [hh] at HPT
  clear hq hst hk
  go_enter Tryz.func22, Tryz.ntmps22
  go_upto_region 14 with (first | (go_at_call 35; refine Calls.mono (hI _) ?_; rintro e w' ⟨rfl, hw1⟩; have hw2 := hw1.symm; clear hw1; subst hw2) | (go_at_call 18; refine Calls.mono (hwk _) ?_; rintro e w' ⟨rfl, hw1⟩; have hw2 := hw1.symm; clear hw1; subst hw2) | (go_at_call 39; refine Calls.mono (hsp _) ?_; rintro e w1 ⟨rfl, hb1⟩; have HB1 : Hid _ := hb1; clear hb1) | (go_at_call 41; refine Calls.mono (HP.out _) ?_; intro e w2 hq; obtain ⟨hb2, rv, rfl, hbt⟩ := hq; obtain ⟨va, vc, rfl, _⟩ := hbt.form; have H2 : Hid _ := hb2; have HT : Hid (Dc.BtR w2 (.slice va n.2.1.length vc) n.2.1) := hbt; clear hb2 hbt) | (refine wpList_store_row rfl 43 _ _ rfl _ _ rfl rfl 43 _ (M.nw_heap _ _) (by kernel_rfl) rfl (by simp [Value.oneCell']) ?_; rw [alloc_setRow]))
  have hyV := M.nw_heap w2 (.cells #[.bool n.1, .slice va n.2.1.length vc, .int .i64 n.2.2] 43)
  have hbV : Below w2.heap.size w2 (w2.alloc (.cells #[.bool n.1, .slice va n.2.1.length vc, .int .i64 n.2.2] 43)) := (Below.refl _ _).alloc (Nat.le_refl _) _
  obtain ⟨V, hVV⟩ : ∃ X, w2.alloc (.cells #[.bool n.1, .slice va n.2.1.length vc, .int .i64 n.2.2] 43) = X := ⟨_, rfl⟩
  rw [hVV] at hyV hbV ⊢
  have hUV := H2.out.trans (hbV.mono H2.out.size)
  have hbt := HT.out.below hbV
  have HR : Hid _ := rat (w := w) (cs0 := #[.int .i64 0, .string ⟨#[]⟩, .bool false, .slice none 0 0, .int .i64 0, .int .i64 0, .int .i64 0, .int .i64 0, .int .i64 0, .int .i64 0, .int .i64 0, .bool false, .int .i64 0, .int .i64 0, .int .i64 0, .int .i64 0]) (HB1.out.trans (hUV.mono HB1.out.size))
  have hS := HR.out.1
  have HF : Hid _ := rfin HR.out.1 HR.out.2 #[.int .i64 0, .string ⟨#[]⟩, .bool false, .slice none 0 0, .int .i64 0, .int .i64 0, .int .i64 0, .int .i64 0, .int .i64 0, .int .i64 0, .int .i64 0, .bool false, .int .i64 0, .int .i64 0, .int .i64 0, .int .i64 0]
  clear hbt
  go_wp2_with (first | (refine wpList_load_row rfl 43 _ rfl w2.heap.size rfl 43 _ (0, 0) _ hyV Tryz.underlying43 rfl (by kernel_rfl) ?_) | (refine wpList_store_row rfl 47 _ _ rfl w.heap.size _ rfl rfl 47 _ hS (by kernel_rfl) rfl (by simp [Value.oneCell']) ?_) | (go_at_call 42; refine Calls.mono (HPT.out _) ?_; rintro e w' ⟨rfl, hw1⟩; have hw2 := hw1.symm; clear hw1; subst hw2))
  exact bodyPost_ret (v := .tuple #[vlV 0 ⟨#[]⟩ false (.slice none 0 0) 0 z0 sp0, .int .i64 2]) (by refine (res2r (X := w.heap.size) Tryz.results22 ?_ HF.out.1 rfl).trans ?_ <;> rfl) rfl (psa_none HF.out.2)
set_option maxRecDepth 100000 in
set_option maxHeartbeats 6400000 in
theorem rparse_dw (k : Int) (s : ByteArray) (w : World) (hs : s.size ≤ 100000) (h0 : 11 ≤ k) (h1 : k ≤ 23) {n : Dc.Nm} (hq : Dc.parS (Dc.bl (Ch.spc s (whS k))) = .ok n) (hh : hasP (Dc.bl (Ch.spc s (whS k))) = false) (hw : wiB k (Dc.nv n 0) = true) : Calls Tryz.prog 22 #[.int .i64 k, .string s] w (PsA (psS k s) w) := by
  have hk : isK k = true := isK_iff.2 (by omega)
  have hI : ∀ W, Calls Tryz.prog 35 #[.int .i64 k] W fun e w' => e = .returned (.bool true) ∧ w' = W := fun W => by have := is_k k W; rw [hk] at this; exact this
  have hwk := fun W => white_r k W
  have hsp := fun W => Ch.rspace_any s (whS k) W hs
  have hst : (Ch.spc s (whS k)).size ≤ 100000 := Nat.le_trans (spc_size s _) hs
  have hc : cntB k (Dc.bl (Ch.spc s (whS k))) n = true := by unfold cntB; rw [if_neg (by omega), if_pos (hasP_ix.1 hh)]; exact hw
  have hp : psS k s = some (.num n) := by rw [ps_num (by omega) (by omega), hq]; simp only [hc]; rfl
  rw [hp]
  clear hp hc
  have hn0 := par_whole hq (hasP_ix.1 hh)
  generalize Ch.spc s (whS k) = t at *
  generalize whS k = wk at *
  have f8 : decide (k ≤ 8) = false := by simp; omega
  have f9 : (k == 9) = false := by simp; omega
  have f24 : decide (k < 24) = true := by simp; omega
  have f11 : decide (11 ≤ k) = true := by simp; omega
  have hcn := Dc.par_ok hq
  have HP : Hid _ := fun W => Dc.parse_r t W (by unfold maxLen; omega)
  unfold Dc.PaP at HP
  rw [hq] at HP
  have HPT : Hid _ := fun W => point_r t W hst
  rw [hh] at HPT
  have HWI : Hid _ := fun (W : World) (v : Value) (hv : Dc.NmR W v n) => within_r k h0 h1 hv hn0
  rw [hw] at HWI
  clear hn0 hw
  clear hq hst hk
  go_enter Tryz.func22, Tryz.ntmps22
  go_upto_region 14 with (first | (go_at_call 35; refine Calls.mono (hI _) ?_; rintro e w' ⟨rfl, hw1⟩; have hw2 := hw1.symm; clear hw1; subst hw2) | (go_at_call 18; refine Calls.mono (hwk _) ?_; rintro e w' ⟨rfl, hw1⟩; have hw2 := hw1.symm; clear hw1; subst hw2) | (go_at_call 39; refine Calls.mono (hsp _) ?_; rintro e w1 ⟨rfl, hb1⟩; have HB1 : Hid _ := hb1; clear hb1) | (go_at_call 41; refine Calls.mono (HP.out _) ?_; intro e w2 hq; obtain ⟨hb2, rv, rfl, hbt⟩ := hq; obtain ⟨va, vc, rfl, _⟩ := hbt.form; have H2 : Hid _ := hb2; have HT : Hid (Dc.BtR w2 (.slice va n.2.1.length vc) n.2.1) := hbt; clear hb2 hbt) | (refine wpList_store_row rfl 43 _ _ rfl _ _ rfl rfl 43 _ (M.nw_heap _ _) (by kernel_rfl) rfl (by simp [Value.oneCell']) ?_; rw [alloc_setRow]))
  have hyV := M.nw_heap w2 (.cells #[.bool n.1, .slice va n.2.1.length vc, .int .i64 n.2.2] 43)
  have hbV : Below w2.heap.size w2 (w2.alloc (.cells #[.bool n.1, .slice va n.2.1.length vc, .int .i64 n.2.2] 43)) := (Below.refl _ _).alloc (Nat.le_refl _) _
  obtain ⟨V, hVV⟩ : ∃ X, w2.alloc (.cells #[.bool n.1, .slice va n.2.1.length vc, .int .i64 n.2.2] 43) = X := ⟨_, rfl⟩
  rw [hVV] at hyV hbV ⊢
  have hUV := H2.out.trans (hbV.mono H2.out.size)
  have hbt := HT.out.below hbV
  have HWV : Hid _ := HWI.out V _ ⟨hbt, hcn.1, hcn.2.2.1⟩
  have HVV : Hid _ := And.intro (HB1.out.trans (hUV.mono HB1.out.size)) (And.intro hbt hyV)
  clear hUV hbV hVV hbt
  have y0 : V.cell? ⟨w2.heap.size, 0, none⟩ = some (.bool n.1) := row_cell hyV
  have y1 : V.cell? ⟨w2.heap.size, 1, none⟩ = some (.slice va n.2.1.length vc) := row_cell hyV
  have y2 : V.cell? ⟨w2.heap.size, 2, none⟩ = some (.int .i64 n.2.2) := row_cell hyV
  go_upto_region 16 with (first | (go_at_call 42; refine Calls.mono (HPT.out _) ?_; rintro e w' ⟨rfl, hw1⟩; have hw2 := hw1.symm; clear hw1; subst hw2) | (refine wpList_load_row rfl 43 _ rfl w2.heap.size rfl 43 _ (0, 0) _ hyV Tryz.underlying43 rfl (by kernel_rfl) ?_) | (go_at_call 43; refine Calls.mono HWV.out ?_; rintro e w3 ⟨rfl, hb3⟩; have H3 : Hid _ := hb3; clear hb3))
  clear y0 y1 y2
  have hbt := HVV.out.2.1.below H3.out
  have hy3 := (H3.out.block _ (Dc.lt_of HVV.out.2.2)).trans HVV.out.2.2
  have HR : Hid _ := rat (w := w) (cs0 := #[.int .i64 0, .string ⟨#[]⟩, .bool false, .slice none 0 0, .int .i64 0, .int .i64 0, .int .i64 0, .int .i64 0, .int .i64 0, .int .i64 0, .int .i64 0, .bool false, .int .i64 0, .int .i64 0, .int .i64 0, .int .i64 0]) (HVV.out.1.trans (H3.out.mono HVV.out.1.size))
  have hS := HR.out.1
  have HF : Hid _ := rfin HR.out.1 HR.out.2 #[.int .i64 10, .string ⟨#[]⟩, .bool n.1, .slice va n.2.1.length vc, .int .i64 n.2.2, .int .i64 0, .int .i64 0, .int .i64 0, .int .i64 0, .int .i64 0, .int .i64 0, .bool false, .int .i64 0, .int .i64 0, .int .i64 0, .int .i64 0]
  have HBT : Hid _ := Dc.BtR.kept hbt (Nat.le_of_eq (setRow_size w3 w.heap.size #[.int .i64 10, .string ⟨#[]⟩, .bool n.1, .slice va n.2.1.length vc, .int .i64 n.2.2, .int .i64 0, .int .i64 0, .int .i64 0, .int .i64 0, .int .i64 0, .int .i64 0, .bool false, .int .i64 0, .int .i64 0, .int .i64 0, .int .i64 0]).symm) (fun k hk => setRow_other _ _ _ _ hk) (btr_apart (cs := vlL 0 ⟨#[]⟩ false (.slice none 0 0) 0 z0 sp0) hbt hS no_u8)
  clear hbt
  go_wp2_with (first | (refine wpList_load_row rfl 43 _ rfl w2.heap.size rfl 43 _ (0, 0) _ hy3 Tryz.underlying43 rfl (by kernel_rfl) ?_) | (refine wpList_store_row rfl 47 _ _ rfl w.heap.size _ rfl rfl 47 _ hS (by kernel_rfl) rfl (by simp [Value.oneCell']) ?_))
  exact bodyPost_ret (v := .tuple #[vlV 10 ⟨#[]⟩ n.1 (.slice va n.2.1.length vc) n.2.2 z0 sp0, .int .i64 0]) (by refine (res2r (X := w.heap.size) Tryz.results22 ?_ HF.out.1 rfl).trans ?_ <;> rfl) rfl (psa_some (d := .num n) HF.out.2 HBT.out)
set_option maxRecDepth 100000 in
set_option maxHeartbeats 6400000 in
theorem rparse_dn (k : Int) (s : ByteArray) (w : World) (hs : s.size ≤ 100000) (h0 : 11 ≤ k) (h1 : k ≤ 23) {n : Dc.Nm} (hq : Dc.parS (Dc.bl (Ch.spc s (whS k))) = .ok n) (hh : hasP (Dc.bl (Ch.spc s (whS k))) = false) (hw : wiB k (Dc.nv n 0) = false) : Calls Tryz.prog 22 #[.int .i64 k, .string s] w (PsA (psS k s) w) := by
  have hk : isK k = true := isK_iff.2 (by omega)
  have hI : ∀ W, Calls Tryz.prog 35 #[.int .i64 k] W fun e w' => e = .returned (.bool true) ∧ w' = W := fun W => by have := is_k k W; rw [hk] at this; exact this
  have hwk := fun W => white_r k W
  have hsp := fun W => Ch.rspace_any s (whS k) W hs
  have hst : (Ch.spc s (whS k)).size ≤ 100000 := Nat.le_trans (spc_size s _) hs
  have hc : cntB k (Dc.bl (Ch.spc s (whS k))) n = false := by unfold cntB; rw [if_neg (by omega), if_pos (hasP_ix.1 hh)]; exact hw
  have hp : psS k s = none := by rw [ps_num (by omega) (by omega), hq]; simp only [hc]; rfl
  rw [hp]
  clear hp hc
  have hn0 := par_whole hq (hasP_ix.1 hh)
  generalize Ch.spc s (whS k) = t at *
  generalize whS k = wk at *
  have f8 : decide (k ≤ 8) = false := by simp; omega
  have f9 : (k == 9) = false := by simp; omega
  have f24 : decide (k < 24) = true := by simp; omega
  have f11 : decide (11 ≤ k) = true := by simp; omega
  have hcn := Dc.par_ok hq
  have HP : Hid _ := fun W => Dc.parse_r t W (by unfold maxLen; omega)
  unfold Dc.PaP at HP
  rw [hq] at HP
  have HPT : Hid _ := fun W => point_r t W hst
  rw [hh] at HPT
  have HWI : Hid _ := fun (W : World) (v : Value) (hv : Dc.NmR W v n) => within_r k h0 h1 hv hn0
  rw [hw] at HWI
  clear hn0 hw
  clear hq hst hk
  go_enter Tryz.func22, Tryz.ntmps22
  go_upto_region 14 with (first | (go_at_call 35; refine Calls.mono (hI _) ?_; rintro e w' ⟨rfl, hw1⟩; have hw2 := hw1.symm; clear hw1; subst hw2) | (go_at_call 18; refine Calls.mono (hwk _) ?_; rintro e w' ⟨rfl, hw1⟩; have hw2 := hw1.symm; clear hw1; subst hw2) | (go_at_call 39; refine Calls.mono (hsp _) ?_; rintro e w1 ⟨rfl, hb1⟩; have HB1 : Hid _ := hb1; clear hb1) | (go_at_call 41; refine Calls.mono (HP.out _) ?_; intro e w2 hq; obtain ⟨hb2, rv, rfl, hbt⟩ := hq; obtain ⟨va, vc, rfl, _⟩ := hbt.form; have H2 : Hid _ := hb2; have HT : Hid (Dc.BtR w2 (.slice va n.2.1.length vc) n.2.1) := hbt; clear hb2 hbt) | (refine wpList_store_row rfl 43 _ _ rfl _ _ rfl rfl 43 _ (M.nw_heap _ _) (by kernel_rfl) rfl (by simp [Value.oneCell']) ?_; rw [alloc_setRow]))
  have hyV := M.nw_heap w2 (.cells #[.bool n.1, .slice va n.2.1.length vc, .int .i64 n.2.2] 43)
  have hbV : Below w2.heap.size w2 (w2.alloc (.cells #[.bool n.1, .slice va n.2.1.length vc, .int .i64 n.2.2] 43)) := (Below.refl _ _).alloc (Nat.le_refl _) _
  obtain ⟨V, hVV⟩ : ∃ X, w2.alloc (.cells #[.bool n.1, .slice va n.2.1.length vc, .int .i64 n.2.2] 43) = X := ⟨_, rfl⟩
  rw [hVV] at hyV hbV ⊢
  have hUV := H2.out.trans (hbV.mono H2.out.size)
  have hbt := HT.out.below hbV
  have HWV : Hid _ := HWI.out V _ ⟨hbt, hcn.1, hcn.2.2.1⟩
  have HVV : Hid _ := And.intro (HB1.out.trans (hUV.mono HB1.out.size)) (And.intro hbt hyV)
  clear hUV hbV hVV hbt
  have y0 : V.cell? ⟨w2.heap.size, 0, none⟩ = some (.bool n.1) := row_cell hyV
  have y1 : V.cell? ⟨w2.heap.size, 1, none⟩ = some (.slice va n.2.1.length vc) := row_cell hyV
  have y2 : V.cell? ⟨w2.heap.size, 2, none⟩ = some (.int .i64 n.2.2) := row_cell hyV
  go_upto_region 15 with (first | (go_at_call 42; refine Calls.mono (HPT.out _) ?_; rintro e w' ⟨rfl, hw1⟩; have hw2 := hw1.symm; clear hw1; subst hw2) | (refine wpList_load_row rfl 43 _ rfl w2.heap.size rfl 43 _ (0, 0) _ hyV Tryz.underlying43 rfl (by kernel_rfl) ?_) | (go_at_call 43; refine Calls.mono HWV.out ?_; rintro e w3 ⟨rfl, hb3⟩; have H3 : Hid _ := hb3; clear hb3))
  clear y0 y1 y2
  have hbt := HVV.out.2.1.below H3.out
  have hy3 := (H3.out.block _ (Dc.lt_of HVV.out.2.2)).trans HVV.out.2.2
  have HR : Hid _ := rat (w := w) (cs0 := #[.int .i64 0, .string ⟨#[]⟩, .bool false, .slice none 0 0, .int .i64 0, .int .i64 0, .int .i64 0, .int .i64 0, .int .i64 0, .int .i64 0, .int .i64 0, .bool false, .int .i64 0, .int .i64 0, .int .i64 0, .int .i64 0]) (HVV.out.1.trans (H3.out.mono HVV.out.1.size))
  have hS := HR.out.1
  have HF : Hid _ := rfin HR.out.1 HR.out.2 #[.int .i64 0, .string ⟨#[]⟩, .bool false, .slice none 0 0, .int .i64 0, .int .i64 0, .int .i64 0, .int .i64 0, .int .i64 0, .int .i64 0, .int .i64 0, .bool false, .int .i64 0, .int .i64 0, .int .i64 0, .int .i64 0]
  clear hbt
  go_wp2_with (first | (refine wpList_load_row rfl 43 _ rfl w2.heap.size rfl 43 _ (0, 0) _ hy3 Tryz.underlying43 rfl (by kernel_rfl) ?_) | (refine wpList_store_row rfl 47 _ _ rfl w.heap.size _ rfl rfl 47 _ hS (by kernel_rfl) rfl (by simp [Value.oneCell']) ?_))
  exact bodyPost_ret (v := .tuple #[vlV 0 ⟨#[]⟩ false (.slice none 0 0) 0 z0 sp0, .int .i64 2]) (by refine (res2r (X := w.heap.size) Tryz.results22 ?_ HF.out.1 rfl).trans ?_ <;> rfl) rfl (psa_none HF.out.2)
/-- Parse of the second telling, of every kind that there is. -/
theorem rparse_a (k : Int) (s : ByteArray) (w : World) (hk : isK k = true) (hs : s.size ≤ 100000) : Calls Tryz.prog 22 #[.int .i64 k, .string s] w (PsA (psS k s) w) := by
  have hk' := isK_iff.1 hk
  by_cases h8 : k ≤ 8
  · exact rparse_t k s w hs hk'.1 h8
  by_cases h9 : k = 9
  · subst h9; exact rparse_b s w hs
  by_cases h23 : k ≤ 23
  · cases hq : Dc.parS (Dc.bl (Ch.spc s (whS k))) with
    | error x => exact rparse_de k s w hs (by omega) h23 hq
    | ok n =>
      by_cases h10 : k = 10
      · exact rparse_d10 k s w hs (by omega) (by omega) hq
      · cases hh : hasP (Dc.bl (Ch.spc s (whS k))) with
        | true => exact rparse_dp k s w hs (by omega) h23 hq hh
        | false =>
          cases hw : wiB k (Dc.nv n 0) with
          | true => exact rparse_dw k s w hs (by omega) h23 hq hh hw
          | false => exact rparse_dn k s w hs (by omega) h23 hq hh hw
  by_cases h32 : k = 32
  · subst h32
    cases hq : Dt.prP (Dt.bl (Ch.spc s (whS 32))) with
    | some q => exact rparse_st q s w hs hq
    | none => exact rparse_sf s w hs hq
  cases hq : Dt.prM (k - 24 + 1) (Dt.bl (Ch.spc s (whS k))) with
  | some m => exact rparse_mt k (by omega) (by omega) m s w hs hq
  | none => exact rparse_mf k (by omega) (by omega) s w hs hq
end Go.Proofs.YtgaegajcejpmdaaGreatDoor
namespace Go.Proofs.YtgaegajcejpmdaaGreatDoor
open Go.RowKit
set_option linter.unusedVariables false
set_option linter.unusedSimpArgs false

theorem ps_txt {k : Int} {s : ByteArray} (h1 : k ≤ 8) : psS k s = if nmdB k (Ch.bl (Ch.spc s (whS k))) = true then some (.txt 1 (Ch.spc s (whS k))) else none := by
  unfold psS rdS
  rw [if_pos h1]
theorem up_txt {k b : Int} {s : ByteArray} {d : Kd} (h1 : k ≤ 8) (hb1 : b ≤ 8) (hn : ∀ l, whS b ≠ whS k ∨ nmdB k l = true → nmdB b l = true) (h : psS k s = some d) : ∃ d', psS b s = some d' ∧ d'.pr = d.pr := by
  rw [ps_txt h1] at h
  rw [ps_txt hb1]
  by_cases hk : nmdB k (Ch.bl (Ch.spc s (whS k))) = true
  · rw [if_pos hk] at h
    cases h
    have : nmdB b (Ch.bl (Ch.spc s (whS b))) = true := by
      by_cases hw : whS b = whS k
      · rw [hw]; exact hn _ (.inr hk)
      · exact hn _ (.inl hw)
    rw [if_pos this]
    exact ⟨_, rfl, rfl⟩
  · rw [if_neg hk] at h
    cases h
theorem up_num {k b : Int} {s : ByteArray} {d : Kd} (h0 : 11 ≤ k) (h1 : k ≤ 23) (hb0 : 10 ≤ b) (hb1 : b ≤ 23) (hn : ∀ v, wiB k v = true → b = 10 ∨ wiB b v = true) (h : psS k s = some d) : ∃ d', psS b s = some d' ∧ d'.pr = d.pr := by
  rw [ps_num (by omega) h1, wh3 (by omega) (by omega)] at h
  rw [ps_num hb0 hb1, wh3 (by omega) (by omega)]
  cases hq : Dc.parS (Dc.bl (Ch.spc s 3)) with
  | error x => rw [hq] at h; cases h
  | ok n =>
    rw [hq] at h
    dsimp only at h ⊢
    by_cases hc : cntB k (Dc.bl (Ch.spc s 3)) n = true
    · rw [if_pos hc] at h
      cases h
      have : cntB b (Dc.bl (Ch.spc s 3)) n = true := by
        unfold cntB at hc ⊢
        rw [if_neg (by omega)] at hc
        by_cases h10 : b = 10
        · rw [if_pos h10]
        · rw [if_neg h10]
          by_cases hix : Dc.ix (Dc.bl (Ch.spc s 3)) = -1
          · rw [if_pos hix] at hc ⊢
            exact (hn _ hc).resolve_left h10
          · rw [if_neg hix] at hc
            cases hc
      rw [if_pos this]
      exact ⟨_, rfl, rfl⟩
    · rw [if_neg hc] at h
      cases h
theorem ps_up {k : Int} {s : ByteArray} {d : Kd} (hk : isK k = true) (h : psS k s = some d) (hb : bsS k ≠ 0) : isK (bsS k) = true ∧ (bsS k).toNat < k.toNat ∧ ∃ d', psS (bsS k) s = some d' ∧ d'.pr = d.pr := by
  have hk' := isK_iff.1 hk
  rcases (by omega : k = 1 ∨ k = 2 ∨ k = 3 ∨ k = 4 ∨ k = 5 ∨ k = 6 ∨ k = 7 ∨ k = 8 ∨ k = 9 ∨ k = 10 ∨ k = 11 ∨ k = 12 ∨ k = 13 ∨ k = 14 ∨ k = 15 ∨ k = 16 ∨ k = 17 ∨ k = 18 ∨ k = 19 ∨ k = 20 ∨ k = 21 ∨ k = 22 ∨ k = 23 ∨ 24 ≤ k) with rfl | rfl | rfl | rfl | rfl | rfl | rfl | rfl | rfl | rfl | rfl | rfl | rfl | rfl | rfl | rfl | rfl | rfl | rfl | rfl | rfl | rfl | rfl | h24
  · exact absurd rfl hb
  · exact ⟨rfl, by decide, up_txt (by omega) (by decide) (fun l _ => by simp [nmdB, bsS, bsL, isK]) h⟩
  · exact ⟨rfl, by decide, up_txt (by omega) (by decide) (fun l _ => by simp [nmdB, bsS, bsL, isK]) h⟩
  · exact ⟨rfl, by decide, up_txt (by omega) (by decide) (fun l _ => by simp [nmdB, bsS, bsL, isK]) h⟩
  · exact ⟨rfl, by decide, up_txt (by omega) (by decide) (fun l _ => by simp [nmdB, bsS, bsL, isK]) h⟩
  · refine ⟨rfl, by decide, up_txt (b := 5) (by omega) (by decide) (fun l q => ?_) h⟩
    have q2 : nmdB 6 l = true := q.resolve_left (by decide)
    have q3 : Ch.ncB l = true := by simpa [nmdB] using q2
    unfold Ch.ncB at q3
    have q4 : Ch.nameB l = true := by
      cases hh : Ch.nameB l with
      | true => rfl
      | false => rw [hh] at q3; cases q3
    simpa [nmdB] using q4
  · refine ⟨rfl, by decide, up_txt (b := 6) (by omega) (by decide) (fun l q => ?_) h⟩
    have q2 : nmdB 7 l = true := q.resolve_left (by decide)
    simpa [nmdB] using q2
  · refine ⟨rfl, by decide, up_txt (b := 6) (by omega) (by decide) (fun l q => ?_) h⟩
    have q2 : nmdB 8 l = true := q.resolve_left (by decide)
    simpa [nmdB] using q2
  · exact absurd rfl hb
  · exact absurd rfl hb
  · exact ⟨rfl, by decide, up_num (b := 10) (by omega) (by omega) (by omega) (by omega) (fun v q => .inl rfl) h⟩
  · exact ⟨rfl, by decide, up_num (b := 11) (by omega) (by omega) (by omega) (by omega) (fun v q => .inr (by simp [wiB])) h⟩
  · exact ⟨rfl, by decide, up_num (b := 12) (by omega) (by omega) (by omega) (by omega) (fun v q => .inr (by simp [wiB] at q ⊢; omega)) h⟩
  · exact ⟨rfl, by decide, up_num (b := 11) (by omega) (by omega) (by omega) (by omega) (fun v q => .inr (by simp [wiB])) h⟩
  · exact ⟨rfl, by decide, up_num (b := 14) (by omega) (by omega) (by omega) (by omega) (fun v q => .inr (by simp [wiB] at q ⊢; omega)) h⟩
  · exact ⟨rfl, by decide, up_num (b := 11) (by omega) (by omega) (by omega) (by omega) (fun v q => .inr (by simp [wiB])) h⟩
  · exact ⟨rfl, by decide, up_num (b := 16) (by omega) (by omega) (by omega) (by omega) (fun v q => .inr (by simp [wiB] at q ⊢; omega)) h⟩
  · exact ⟨rfl, by decide, up_num (b := 17) (by omega) (by omega) (by omega) (by omega) (fun v q => .inr (by simp [wiB] at q ⊢; omega)) h⟩
  · exact ⟨rfl, by decide, up_num (b := 18) (by omega) (by omega) (by omega) (by omega) (fun v q => .inr (by simp [wiB] at q ⊢; omega)) h⟩
  · exact ⟨rfl, by decide, up_num (b := 14) (by omega) (by omega) (by omega) (by omega) (fun v q => .inr (by simp [wiB] at q ⊢; omega)) h⟩
  · exact ⟨rfl, by decide, up_num (b := 20) (by omega) (by omega) (by omega) (by omega) (fun v q => .inr (by simp [wiB] at q ⊢; omega)) h⟩
  · exact ⟨rfl, by decide, up_num (b := 21) (by omega) (by omega) (by omega) (by omega) (fun v q => .inr (by simp [wiB] at q ⊢; omega)) h⟩
  · exact ⟨rfl, by decide, up_num (b := 22) (by omega) (by omega) (by omega) (by omega) (fun v q => .inr (by simp [wiB] at q ⊢; omega)) h⟩
  · exfalso
    apply hb
    rcases (by omega : k = 24 ∨ k = 25 ∨ k = 26 ∨ k = 27 ∨ k = 28 ∨ k = 29 ∨ k = 30 ∨ k = 31 ∨ k = 32) with rfl | rfl | rfl | rfl | rfl | rfl | rfl | rfl | rfl <;> rfl
end Go.Proofs.YtgaegajcejpmdaaGreatDoor
namespace Go.Proofs.YtgaegajcejpmdaaGreatDoor
open Go.RowKit
set_option linter.unusedVariables false
set_option linter.unusedSimpArgs false

set_option maxRecDepth 100000 in
set_option maxHeartbeats 3200000 in
theorem rparse_bad (k : Int) (s : ByteArray) (w : World) (hk : isK k = false) : Calls Tryz.prog 22 #[.int .i64 k, .string s] w fun e w' => e = .returned (.tuple #[vlV 0 ⟨#[]⟩ false (.slice none 0 0) 0 z0 sp0, .int .i64 1]) ∧ Below w.heap.size w w' := by
  have hI : ∀ W, Calls Tryz.prog 35 #[.int .i64 k] W fun e w' => e = .returned (.bool false) ∧ w' = W := fun W => by have := is_k k W; rw [hk] at this; exact this
  have HR : Hid _ := rat (w := w) (cs0 := #[.int .i64 0, .string ⟨#[]⟩, .bool false, .slice none 0 0, .int .i64 0, .int .i64 0, .int .i64 0, .int .i64 0, .int .i64 0, .int .i64 0, .int .i64 0, .bool false, .int .i64 0, .int .i64 0, .int .i64 0, .int .i64 0]) (Below.refl _ _)
  have HF : Hid _ := rfin HR.out.1 HR.out.2 #[.int .i64 0, .string ⟨#[]⟩, .bool false, .slice none 0 0, .int .i64 0, .int .i64 0, .int .i64 0, .int .i64 0, .int .i64 0, .int .i64 0, .int .i64 0, .bool false, .int .i64 0, .int .i64 0, .int .i64 0, .int .i64 0]
  have hS := HR.out.1
  go_enter Tryz.func22, Tryz.ntmps22
  go_wp2_with (first | (go_at_call 35; refine Calls.mono (hI _) ?_; rintro e w' ⟨rfl, hw1⟩; have hw2 := hw1.symm; clear hw1; subst hw2) | (refine wpList_store_row rfl 47 _ _ rfl w.heap.size _ rfl rfl 47 _ hS (by kernel_rfl) rfl (by simp [Value.oneCell']) ?_))
  exact bodyPost_ret (v := .tuple #[vlV 0 ⟨#[]⟩ false (.slice none 0 0) 0 z0 sp0, .int .i64 1]) (by refine (res2r (X := w.heap.size) Tryz.results22 ?_ HF.out.1 rfl).trans ?_ <;> rfl) rfl ⟨rfl, HF.out.2⟩
/-- What both Parses answer where there is no value. -/
def PzP (e0 : Int) (w : World) (e : Ending) (w' : World) : Prop := e = .returned (.tuple #[vlV 0 ⟨#[]⟩ false (.slice none 0 0) 0 z0 sp0, .int .i64 e0]) ∧ Below w.heap.size w w'
set_option maxRecDepth 100000 in
set_option maxHeartbeats 6400000 in
theorem texts_z (k e0 : Int) (s : ByteArray) (w : World) (hw : Lw w) (hs : s.size ≤ 400) (he : (e0 != 0) = true) (hP : ∀ W, Lw W → Calls Tryz.prog 21 #[.int .i64 k, .string s] W (PzP e0 W)) (hR : ∀ W, Lw W → Calls Tryz.prog 22 #[.int .i64 k, .string s] W (PzP e0 W)) : Calls Tryz.prog 4 #[.int .i64 k, .string s] w fun e w' => e = .returned (.bool true) ∧ Below w.heap.size w w' := by
  have HP : Hid _ := And.intro hP hR
  clear hP hR
  go_enter Tryz.func4, Tryz.ntmps4
  go_upto_region 6 with (first | (go_at_call 8; refine Calls.mono (known_l _ hw) ?_; rintro e w1 ⟨rfl, hb1⟩; have HB1 : Hid _ := hb1; clear hb1) | (go_at_call 21; refine Calls.mono (HP.out.1 _ (hw.below HB1.out)) ?_; rintro e w2 ⟨rfl, hb2⟩; have HB2 : Hid _ := HB1.out.trans (hb2.mono HB1.out.size); clear hb2) | (refine wpList_store_row rfl 40 _ _ rfl _ _ rfl rfl 40 _ (nw_heap _ _) (by kernel_rfl) rfl (by simp [Value.oneCell']) ?_; rw [alloc_setRow]))
  have hxU := nw_heap w2 (.cells #[.int .i64 0, .string ⟨#[]⟩, .bool false, .slice none 0 0, .int .i64 0, .int .i64 0, .int .i64 0, .int .i64 0, .int .i64 0, .int .i64 0, .int .i64 0, .bool false, .int .i64 0, .int .i64 0, .int .i64 0, .int .i64 0] 40)
  have hbU := (Below.refl w2.heap.size w2).alloc (Nat.le_refl _) (.cells #[.int .i64 0, .string ⟨#[]⟩, .bool false, .slice none 0 0, .int .i64 0, .int .i64 0, .int .i64 0, .int .i64 0, .int .i64 0, .int .i64 0, .int .i64 0, .bool false, .int .i64 0, .int .i64 0, .int .i64 0, .int .i64 0] 40)
  obtain ⟨U, hUU⟩ : ∃ X, w2.alloc (.cells #[.int .i64 0, .string ⟨#[]⟩, .bool false, .slice none 0 0, .int .i64 0, .int .i64 0, .int .i64 0, .int .i64 0, .int .i64 0, .int .i64 0, .int .i64 0, .bool false, .int .i64 0, .int .i64 0, .int .i64 0, .int .i64 0] 40) = X := ⟨_, rfl⟩
  rw [hUU] at hxU hbU ⊢
  have HU : Hid _ := And.intro (HB2.out.trans (hbU.mono HB2.out.size)) hxU
  clear hxU hbU hUU HB2 HB1
  generalize w2.heap.size = X at *
  clear w2
  go_upto_region 7 with (first | (go_at_call 22; refine Calls.mono (HP.out.2 _ (hw.below HU.out.1)) ?_; rintro e w3 ⟨rfl, hb3⟩; have HB3 : Hid _ := hb3; clear hb3) | (refine wpList_store_row rfl 47 _ _ rfl _ _ rfl rfl 47 _ (nw_heap _ _) (by kernel_rfl) rfl (by simp [Value.oneCell']) ?_; rw [alloc_setRow]))
  have hy := nw_heap w3 (.cells #[.int .i64 0, .string ⟨#[]⟩, .bool false, .slice none 0 0, .int .i64 0, .int .i64 0, .int .i64 0, .int .i64 0, .int .i64 0, .int .i64 0, .int .i64 0, .bool false, .int .i64 0, .int .i64 0, .int .i64 0, .int .i64 0] 47)
  have hbV := (Below.refl w3.heap.size w3).alloc (Nat.le_refl _) (.cells #[.int .i64 0, .string ⟨#[]⟩, .bool false, .slice none 0 0, .int .i64 0, .int .i64 0, .int .i64 0, .int .i64 0, .int .i64 0, .int .i64 0, .int .i64 0, .bool false, .int .i64 0, .int .i64 0, .int .i64 0, .int .i64 0] 47)
  obtain ⟨V, hVV⟩ : ∃ X, w3.alloc (.cells #[.int .i64 0, .string ⟨#[]⟩, .bool false, .slice none 0 0, .int .i64 0, .int .i64 0, .int .i64 0, .int .i64 0, .int .i64 0, .int .i64 0, .int .i64 0, .bool false, .int .i64 0, .int .i64 0, .int .i64 0, .int .i64 0] 47) = X := ⟨_, rfl⟩
  rw [hVV] at hy hbV ⊢
  have hUV := HB3.out.trans (hbV.mono HB3.out.size)
  have hx := (hUV.block _ (Dc.lt_of HU.out.2)).trans HU.out.2
  have HV : Hid _ := HU.out.1.trans (hUV.mono HU.out.1.size)
  clear hbV hVV HB3 HU hUV
  generalize w3.heap.size = Y at *
  clear w3
  go_wp2_with (first | (refine wpList_load_row rfl 40 _ rfl X rfl 40 _ (0, 0) _ hx Tryz.underlying40 rfl (by kernel_rfl) ?_) | (refine wpList_load_row rfl 47 _ rfl Y rfl 47 _ (0, 0) _ hy Tryz.underlying47 rfl (by kernel_rfl) ?_) | (go_at_call 23; refine Calls.mono (like_l (p := 0) (s := 0) (t := ⟨#[]⟩) (g := false) (m := z0) (q := sp0) btr0 btr0) ?_; rintro e w9 ⟨rfl, hb9⟩; have H9 : Hid _ := HV.out.trans (hb9.mono HV.out.size); clear hb9))
  go_ret
  exact ⟨rfl, H9.out⟩
set_option maxRecDepth 100000 in
set_option maxHeartbeats 12800000 in
theorem texts_s (k : Int) (s : ByteArray) (w : World) (hw : Lw w) (hs : s.size ≤ 400) {d : Kd} (hk : isK k = true) (hd : psS k s = some d) : Calls Tryz.prog 4 #[.int .i64 k, .string s] w fun e w' => e = .returned (.bool true) ∧ Below w.heap.size w w' := by
  have ok := ps_ok hk hd
  have HP : Hid _ := fun W (hW : Lw W) => parse_a k s W hk (by omega) hW
  have HR : Hid _ := fun W => rparse_a k s W hk (by omega)
  rw [hd] at HP HR
  have HD : Hid _ := And.intro hk (And.intro hd ok)
  clear hk hd ok
  go_enter Tryz.func4, Tryz.ntmps4
  go_upto_region 6 with (first | (go_at_call 8; refine Calls.mono (known_l _ hw) ?_; rintro e w1 ⟨rfl, hb1⟩; have HB1 : Hid _ := hb1; clear hb1) | (go_at_call 21; refine Calls.mono (HP.out _ (hw.below HB1.out)) ?_; rintro e w2 ⟨hb2, v, rfl, a1, c1, rfl, hbt⟩; have HB2 : Hid _ := HB1.out.trans (hb2.mono HB1.out.size); have HT1 : Hid (Dc.BtR w2 (.slice a1 d.nm.2.1.length c1) d.nm.2.1) := hbt; clear hb2 hbt) | (refine wpList_store_row rfl 40 _ _ rfl _ _ rfl rfl 40 _ (nw_heap _ _) (by kernel_rfl) rfl (by simp [Value.oneCell']) ?_; rw [alloc_setRow]))
  have hxU := nw_heap w2 (.cells #[.int .i64 d.pr, .string d.tx, .bool d.nm.1, .slice a1 d.nm.2.1.length c1, .int .i64 d.nm.2.2, .int .i64 d.mo.k, .int .i64 d.mo.y, .int .i64 d.mo.m, .int .i64 d.mo.d, .int .i64 d.mo.s, .int .i64 d.mo.n, .bool d.mo.hz, .int .i64 d.mo.z, .int .i64 d.sp.o, .int .i64 d.sp.s, .int .i64 d.sp.n] 40)
  have hbU := (Below.refl w2.heap.size w2).alloc (Nat.le_refl _) (.cells #[.int .i64 d.pr, .string d.tx, .bool d.nm.1, .slice a1 d.nm.2.1.length c1, .int .i64 d.nm.2.2, .int .i64 d.mo.k, .int .i64 d.mo.y, .int .i64 d.mo.m, .int .i64 d.mo.d, .int .i64 d.mo.s, .int .i64 d.mo.n, .bool d.mo.hz, .int .i64 d.mo.z, .int .i64 d.sp.o, .int .i64 d.sp.s, .int .i64 d.sp.n] 40)
  obtain ⟨U, hUU⟩ : ∃ X, w2.alloc (.cells #[.int .i64 d.pr, .string d.tx, .bool d.nm.1, .slice a1 d.nm.2.1.length c1, .int .i64 d.nm.2.2, .int .i64 d.mo.k, .int .i64 d.mo.y, .int .i64 d.mo.m, .int .i64 d.mo.d, .int .i64 d.mo.s, .int .i64 d.mo.n, .bool d.mo.hz, .int .i64 d.mo.z, .int .i64 d.sp.o, .int .i64 d.sp.s, .int .i64 d.sp.n] 40) = X := ⟨_, rfl⟩
  rw [hUU] at hxU hbU ⊢
  have HU : Hid _ := And.intro (HB2.out.trans (hbU.mono HB2.out.size)) (And.intro hxU (HT1.out.below hbU))
  clear hxU hbU hUU HB2 HB1 HT1
  generalize w2.heap.size = X at *
  clear w2
  go_upto_region 7 with (first | (go_at_call 22; refine Calls.mono (HR.out _) ?_; rintro e w3 ⟨hb3, v, rfl, a2, c2, rfl, hbt⟩; have HB3 : Hid _ := hb3; have HT2 : Hid (Dc.BtR w3 (.slice a2 d.nm.2.1.length c2) d.nm.2.1) := hbt; clear hb3 hbt) | (refine wpList_store_row rfl 47 _ _ rfl _ _ rfl rfl 47 _ (nw_heap _ _) (by kernel_rfl) rfl (by simp [Value.oneCell']) ?_; rw [alloc_setRow]))
  have hyV := nw_heap w3 (.cells #[.int .i64 d.pr, .string d.tx, .bool d.nm.1, .slice a2 d.nm.2.1.length c2, .int .i64 d.nm.2.2, .int .i64 d.mo.k, .int .i64 d.mo.y, .int .i64 d.mo.m, .int .i64 d.mo.d, .int .i64 d.mo.s, .int .i64 d.mo.n, .bool d.mo.hz, .int .i64 d.mo.z, .int .i64 d.sp.o, .int .i64 d.sp.s, .int .i64 d.sp.n] 47)
  have hbV := (Below.refl w3.heap.size w3).alloc (Nat.le_refl _) (.cells #[.int .i64 d.pr, .string d.tx, .bool d.nm.1, .slice a2 d.nm.2.1.length c2, .int .i64 d.nm.2.2, .int .i64 d.mo.k, .int .i64 d.mo.y, .int .i64 d.mo.m, .int .i64 d.mo.d, .int .i64 d.mo.s, .int .i64 d.mo.n, .bool d.mo.hz, .int .i64 d.mo.z, .int .i64 d.sp.o, .int .i64 d.sp.s, .int .i64 d.sp.n] 47)
  obtain ⟨V, hVV⟩ : ∃ X, w3.alloc (.cells #[.int .i64 d.pr, .string d.tx, .bool d.nm.1, .slice a2 d.nm.2.1.length c2, .int .i64 d.nm.2.2, .int .i64 d.mo.k, .int .i64 d.mo.y, .int .i64 d.mo.m, .int .i64 d.mo.d, .int .i64 d.mo.s, .int .i64 d.mo.n, .bool d.mo.hz, .int .i64 d.mo.z, .int .i64 d.sp.o, .int .i64 d.sp.s, .int .i64 d.sp.n] 47) = X := ⟨_, rfl⟩
  rw [hVV] at hyV hbV ⊢
  have hUV := HB3.out.trans (hbV.mono HB3.out.size)
  have HV : Hid _ := And.intro (HU.out.1.trans (hUV.mono HU.out.1.size)) (And.intro ((hUV.block _ (Dc.lt_of HU.out.2.1)).trans HU.out.2.1) (And.intro hyV (And.intro (HU.out.2.2.below hUV) (HT2.out.below hbV))))
  clear hyV hbV hVV HB3 HU hUV HT2
  generalize w3.heap.size = Y at *
  clear w3
  have hx := HV.out.2.1
  have hy := HV.out.2.2.1
  go_upto_region 9 with (first | (refine wpList_load_row rfl 40 _ rfl X rfl 40 _ (0, 0) _ hx Tryz.underlying40 rfl (by kernel_rfl) ?_) | (refine wpList_load_row rfl 47 _ rfl Y rfl 47 _ (0, 0) _ hy Tryz.underlying47 rfl (by kernel_rfl) ?_) | (go_at_call 23; refine Calls.mono (like_l HV.out.2.2.2.1 HV.out.2.2.2.2) ?_; rintro e w9 ⟨rfl, hb9⟩; have H9 : Hid _ := hb9; clear hb9))
  have HK : Hid (∀ W, Below V.heap.size V W → _ ∧ _) := fun W hW => And.intro ((hW.block _ (Dc.lt_of HV.out.2.1)).trans HV.out.2.1) ((hW.block _ (Dc.lt_of HV.out.2.2.1)).trans HV.out.2.2.1)
  clear hx hy
  go_upto_region 12 with (go_at_call 13; refine Calls.mono (base_k _ _) ?_; rintro e w' ⟨rfl, hw1⟩; have hw2 := hw1.symm; clear hw1; subst hw2)
  go_loopg [9] (bsS k).toNat (fun q v9 wr => ∃ b : Int, v9 = .int .i64 b ∧ b.toNat = q ∧ Below V.heap.size V wr ∧ (b = 0 ∨ (isK b = true ∧ ∃ d', psS b s = some d' ∧ d'.pr = d.pr)))
  case atStart =>
    refine ⟨bsS k, rfl, rfl, H9.out, ?_⟩
    by_cases h0 : bsS k = 0
    · exact .inl h0
    · have := ps_up HD.out.1 HD.out.2.1 h0
      exact .inr ⟨this.1, this.2.2⟩
  case round =>
    obtain ⟨b, rfl, hbq, hbel, hb⟩ := hrel
    by_cases h0 : b = 0
    · have HB0 : Hid _ := hbel
      clear hbel hb hbq
      subst h0
      have HB : Hid (Below V.heap.size V wr.drew) := HB0.out.trans ((Dc.Below.drewN' 1).mono HB0.out.size)
      have v1 : Hid _ := fun W (hW : Below V.heap.size V W) => (⟨a1, c1, rfl, HV.out.2.2.2.1.below hW⟩ : VlA W (vlV d.pr d.tx d.nm.1 (.slice a1 d.nm.2.1.length c1) d.nm.2.2 d.mo d.sp) d)
      have v2 : Hid _ := fun W (hW : Below V.heap.size V W) => (⟨a2, c2, rfl, HV.out.2.2.2.2.below hW⟩ : VlA W (vlV d.pr d.tx d.nm.1 (.slice a2 d.nm.2.1.length c2) d.nm.2.2 d.mo d.sp) d)
      have HS : Hid _ := fun W (hW : Below V.heap.size V W) => same_self (v1.out W hW) (v1.out W hW) HD.out.2.2
      have HT1 : Hid _ := fun W (hW : Below V.heap.size V W) => text_a ((hw.below HV.out.1).below hW) (v1.out W hW) HD.out.2.2
      have HT2 : Hid _ := fun W (hW : Below V.heap.size V W) => rtext_a (v2.out W hW) HD.out.2.2
      obtain ⟨y, hy0⟩ : ∃ y, txK d = y := ⟨_, rfl⟩
      rw [hy0] at HT1 HT2
      clear hy0 v1 v2
      obtain ⟨hx, hy⟩ := HK.out _ HB.out
      go_upto_region 17 with fail
      refine wp_region_held_drew (S := fun W => W.heap[X]? = some (.cells [.int .i64 d.pr, .string d.tx, .bool d.nm.1, .slice a1 d.nm.2.1.length c1, .int .i64 d.nm.2.2, .int .i64 d.mo.k, .int .i64 d.mo.y, .int .i64 d.mo.m, .int .i64 d.mo.d, .int .i64 d.mo.s, .int .i64 d.mo.n, .bool d.mo.hz, .int .i64 d.mo.z, .int .i64 d.sp.o, .int .i64 d.sp.s, .int .i64 d.sp.n].toArray 40 (0, 0)) ∧ W.heap[Y]? = some (.cells [.int .i64 d.pr, .string d.tx, .bool d.nm.1, .slice a2 d.nm.2.1.length c2, .int .i64 d.nm.2.2, .int .i64 d.mo.k, .int .i64 d.mo.y, .int .i64 d.mo.m, .int .i64 d.mo.d, .int .i64 d.mo.s, .int .i64 d.mo.n, .bool d.mo.hz, .int .i64 d.mo.z, .int .i64 d.sp.o, .int .i64 d.sp.s, .int .i64 d.sp.n].toArray 47 (0, 0))) (by kernel_rfl) ⟨hx, hy⟩ (fun hHeld => ?_)
      refine wpAnyH_take (i := 0) (v := (.agg #[.int .i64 d.pr, .string d.tx, .bool d.nm.1, .slice a1 d.nm.2.1.length c1, .int .i64 d.nm.2.2, .int .i64 d.mo.k, .int .i64 d.mo.y, .int .i64 d.mo.m, .int .i64 d.mo.d, .int .i64 d.mo.s, .int .i64 d.mo.n, .bool d.mo.hz, .int .i64 d.mo.z, .int .i64 d.sp.o, .int .i64 d.sp.s, .int .i64 d.sp.n])) rfl (by kernel_rfl) (by kernel_rfl) (by kernel_rfl) (fun _ _ _ h => h) (yieldsIf_load_mid (by kernel_rfl) 40 _ rfl X 0 rfl [.int .i64 d.pr, .string d.tx, .bool d.nm.1, .slice a1 d.nm.2.1.length c1, .int .i64 d.nm.2.2, .int .i64 d.mo.k, .int .i64 d.mo.y, .int .i64 d.mo.m, .int .i64 d.mo.d, .int .i64 d.mo.s, .int .i64 d.mo.n, .bool d.mo.hz, .int .i64 d.mo.z, .int .i64 d.sp.o, .int .i64 d.sp.s, .int .i64 d.sp.n] _ (fun W hW => rng0 hW.1) Tryz.underlying40 rfl (by kernel_rfl)) (by assumption) ?_
      try simp only [Act.put, List.getElem_toArray, List.getElem_cons_zero, List.getElem_cons_succ, List.setIfInBounds_toArray, List.set_cons_zero, List.set_cons_succ]
      refine wpAnyH_take (i := 2) (v := (.agg #[.int .i64 d.pr, .string d.tx, .bool d.nm.1, .slice a2 d.nm.2.1.length c2, .int .i64 d.nm.2.2, .int .i64 d.mo.k, .int .i64 d.mo.y, .int .i64 d.mo.m, .int .i64 d.mo.d, .int .i64 d.mo.s, .int .i64 d.mo.n, .bool d.mo.hz, .int .i64 d.mo.z, .int .i64 d.sp.o, .int .i64 d.sp.s, .int .i64 d.sp.n])) rfl (by kernel_rfl) (by kernel_rfl) (by kernel_rfl) (fun _ _ _ h => h) (yieldsIf_load_mid (by kernel_rfl) 47 _ rfl Y 0 rfl [.int .i64 d.pr, .string d.tx, .bool d.nm.1, .slice a2 d.nm.2.1.length c2, .int .i64 d.nm.2.2, .int .i64 d.mo.k, .int .i64 d.mo.y, .int .i64 d.mo.m, .int .i64 d.mo.d, .int .i64 d.mo.s, .int .i64 d.mo.n, .bool d.mo.hz, .int .i64 d.mo.z, .int .i64 d.sp.o, .int .i64 d.sp.s, .int .i64 d.sp.n] _ (fun W hW => rng0 hW.2) Tryz.underlying47 rfl (by kernel_rfl)) (by assumption) ?_
      try simp only [Act.put, List.getElem_toArray, List.getElem_cons_zero, List.getElem_cons_succ, List.setIfInBounds_toArray, List.set_cons_zero, List.set_cons_succ]
      refine wpAnyH_ready (rs := [1]) (by kernel_rfl) (by simp) ?_
      refine AllReadyH.cons rfl (fun K hK => ?_) AllReadyH.nil
      go_simp
      refine Calls.mono (HT1.out _ HB.out) ?_
      rintro e w9 ⟨rfl, hb9⟩
      have hbb := HB.out.trans (hb9.mono HB.out.size)
      have hS9 := HK.out _ hbb
      clear HB hHeld
      have HB : Hid _ := hbb
      clear hbb hb9
      go_wp2_with fail
      refine hK.out _ _ hS9 (fun hHeld => ?_)
      clear hK K hS9
      try simp only [Act.put, List.getElem_toArray, List.getElem_cons_zero, List.getElem_cons_succ, List.setIfInBounds_toArray, List.set_cons_zero, List.set_cons_succ]
      refine wpAnyH_ready (rs := [3]) (by kernel_rfl) (by simp) ?_
      refine AllReadyH.cons rfl (fun K hK => ?_) AllReadyH.nil
      go_simp
      refine Calls.mono (HT2.out _ HB.out) ?_
      rintro e w9 ⟨rfl, hb9⟩
      have hbb := HB.out.trans (hb9.mono HB.out.size)
      have hS9 := HK.out _ hbb
      clear HB hHeld
      have HB : Hid _ := hbb
      clear hbb hb9
      go_wp2_with fail
      refine hK.out _ _ hS9 (fun hHeld => ?_)
      clear hK K hS9
      try simp only [Act.put, List.getElem_toArray, List.getElem_cons_zero, List.getElem_cons_succ, List.setIfInBounds_toArray, List.set_cons_zero, List.set_cons_succ]
      refine wpAnyH_take (i := 4) (v := (.bool true)) rfl (by kernel_rfl) (by kernel_rfl) (by kernel_rfl) (fun _ _ _ h => h) (Or.inl ⟨by kernel_rfl, fun w' hSw => (by go_simp)⟩) (by assumption) ?_
      try simp only [Act.put, List.getElem_toArray, List.getElem_cons_zero, List.getElem_cons_succ, List.setIfInBounds_toArray, List.set_cons_zero, List.set_cons_succ]
      refine wpAnyH_take (i := 5) (v := (.bool true)) rfl (by kernel_rfl) (by kernel_rfl) (by kernel_rfl) (fun _ _ _ h => h) (Or.inl ⟨by kernel_rfl, fun w' hSw => (by go_simp)⟩) (by assumption) ?_
      try simp only [Act.put, List.getElem_toArray, List.getElem_cons_zero, List.getElem_cons_succ, List.setIfInBounds_toArray, List.set_cons_zero, List.set_cons_succ]
      refine wpAnyH_take (i := 6) (v := (.agg #[.int .i64 d.pr, .string d.tx, .bool d.nm.1, .slice a1 d.nm.2.1.length c1, .int .i64 d.nm.2.2, .int .i64 d.mo.k, .int .i64 d.mo.y, .int .i64 d.mo.m, .int .i64 d.mo.d, .int .i64 d.mo.s, .int .i64 d.mo.n, .bool d.mo.hz, .int .i64 d.mo.z, .int .i64 d.sp.o, .int .i64 d.sp.s, .int .i64 d.sp.n])) rfl (by kernel_rfl) (by kernel_rfl) (by kernel_rfl) (fun _ _ _ h => h) (yieldsIf_load_mid (by kernel_rfl) 40 _ rfl X 0 rfl [.int .i64 d.pr, .string d.tx, .bool d.nm.1, .slice a1 d.nm.2.1.length c1, .int .i64 d.nm.2.2, .int .i64 d.mo.k, .int .i64 d.mo.y, .int .i64 d.mo.m, .int .i64 d.mo.d, .int .i64 d.mo.s, .int .i64 d.mo.n, .bool d.mo.hz, .int .i64 d.mo.z, .int .i64 d.sp.o, .int .i64 d.sp.s, .int .i64 d.sp.n] _ (fun W hW => rng0 hW.1) Tryz.underlying40 rfl (by kernel_rfl)) (by assumption) ?_
      try simp only [Act.put, List.getElem_toArray, List.getElem_cons_zero, List.getElem_cons_succ, List.setIfInBounds_toArray, List.set_cons_zero, List.set_cons_succ]
      refine wpAnyH_take (i := 7) (v := (.agg #[.int .i64 d.pr, .string d.tx, .bool d.nm.1, .slice a1 d.nm.2.1.length c1, .int .i64 d.nm.2.2, .int .i64 d.mo.k, .int .i64 d.mo.y, .int .i64 d.mo.m, .int .i64 d.mo.d, .int .i64 d.mo.s, .int .i64 d.mo.n, .bool d.mo.hz, .int .i64 d.mo.z, .int .i64 d.sp.o, .int .i64 d.sp.s, .int .i64 d.sp.n])) rfl (by kernel_rfl) (by kernel_rfl) (by kernel_rfl) (fun _ _ _ h => h) (yieldsIf_load_mid (by kernel_rfl) 40 _ rfl X 0 rfl [.int .i64 d.pr, .string d.tx, .bool d.nm.1, .slice a1 d.nm.2.1.length c1, .int .i64 d.nm.2.2, .int .i64 d.mo.k, .int .i64 d.mo.y, .int .i64 d.mo.m, .int .i64 d.mo.d, .int .i64 d.mo.s, .int .i64 d.mo.n, .bool d.mo.hz, .int .i64 d.mo.z, .int .i64 d.sp.o, .int .i64 d.sp.s, .int .i64 d.sp.n] _ (fun W hW => rng0 hW.1) Tryz.underlying40 rfl (by kernel_rfl)) (by assumption) ?_
      try simp only [Act.put, List.getElem_toArray, List.getElem_cons_zero, List.getElem_cons_succ, List.setIfInBounds_toArray, List.set_cons_zero, List.set_cons_succ]
      refine wpAnyH_ready (rs := [8]) (by kernel_rfl) (by simp) ?_
      refine AllReadyH.cons rfl (fun K hK => ?_) AllReadyH.nil
      go_simp
      refine Calls.mono (HS.out _ HB.out) ?_
      rintro e w9 ⟨rfl, hb9⟩
      have hbb := HB.out.trans (hb9.mono HB.out.size)
      have hS9 := HK.out _ hbb
      clear HB hHeld
      have HB : Hid _ := hbb
      clear hbb hb9
      go_wp2_with fail
      refine hK.out _ _ hS9 (fun hHeld => ?_)
      clear hK K hS9
      try simp only [Act.put, List.getElem_toArray, List.getElem_cons_zero, List.getElem_cons_succ, List.setIfInBounds_toArray, List.set_cons_zero, List.set_cons_succ]
      refine wpAnyH_take (i := 9) (v := (.bool true)) rfl (by kernel_rfl) (by kernel_rfl) (by kernel_rfl) (fun _ _ _ h => h) (Or.inl ⟨by kernel_rfl, fun w' hSw => (by go_simp)⟩) (by assumption) ?_
      try simp only [Act.put, List.getElem_toArray, List.getElem_cons_zero, List.getElem_cons_succ, List.setIfInBounds_toArray, List.set_cons_zero, List.set_cons_succ]
      refine wpAnyH_take (i := 10) (v := (.bool true)) rfl (by kernel_rfl) (by kernel_rfl) (by kernel_rfl) (fun _ _ _ h => h) (Or.inl ⟨by kernel_rfl, fun w' hSw => (by go_simp)⟩) (by assumption) ?_
      try simp only [Act.put, List.getElem_toArray, List.getElem_cons_zero, List.getElem_cons_succ, List.setIfInBounds_toArray, List.set_cons_zero, List.set_cons_succ]
      refine wpAnyH_done (by kernel_rfl) ?_ _
      clear hHeld
      go_wp2_with fail
      go_ret
      exact ⟨rfl, HV.out.1.trans (HB.out.mono HV.out.1.size)⟩
    · obtain ⟨hkb, d', hpd, hpr⟩ := hb.resolve_left h0
      have hup : bsS b ≠ 0 → isK (bsS b) = true ∧ (bsS b).toNat < b.toNat ∧ ∃ d'', psS (bsS b) s = some d'' ∧ d''.pr = d'.pr := fun q => ps_up hkb hpd q
      have h0b : (b != 0) = true := by simpa using h0
      have hpos : 0 < b.toNat := by have := isK_iff.1 hkb; omega
      have HPB : Hid _ := fun W (hW : Lw W) => parse_a b s W hkb (by omega) hW
      rw [hpd] at HPB
      have HQ : Hid _ := And.intro hbel (And.intro hup (And.intro hpr (And.intro hbq hpos)))
      clear hbel hb hbq h0 hkb hpd hup hpos hpr
      go_upto_region 15 with (first | (go_at_call 21; refine Calls.mono (HPB.out _ ((hw.below HV.out.1).below HQ.out.1)) ?_; rintro e w4 ⟨hb4, v, rfl, a3, c3, rfl, hbt⟩; have HB4 : Hid _ := hb4; clear hb4 hbt) | (refine wpList_store_row rfl 40 _ _ rfl _ _ rfl rfl 40 _ (nw_heap _ _) (by kernel_rfl) rfl (by simp [Value.oneCell']) ?_; rw [alloc_setRow]))
      have hzU := nw_heap w4 (.cells #[.int .i64 d'.pr, .string d'.tx, .bool d'.nm.1, .slice a3 d'.nm.2.1.length c3, .int .i64 d'.nm.2.2, .int .i64 d'.mo.k, .int .i64 d'.mo.y, .int .i64 d'.mo.m, .int .i64 d'.mo.d, .int .i64 d'.mo.s, .int .i64 d'.mo.n, .bool d'.mo.hz, .int .i64 d'.mo.z, .int .i64 d'.sp.o, .int .i64 d'.sp.s, .int .i64 d'.sp.n] 40)
      have hbU := (Below.refl w4.heap.size w4).alloc (Nat.le_refl _) (.cells #[.int .i64 d'.pr, .string d'.tx, .bool d'.nm.1, .slice a3 d'.nm.2.1.length c3, .int .i64 d'.nm.2.2, .int .i64 d'.mo.k, .int .i64 d'.mo.y, .int .i64 d'.mo.m, .int .i64 d'.mo.d, .int .i64 d'.mo.s, .int .i64 d'.mo.n, .bool d'.mo.hz, .int .i64 d'.mo.z, .int .i64 d'.sp.o, .int .i64 d'.sp.s, .int .i64 d'.sp.n] 40)
      obtain ⟨Q, hQQ⟩ : ∃ X, w4.alloc (.cells #[.int .i64 d'.pr, .string d'.tx, .bool d'.nm.1, .slice a3 d'.nm.2.1.length c3, .int .i64 d'.nm.2.2, .int .i64 d'.mo.k, .int .i64 d'.mo.y, .int .i64 d'.mo.m, .int .i64 d'.mo.d, .int .i64 d'.mo.s, .int .i64 d'.mo.n, .bool d'.mo.hz, .int .i64 d'.mo.z, .int .i64 d'.sp.o, .int .i64 d'.sp.s, .int .i64 d'.sp.n] 40) = X := ⟨_, rfl⟩
      rw [hQQ] at hzU hbU ⊢
      have hb5 := HB4.out.trans (hbU.mono HB4.out.size)
      have HQB : Hid (Below V.heap.size V Q) := HQ.out.1.trans (hb5.mono HQ.out.1.size)
      have z0' : Q.cell? ⟨w4.heap.size, 0, none⟩ = some (.int .i64 d.pr) := by rw [← HQ.out.2.2.1]; exact row_cell hzU
      have x0' : Q.cell? ⟨X, 0, none⟩ = some (.int .i64 d.pr) := row_cell (HK.out _ HQB.out).1
      clear hzU hbU hQQ hb5 HB4
      generalize w4.heap.size = N4 at *
      go_wp2_with (go_at_call 13; refine Calls.mono (base_k _ _) ?_; rintro e w' ⟨rfl, hw1⟩; have hw2 := hw1.symm; clear hw1; subst hw2)
      go_roundg (bsS b).toNat
      case measure =>
        have := HQ.out.2.2.2.1
        have := HQ.out.2.2.2.2
        by_cases h1 : bsS b = 0
        · rw [h1]; simp; omega
        · have := (HQ.out.2.1 h1).2.1
          omega
      case rel =>
        refine ⟨bsS b, rfl, rfl, HQB.out, ?_⟩
        by_cases h1 : bsS b = 0
        · exact .inl h1
        · obtain ⟨q1, _, d'', q2, q3⟩ := HQ.out.2.1 h1
          exact .inr ⟨q1, d'', q2, q3.trans HQ.out.2.2.1⟩
theorem texts_all (k : Int) (s : ByteArray) (w : World) (hw : Lw w) : Calls Tryz.prog 4 #[.int .i64 k, .string s] w fun e w' => e = .returned (.bool true) ∧ Below w.heap.size w w' := by
  by_cases hs : 400 < s.size
  · have b1 : (400 : Int) < (s.size : Int) := by omega
    go_enter Tryz.func4, Tryz.ntmps4
    go_wp2_with (go_at_call 8; refine Calls.mono (known_l _ hw) ?_; rintro e w1 ⟨rfl, hb1⟩; have HB1 : Hid _ := hb1; clear hb1)
    go_ret
    exact ⟨rfl, HB1.out⟩
  cases hk : isK k with
  | false => exact texts_z k 1 s w hw (by omega) rfl (fun W _ => parse_bad k s W hk) (fun W _ => rparse_bad k s W hk)
  | true =>
    cases hd : psS k s with
    | some d => exact texts_s k s w hw (by omega) hk hd
    | none =>
      refine texts_z k 2 s w hw (by omega) rfl (fun W hW => ?_) (fun W hW => ?_)
      · have := parse_a k s W hk (by omega) hW
        rw [hd] at this
        exact this.mono fun e w' q => ⟨q.2, q.1⟩
      · have := rparse_a k s W hk (by omega)
        rw [hd] at this
        exact this.mono fun e w' q => ⟨q.2, q.1⟩
end Go.Proofs.YtgaegajcejpmdaaGreatDoor
