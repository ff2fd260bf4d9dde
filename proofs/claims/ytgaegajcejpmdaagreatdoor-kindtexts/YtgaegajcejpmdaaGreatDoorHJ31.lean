/- Joined: HK48, HK49. -/
import Derived.Test.YtgaegajcejpmdaaGreatDoorHJ29
import Derived.Test.YtgaegajcejpmdaaGreatDoorHJ4
import Derived.Test.YtgaegajcejpmdaaGreatDoorHK42
import Derived.Deep.RegionHeld3
namespace Go.Proofs.YtgaegajcejpmdaaGreatDoor
open Go.RowKit
set_option linter.unusedVariables false
set_option linter.unusedSimpArgs false

theorem fields_own (l : List Int) (hl : l.length ≤ 10) (h0 : 0 < l.length) (hI : ∀ n ∈ l, I64 n) (W : World) (base : Nat) (v : Value) (ho : W.ownsRow base 3 1 v l.length (inV l)) :
    Calls Tryz.prog 48 #[v] W fun e w' => e = .returned (.string (flT l)) ∧ Below W.heap.size W w' := by
  obtain ⟨h1, h2⟩ := ho
  rcases h2 with ⟨_, h⟩ | ⟨g, cap, cur, rfl, h3, h4, h5, h6, h7, h8⟩
  · omega
  · have hown : W.ownsRow base 3 1 (.slice (some ⟨g, 0, none⟩) l.length cap) l.length (inV l) := ⟨h1, .inr ⟨g, cap, cur, rfl, h3, h4, h5, h6, h7, h8⟩⟩
    refine fields_r l g cap W hl hI (M.lt_of h4) (fun j hj => ?_)
    have := World.ownsRow.cells (g := g) hown rfl j (.int .i64 l[j]) (by simp [inV, hj])
    rw [Addr.add_lit, Nat.zero_add] at this
    exact this
theorem cells3 {W : World} {X : Nat} {a0 a1 a2 a3 a4 a5 a6 a7 a8 a9 a10 a11 a12 a13 a14 a15 : Value} {t : TypeId} (h : W.heap[X]? = some (.cells #[a0, a1, a2, a3, a4, a5, a6, a7, a8, a9, a10, a11, a12, a13, a14, a15] t (0, 0))) : W.cell? ⟨X, 13, none⟩ = some a13 ∧ W.cell? ⟨X, 14, none⟩ = some a14 ∧ W.cell? ⟨X, 15, none⟩ = some a15 := ⟨row_cell h, row_cell h, row_cell h⟩
set_option maxRecDepth 100000 in
set_option maxHeartbeats 6400000 in
theorem rtext_spn (t1 : ByteArray) (g1 : Bool) (a1 : Option Addr) (b1 c1 : Nat) (s1 : Int) (m1 : Dt.Mo) (q1 : Dt.Sp) {w : World} (l1 : Dt.SpT q1) : Calls Tryz.prog 25 #[vlV 32 t1 g1 (.slice a1 b1 c1) s1 m1 q1] w fun e w' => e = .returned (.string (rowT 32 (spF q1))) ∧ Below w.heap.size w w' := by
  rw [row_fl]
  have HF : Hid _ := fields_own (spF q1) (by simp [spF]) (by simp [spF]) (sp_I l1)
  have HN : Hid _ := fun W hW => own_new W (spF q1) w.heap.size hW (by simp [spF])
  have hs1 := nm_size 32
  have hs2 : (flT (spF q1)).size ≤ 50000 := by
    have := fl_size (spF q1) (sp_I l1)
    have e : (spF q1).length = 3 := rfl
    rw [e] at this
    omega
  obtain ⟨nn, hnn⟩ : ∃ nn, nmS 32 = nn := ⟨_, rfl⟩
  rw [hnn] at hs1 ⊢
  clear l1
  go_enter Tryz.func25, Tryz.ntmps25
  go_upto_region 6 with fail
  have hx := M.nw_heap w (.cells #[.int .i64 32, .string t1, .bool g1, .slice a1 b1 c1, .int .i64 s1, .int .i64 m1.k, .int .i64 m1.y, .int .i64 m1.m, .int .i64 m1.d, .int .i64 m1.s, .int .i64 m1.n, .bool m1.hz, .int .i64 m1.z, .int .i64 q1.o, .int .i64 q1.s, .int .i64 q1.n] 47)
  have hb0 : Below w.heap.size w (w.alloc (.cells #[.int .i64 32, .string t1, .bool g1, .slice a1 b1 c1, .int .i64 s1, .int .i64 m1.k, .int .i64 m1.y, .int .i64 m1.m, .int .i64 m1.d, .int .i64 m1.s, .int .i64 m1.n, .bool m1.hz, .int .i64 m1.z, .int .i64 q1.o, .int .i64 q1.s, .int .i64 q1.n] 47)) := (Below.refl _ _).alloc (Nat.le_refl _) _
  obtain ⟨U, hU⟩ : ∃ U, w.alloc (.cells #[.int .i64 32, .string t1, .bool g1, .slice a1 b1 c1, .int .i64 s1, .int .i64 m1.k, .int .i64 m1.y, .int .i64 m1.m, .int .i64 m1.d, .int .i64 m1.s, .int .i64 m1.n, .bool m1.hz, .int .i64 m1.z, .int .i64 q1.o, .int .i64 q1.s, .int .i64 q1.n] 47) = U := ⟨_, rfl⟩
  rw [hU] at hx hb0 ⊢
  clear hU
  have HK : Hid _ := fun W (hW : Below U.heap.size U W) => cells3 ((hW.block _ (Dc.lt_of hx)).trans hx)
  have HU : Hid _ := hb0
  have HNM : Hid _ := fun W => name_r 32 W
  rw [hnn] at HNM
  have HB : Hid (Below U.heap.size U U.drew) := Dc.Below.drewN' 1
  have HBA : Hid (Below U.heap.size U (U.alloc (.cells #[.int .i64 q1.o, .int .i64 q1.s, .int .i64 q1.n] 3)).drew) := (bel1' (Below.refl U.heap.size U) _).drew
  have HOA : Hid ((U.alloc (.cells #[.int .i64 q1.o, .int .i64 q1.s, .int .i64 q1.n] 3)).drew.ownsRow w.heap.size 3 1 (.slice (some ⟨U.heap.size, 0, none⟩) 3 3) 3 (inV (spF q1))) := HN.out U HU.out.size _ rfl
  have hnot : ¬ (9223372036854775807 < nn.size + (flT (spF q1)).size) := by omega
  obtain ⟨y0, y1, y2⟩ := HK.out _ HB.out
  clear hb0 hx
  go_region_held3 (fun W => W.cell? ⟨w.heap.size, 13, none⟩ = some (.int .i64 q1.o) ∧ W.cell? ⟨w.heap.size, 14, none⟩ = some (.int .i64 q1.s) ∧ W.cell? ⟨w.heap.size, 15, none⟩ = some (.int .i64 q1.n)) (first | with_reducible exact HK.out _ HB.out | with_reducible exact HK.out _ (bel1' HB.out _) | with_reducible exact HK.out _ HBA.out | fail) (first
    | (go_at_call 12; (first | ((with_reducible refine Calls.mono (HNM.out U.drew) ?_); rintro e w9 ⟨rfl, hb9⟩; have hbb := HB.out.trans (hb9.mono HB.out.size); clear HB; have HB : Hid (Below U.heap.size U w9) := hbb; clear hbb hb9) | ((with_reducible refine Calls.mono (HNM.out (U.alloc (.cells #[.int .i64 q1.o, .int .i64 q1.s, .int .i64 q1.n] 3)).drew) ?_); rintro e w9 ⟨rfl, hb9⟩; have hbb := HBA.out.trans (hb9.mono HBA.out.size); have HO9 : Hid (w9.ownsRow w.heap.size 3 1 (.slice (some ⟨U.heap.size, 0, none⟩) 3 3) 3 (inV (spF q1))) := M.row_below HOA.out hb9; clear HB; have HB : Hid (Below U.heap.size U w9) := hbb; clear hbb hb9)))
    | (go_at_call 48; (first | (refine Calls.mono (HF.out _ _ _ HO9.out) ?_; rintro e w10 ⟨rfl, hb9⟩; have hbb := HB.out.trans (hb9.mono HB.out.size); clear HB; have HB : Hid (Below U.heap.size U w10) := hbb; clear hbb hb9) | (refine Calls.mono (HF.out _ _ _ (HN.out _ (HU.out.trans (HB.out.mono HU.out.size)).size _ rfl)) ?_; rintro e w10 ⟨rfl, hb9⟩; have hb8 := bel1' HB.out (.cells (inV (spF q1)).toArray 3); have hbb := hb8.trans (hb9.mono hb8.size); clear HB hb8; have HB : Hid (Below U.heap.size U w10) := hbb; clear hbb hb9)))
    | fail)
  all_goals
    go_wp2_with fail
    go_ret
    exact ⟨rfl, HU.out.trans (HB.out.mono HU.out.size)⟩
theorem cells8 {W : World} {X Y : Nat} {a0 a1 a2 a3 a4 a5 a6 a7 : Value} {l : List Value} {t t' : TypeId} (hx : W.heap[X]? = some (.cells (a0 :: l).toArray t (0, 0))) {b : Value} (hy : W.heap[Y]? = some (.cells #[b, a1, a2, a3, a4, a5, a6, a7] t' (0, 0))) : W.cell? ⟨X, 0, none⟩ = some a0 ∧ W.cell? ⟨Y, 1, none⟩ = some a1 ∧ W.cell? ⟨Y, 2, none⟩ = some a2 ∧ W.cell? ⟨Y, 3, none⟩ = some a3 ∧ W.cell? ⟨Y, 4, none⟩ = some a4 ∧ W.cell? ⟨Y, 5, none⟩ = some a5 := ⟨row_cell hx, row_cell hy, row_cell hy, row_cell hy, row_cell hy, row_cell hy⟩
theorem cells67 {W : World} {Y : Nat} {b a1 a2 a3 a4 a5 a6 a7 : Value} {t' : TypeId} (hy : W.heap[Y]? = some (.cells #[b, a1, a2, a3, a4, a5, a6, a7] t' (0, 0))) : W.cell? ⟨Y, 6, none⟩ = some a6 ∧ W.cell? ⟨Y, 7, none⟩ = some a7 := ⟨row_cell hy, row_cell hy⟩
set_option maxRecDepth 100000 in
set_option maxHeartbeats 1600000 in
theorem rtext_t (p : Int) (h : p = 1 ∨ p = 9) (t : ByteArray) (g : Bool) (a : Option Addr) (b c : Nat) (s : Int) (m : Dt.Mo) (q : Dt.Sp) (w : World) : Calls Tryz.prog 25 #[vlV p t g (.slice a b c) s m q] w fun e w' => e = .returned (.string t) ∧ Below w.heap.size w w' := by
  have hb : Below w.heap.size w (w.alloc (.cells #[.int .i64 p, .string t, .bool g, .slice a b c, .int .i64 s, .int .i64 m.k, .int .i64 m.y, .int .i64 m.m, .int .i64 m.d, .int .i64 m.s, .int .i64 m.n, .bool m.hz, .int .i64 m.z, .int .i64 q.o, .int .i64 q.s, .int .i64 q.n] 47)) := (Below.refl _ _).alloc (Nat.le_refl _) _
  rcases h with rfl | rfl
  all_goals
    have HB : Hid _ := hb
    clear hb
    go_enter Tryz.func25, Tryz.ntmps25
    go_wp2_with fail
    go_ret
    exact ⟨rfl, HB.out⟩
set_option maxRecDepth 100000 in
set_option maxHeartbeats 1600000 in
theorem rtext_n {w : World} {v : Value} {n : Dc.Nm} (tx : ByteArray) (m : Dt.Mo) (q : Dt.Sp) (h : Dc.NmR w v n) : Calls Tryz.prog 25 #[vlV 10 tx n.1 v n.2.2 m q] w fun e w' => e = .returned (.string (Dc.sb (Dc.txS n))) ∧ Below w.heap.size w w' := by
  obtain ⟨va, vc, rfl, _⟩ := h.bt.form
  have hbx := BX.new w 47 (vlL 10 tx n.1 (.slice va n.2.1.length vc) n.2.2 m q)
  have ht := fun W (hW : Below w.heap.size w W) => Dc.text_r (h.below hW)
  have HT : Hid _ := And.intro ht hbx.bel
  clear ht h hbx
  go_enter Tryz.func25, Tryz.ntmps25
  go_wp2_with (go_at_call 47; refine Calls.mono (HT.out.1 _ HT.out.2) ?_; rintro e w9 ⟨rfl, hb9⟩)
  go_ret
  exact ⟨rfl, HT.out.2.trans (hb9.mono HT.out.2.size)⟩
set_option maxRecDepth 100000 in
set_option maxHeartbeats 6400000 in
theorem rtext_m24f (t1 : ByteArray) (g1 : Bool) (a1 : Option Addr) (b1 c1 : Nat) (s1 mk my mm md ms mn mz : Int) (q1 : Dt.Sp) {w : World} (hI : ∀ n ∈ [my, mm, md, ms, mn], I64 n) : Calls Tryz.prog 25 #[vlV 24 t1 g1 (.slice a1 b1 c1) s1 ⟨mk, my, mm, md, ms, mn, false, mz⟩ q1] w fun e w' => e = .returned (.string (rowT 24 [my, mm, md, ms, mn])) ∧ Below w.heap.size w w' := by
  have hI5 := hI
  rw [row_fl]
  have HF : Hid _ := fields_own [my, mm, md, ms, mn] (by simp) (by simp) hI5
  have HN : Hid _ := fun W hW => own_new W [my, mm, md, ms, mn] w.heap.size hW (by simp)
  have hs1 := nm_size 24
  have hs5 := fl_size [my, mm, md, ms, mn] hI5
  simp only [List.length_cons, List.length_nil] at hs5
  obtain ⟨nn, hnn⟩ : ∃ nn, nmS 24 = nn := ⟨_, rfl⟩
  obtain ⟨f5, hf5⟩ : ∃ nn, flT [my, mm, md, ms, mn] = nn := ⟨_, rfl⟩
  rw [hnn] at hs1
  rw [hf5] at hs5
  have HNM : Hid _ := fun W => name_r 24 W
  rw [hnn] at HNM
  rw [hf5] at HF
  rw [hnn, hf5]
  clear hI hI5 hnn hf5
  have hnot : ¬ (9223372036854775807 < nn.size + f5.size) := by omega
  obtain ⟨hx, hy, hb0⟩ := box_two w (.cells #[.int .i64 24, .string t1, .bool g1, .slice a1 b1 c1, .int .i64 s1, .int .i64 mk, .int .i64 my, .int .i64 mm, .int .i64 md, .int .i64 ms, .int .i64 mn, .bool false, .int .i64 mz, .int .i64 q1.o, .int .i64 q1.s, .int .i64 q1.n] 47) (.cells #[.int .i64 mk, .int .i64 my, .int .i64 mm, .int .i64 md, .int .i64 ms, .int .i64 mn, .bool false, .int .i64 mz] 44)
  go_enter Tryz.func25, Tryz.ntmps25
  obtain ⟨U, hU⟩ : ∃ U, (w.alloc (.cells #[.int .i64 24, .string t1, .bool g1, .slice a1 b1 c1, .int .i64 s1, .int .i64 mk, .int .i64 my, .int .i64 mm, .int .i64 md, .int .i64 ms, .int .i64 mn, .bool false, .int .i64 mz, .int .i64 q1.o, .int .i64 q1.s, .int .i64 q1.n] 47)).alloc (.cells #[.int .i64 mk, .int .i64 my, .int .i64 mm, .int .i64 md, .int .i64 ms, .int .i64 mn, .bool false, .int .i64 mz] 44) = U := ⟨_, rfl⟩
  rw [hU] at hx hy hb0
  go_upto_region 9 with fail
  try rw [hU]
  clear hU
  have HK : Hid _ := fun W (hW : Below U.heap.size U W) => cells8 ((hW.block _ (Dc.lt_of hx)).trans hx) ((hW.block _ (Dc.lt_of hy)).trans hy)
  have HK2 : Hid _ := fun W (hW : Below U.heap.size U W) => cells67 ((hW.block _ (Dc.lt_of hy)).trans hy)
  have HU : Hid _ := hb0
  have HB : Hid (Below U.heap.size U U.drew) := Dc.Below.drewN' 1
  have HBA : Hid (Below U.heap.size U (U.alloc (.cells #[.int .i64 my, .int .i64 mm, .int .i64 md, .int .i64 ms, .int .i64 mn] 3)).drew) := (bel1' (Below.refl U.heap.size U) _).drew
  have HOA : Hid ((U.alloc (.cells #[.int .i64 my, .int .i64 mm, .int .i64 md, .int .i64 ms, .int .i64 mn] 3)).drew.ownsRow w.heap.size 3 1 (.slice (some ⟨U.heap.size, 0, none⟩) 5 5) 5 (inV [my, mm, md, ms, mn])) := HN.out U HU.out.size _ rfl
  obtain ⟨y0, y1, y2, y3, y4, y5⟩ := HK.out _ HB.out
  clear hb0 hx hy
  go_region_held3 (fun W => W.cell? ⟨w.heap.size, 0, none⟩ = some (.int .i64 24) ∧ W.cell? ⟨w.heap.size + 1, 1, none⟩ = some (.int .i64 my) ∧ W.cell? ⟨w.heap.size + 1, 2, none⟩ = some (.int .i64 mm) ∧ W.cell? ⟨w.heap.size + 1, 3, none⟩ = some (.int .i64 md) ∧ W.cell? ⟨w.heap.size + 1, 4, none⟩ = some (.int .i64 ms) ∧ W.cell? ⟨w.heap.size + 1, 5, none⟩ = some (.int .i64 mn)) (first | with_reducible exact HK.out _ HB.out | with_reducible exact HK.out _ (bel1' HB.out _) | with_reducible exact HK.out _ HBA.out | fail) (first
    | (go_at_call 12; (first | ((with_reducible refine Calls.mono (HNM.out U.drew) ?_); rintro e w9 ⟨rfl, hb9⟩; have hbb := HB.out.trans (hb9.mono HB.out.size); clear HB; have HB : Hid (Below U.heap.size U w9) := hbb; clear hbb hb9) | ((with_reducible refine Calls.mono (HNM.out (U.alloc (.cells #[.int .i64 my, .int .i64 mm, .int .i64 md, .int .i64 ms, .int .i64 mn] 3)).drew) ?_); rintro e w9 ⟨rfl, hb9⟩; have hbb := HBA.out.trans (hb9.mono HBA.out.size); have HO9 : Hid (w9.ownsRow w.heap.size 3 1 (.slice (some ⟨U.heap.size, 0, none⟩) 5 5) 5 (inV [my, mm, md, ms, mn])) := M.row_below HOA.out hb9; clear HB; have HB : Hid (Below U.heap.size U w9) := hbb; clear hbb hb9)))
    | (go_at_call 48; (first | (refine Calls.mono (HF.out _ _ _ HO9.out) ?_; rintro e w10 ⟨rfl, hb9⟩; have hbb := HB.out.trans (hb9.mono HB.out.size); clear HB; have HB : Hid (Below U.heap.size U w10) := hbb; clear hbb hb9) | (refine Calls.mono (HF.out _ _ _ (HN.out _ (HU.out.trans (HB.out.mono HU.out.size)).size _ rfl)) ?_; rintro e w10 ⟨rfl, hb9⟩; have hb8 := bel1' HB.out (.cells (inV [my, mm, md, ms, mn]).toArray 3); have hbb := hb8.trans (hb9.mono hb8.size); clear HB hb8; have HB : Hid (Below U.heap.size U w10) := hbb; clear hbb hb9)))
    | fail)
  all_goals
    have hz67 := HK2.out _ HB.out
    obtain ⟨z6, z7⟩ := hz67
    go_wp2_with fail
    go_ret
    exact ⟨rfl, HU.out.trans (HB.out.mono HU.out.size)⟩
set_option maxRecDepth 100000 in
set_option maxHeartbeats 6400000 in
theorem rtext_m24t (t1 : ByteArray) (g1 : Bool) (a1 : Option Addr) (b1 c1 : Nat) (s1 mk my mm md ms mn mz : Int) (q1 : Dt.Sp) {w : World} (hI : ∀ n ∈ [my, mm, md, ms, mn, mz], I64 n) : Calls Tryz.prog 25 #[vlV 24 t1 g1 (.slice a1 b1 c1) s1 ⟨mk, my, mm, md, ms, mn, true, mz⟩ q1] w fun e w' => e = .returned (.string (rowT 24 [my, mm, md, ms, mn, mz])) ∧ Below w.heap.size w w' := by
  have hI5 : ∀ n ∈ [my, mm, md, ms, mn], I64 n := fun n hn => hI n (by simp only [List.mem_cons, List.not_mem_nil, or_false] at hn ⊢; rcases hn with h | h | h | h | h <;> simp [h])
  have hI1 : ∀ n ∈ [mz], I64 n := fun n hn => hI n (by simp only [List.mem_cons, List.not_mem_nil, or_false] at hn ⊢; simp [hn])
  have HE : Hid (rowT 24 [my, mm, md, ms, mn, mz] = nmS 24 ++ flT [my, mm, md, ms, mn] ++ flT [mz]) := by
    show _ = _
    rw [row_fl, show [my, mm, md, ms, mn, mz] = [my, mm, md, ms, mn] ++ [mz] from rfl, flT_app]
    apply ByteArray.ext
    simp
  rw [HE.out]
  have HF1 : Hid _ := fields_own [mz] (by simp) (by simp) hI1
  have HN1 : Hid _ := fun W hW => own_new W [mz] w.heap.size hW (by simp)
  have hsz := fl_size [mz] hI1
  have HF : Hid _ := fields_own [my, mm, md, ms, mn] (by simp) (by simp) hI5
  have HN : Hid _ := fun W hW => own_new W [my, mm, md, ms, mn] w.heap.size hW (by simp)
  have hs1 := nm_size 24
  have hs5 := fl_size [my, mm, md, ms, mn] hI5
  simp only [List.length_cons, List.length_nil] at hs5 hsz
  obtain ⟨nn, hnn⟩ : ∃ nn, nmS 24 = nn := ⟨_, rfl⟩
  obtain ⟨f5, hf5⟩ : ∃ nn, flT [my, mm, md, ms, mn] = nn := ⟨_, rfl⟩
  rw [hnn] at hs1
  rw [hf5] at hs5
  obtain ⟨fz, hfz⟩ : ∃ nn, flT [mz] = nn := ⟨_, rfl⟩
  rw [hfz] at hsz HF1 ⊢
  clear hfz
  have HNM : Hid _ := fun W => name_r 24 W
  rw [hnn] at HNM
  rw [hf5] at HF
  rw [hnn, hf5]
  clear hI hI5 hnn hf5
  have hnot : ¬ (9223372036854775807 < nn.size + f5.size) := by omega
  have hnot2 : ¬ (9223372036854775807 < nn.size + f5.size + fz.size) := by omega
  obtain ⟨hx, hy, hb0⟩ := box_two w (.cells #[.int .i64 24, .string t1, .bool g1, .slice a1 b1 c1, .int .i64 s1, .int .i64 mk, .int .i64 my, .int .i64 mm, .int .i64 md, .int .i64 ms, .int .i64 mn, .bool true, .int .i64 mz, .int .i64 q1.o, .int .i64 q1.s, .int .i64 q1.n] 47) (.cells #[.int .i64 mk, .int .i64 my, .int .i64 mm, .int .i64 md, .int .i64 ms, .int .i64 mn, .bool true, .int .i64 mz] 44)
  go_enter Tryz.func25, Tryz.ntmps25
  obtain ⟨U, hU⟩ : ∃ U, (w.alloc (.cells #[.int .i64 24, .string t1, .bool g1, .slice a1 b1 c1, .int .i64 s1, .int .i64 mk, .int .i64 my, .int .i64 mm, .int .i64 md, .int .i64 ms, .int .i64 mn, .bool true, .int .i64 mz, .int .i64 q1.o, .int .i64 q1.s, .int .i64 q1.n] 47)).alloc (.cells #[.int .i64 mk, .int .i64 my, .int .i64 mm, .int .i64 md, .int .i64 ms, .int .i64 mn, .bool true, .int .i64 mz] 44) = U := ⟨_, rfl⟩
  rw [hU] at hx hy hb0
  go_upto_region 9 with fail
  try rw [hU]
  clear hU
  have HK : Hid _ := fun W (hW : Below U.heap.size U W) => cells8 ((hW.block _ (Dc.lt_of hx)).trans hx) ((hW.block _ (Dc.lt_of hy)).trans hy)
  have HK2 : Hid _ := fun W (hW : Below U.heap.size U W) => cells67 ((hW.block _ (Dc.lt_of hy)).trans hy)
  have HU : Hid _ := hb0
  have HB : Hid (Below U.heap.size U U.drew) := Dc.Below.drewN' 1
  have HBA : Hid (Below U.heap.size U (U.alloc (.cells #[.int .i64 my, .int .i64 mm, .int .i64 md, .int .i64 ms, .int .i64 mn] 3)).drew) := (bel1' (Below.refl U.heap.size U) _).drew
  have HOA : Hid ((U.alloc (.cells #[.int .i64 my, .int .i64 mm, .int .i64 md, .int .i64 ms, .int .i64 mn] 3)).drew.ownsRow w.heap.size 3 1 (.slice (some ⟨U.heap.size, 0, none⟩) 5 5) 5 (inV [my, mm, md, ms, mn])) := HN.out U HU.out.size _ rfl
  obtain ⟨y0, y1, y2, y3, y4, y5⟩ := HK.out _ HB.out
  clear hb0 hx hy
  go_region_held3 (fun W => W.cell? ⟨w.heap.size, 0, none⟩ = some (.int .i64 24) ∧ W.cell? ⟨w.heap.size + 1, 1, none⟩ = some (.int .i64 my) ∧ W.cell? ⟨w.heap.size + 1, 2, none⟩ = some (.int .i64 mm) ∧ W.cell? ⟨w.heap.size + 1, 3, none⟩ = some (.int .i64 md) ∧ W.cell? ⟨w.heap.size + 1, 4, none⟩ = some (.int .i64 ms) ∧ W.cell? ⟨w.heap.size + 1, 5, none⟩ = some (.int .i64 mn)) (first | with_reducible exact HK.out _ HB.out | with_reducible exact HK.out _ (bel1' HB.out _) | with_reducible exact HK.out _ HBA.out | fail) (first
    | (go_at_call 12; (first | ((with_reducible refine Calls.mono (HNM.out U.drew) ?_); rintro e w9 ⟨rfl, hb9⟩; have hbb := HB.out.trans (hb9.mono HB.out.size); clear HB; have HB : Hid (Below U.heap.size U w9) := hbb; clear hbb hb9) | ((with_reducible refine Calls.mono (HNM.out (U.alloc (.cells #[.int .i64 my, .int .i64 mm, .int .i64 md, .int .i64 ms, .int .i64 mn] 3)).drew) ?_); rintro e w9 ⟨rfl, hb9⟩; have hbb := HBA.out.trans (hb9.mono HBA.out.size); have HO9 : Hid (w9.ownsRow w.heap.size 3 1 (.slice (some ⟨U.heap.size, 0, none⟩) 5 5) 5 (inV [my, mm, md, ms, mn])) := M.row_below HOA.out hb9; clear HB; have HB : Hid (Below U.heap.size U w9) := hbb; clear hbb hb9)))
    | (go_at_call 48; (first | (refine Calls.mono (HF.out _ _ _ HO9.out) ?_; rintro e w10 ⟨rfl, hb9⟩; have hbb := HB.out.trans (hb9.mono HB.out.size); clear HB; have HB : Hid (Below U.heap.size U w10) := hbb; clear hbb hb9) | (refine Calls.mono (HF.out _ _ _ (HN.out _ (HU.out.trans (HB.out.mono HU.out.size)).size _ rfl)) ?_; rintro e w10 ⟨rfl, hb9⟩; have hb8 := bel1' HB.out (.cells (inV [my, mm, md, ms, mn]).toArray 3); have hbb := hb8.trans (hb9.mono hb8.size); clear HB hb8; have HB : Hid (Below U.heap.size U w10) := hbb; clear hbb hb9)))
    | fail)
  all_goals
    have hz67 := HK2.out _ HB.out
    obtain ⟨z6, z7⟩ := hz67
    go_wp2_with (go_at_call 48; refine Calls.mono (HF1.out _ _ _ (HN1.out _ (HU.out.trans (HB.out.mono HU.out.size)).size _ rfl)) ?_; rintro e w11 ⟨rfl, hb9⟩; have hb8 := bel1' HB.out (.cells (inV [mz]).toArray 3); have hbb := hb8.trans (hb9.mono hb8.size); clear hb8; have HB11 : Hid (Below U.heap.size U w11) := hbb; clear hbb hb9)
    go_ret
    exact ⟨rfl, HU.out.trans (HB11.out.mono HU.out.size)⟩
set_option maxRecDepth 100000 in
set_option maxHeartbeats 6400000 in
theorem rtext_m25f (t1 : ByteArray) (g1 : Bool) (a1 : Option Addr) (b1 c1 : Nat) (s1 mk my mm md ms mn mz : Int) (q1 : Dt.Sp) {w : World} (hI : ∀ n ∈ [my, mm, md, ms, mn], I64 n) : Calls Tryz.prog 25 #[vlV 25 t1 g1 (.slice a1 b1 c1) s1 ⟨mk, my, mm, md, ms, mn, false, mz⟩ q1] w fun e w' => e = .returned (.string (rowT 25 [my, mm, md, ms, mn])) ∧ Below w.heap.size w w' := by
  have hI5 := hI
  rw [row_fl]
  have HF : Hid _ := fields_own [my, mm, md, ms, mn] (by simp) (by simp) hI5
  have HN : Hid _ := fun W hW => own_new W [my, mm, md, ms, mn] w.heap.size hW (by simp)
  have hs1 := nm_size 25
  have hs5 := fl_size [my, mm, md, ms, mn] hI5
  simp only [List.length_cons, List.length_nil] at hs5
  obtain ⟨nn, hnn⟩ : ∃ nn, nmS 25 = nn := ⟨_, rfl⟩
  obtain ⟨f5, hf5⟩ : ∃ nn, flT [my, mm, md, ms, mn] = nn := ⟨_, rfl⟩
  rw [hnn] at hs1
  rw [hf5] at hs5
  have HNM : Hid _ := fun W => name_r 25 W
  rw [hnn] at HNM
  rw [hf5] at HF
  rw [hnn, hf5]
  clear hI hI5 hnn hf5
  have hnot : ¬ (9223372036854775807 < nn.size + f5.size) := by omega
  obtain ⟨hx, hy, hb0⟩ := box_two w (.cells #[.int .i64 25, .string t1, .bool g1, .slice a1 b1 c1, .int .i64 s1, .int .i64 mk, .int .i64 my, .int .i64 mm, .int .i64 md, .int .i64 ms, .int .i64 mn, .bool false, .int .i64 mz, .int .i64 q1.o, .int .i64 q1.s, .int .i64 q1.n] 47) (.cells #[.int .i64 mk, .int .i64 my, .int .i64 mm, .int .i64 md, .int .i64 ms, .int .i64 mn, .bool false, .int .i64 mz] 44)
  go_enter Tryz.func25, Tryz.ntmps25
  obtain ⟨U, hU⟩ : ∃ U, (w.alloc (.cells #[.int .i64 25, .string t1, .bool g1, .slice a1 b1 c1, .int .i64 s1, .int .i64 mk, .int .i64 my, .int .i64 mm, .int .i64 md, .int .i64 ms, .int .i64 mn, .bool false, .int .i64 mz, .int .i64 q1.o, .int .i64 q1.s, .int .i64 q1.n] 47)).alloc (.cells #[.int .i64 mk, .int .i64 my, .int .i64 mm, .int .i64 md, .int .i64 ms, .int .i64 mn, .bool false, .int .i64 mz] 44) = U := ⟨_, rfl⟩
  rw [hU] at hx hy hb0
  go_upto_region 9 with fail
  try rw [hU]
  clear hU
  have HK : Hid _ := fun W (hW : Below U.heap.size U W) => cells8 ((hW.block _ (Dc.lt_of hx)).trans hx) ((hW.block _ (Dc.lt_of hy)).trans hy)
  have HK2 : Hid _ := fun W (hW : Below U.heap.size U W) => cells67 ((hW.block _ (Dc.lt_of hy)).trans hy)
  have HU : Hid _ := hb0
  have HB : Hid (Below U.heap.size U U.drew) := Dc.Below.drewN' 1
  have HBA : Hid (Below U.heap.size U (U.alloc (.cells #[.int .i64 my, .int .i64 mm, .int .i64 md, .int .i64 ms, .int .i64 mn] 3)).drew) := (bel1' (Below.refl U.heap.size U) _).drew
  have HOA : Hid ((U.alloc (.cells #[.int .i64 my, .int .i64 mm, .int .i64 md, .int .i64 ms, .int .i64 mn] 3)).drew.ownsRow w.heap.size 3 1 (.slice (some ⟨U.heap.size, 0, none⟩) 5 5) 5 (inV [my, mm, md, ms, mn])) := HN.out U HU.out.size _ rfl
  obtain ⟨y0, y1, y2, y3, y4, y5⟩ := HK.out _ HB.out
  clear hb0 hx hy
  go_region_held3 (fun W => W.cell? ⟨w.heap.size, 0, none⟩ = some (.int .i64 25) ∧ W.cell? ⟨w.heap.size + 1, 1, none⟩ = some (.int .i64 my) ∧ W.cell? ⟨w.heap.size + 1, 2, none⟩ = some (.int .i64 mm) ∧ W.cell? ⟨w.heap.size + 1, 3, none⟩ = some (.int .i64 md) ∧ W.cell? ⟨w.heap.size + 1, 4, none⟩ = some (.int .i64 ms) ∧ W.cell? ⟨w.heap.size + 1, 5, none⟩ = some (.int .i64 mn)) (first | with_reducible exact HK.out _ HB.out | with_reducible exact HK.out _ (bel1' HB.out _) | with_reducible exact HK.out _ HBA.out | fail) (first
    | (go_at_call 12; (first | ((with_reducible refine Calls.mono (HNM.out U.drew) ?_); rintro e w9 ⟨rfl, hb9⟩; have hbb := HB.out.trans (hb9.mono HB.out.size); clear HB; have HB : Hid (Below U.heap.size U w9) := hbb; clear hbb hb9) | ((with_reducible refine Calls.mono (HNM.out (U.alloc (.cells #[.int .i64 my, .int .i64 mm, .int .i64 md, .int .i64 ms, .int .i64 mn] 3)).drew) ?_); rintro e w9 ⟨rfl, hb9⟩; have hbb := HBA.out.trans (hb9.mono HBA.out.size); have HO9 : Hid (w9.ownsRow w.heap.size 3 1 (.slice (some ⟨U.heap.size, 0, none⟩) 5 5) 5 (inV [my, mm, md, ms, mn])) := M.row_below HOA.out hb9; clear HB; have HB : Hid (Below U.heap.size U w9) := hbb; clear hbb hb9)))
    | (go_at_call 48; (first | (refine Calls.mono (HF.out _ _ _ HO9.out) ?_; rintro e w10 ⟨rfl, hb9⟩; have hbb := HB.out.trans (hb9.mono HB.out.size); clear HB; have HB : Hid (Below U.heap.size U w10) := hbb; clear hbb hb9) | (refine Calls.mono (HF.out _ _ _ (HN.out _ (HU.out.trans (HB.out.mono HU.out.size)).size _ rfl)) ?_; rintro e w10 ⟨rfl, hb9⟩; have hb8 := bel1' HB.out (.cells (inV [my, mm, md, ms, mn]).toArray 3); have hbb := hb8.trans (hb9.mono hb8.size); clear HB hb8; have HB : Hid (Below U.heap.size U w10) := hbb; clear hbb hb9)))
    | fail)
  all_goals
    have hz67 := HK2.out _ HB.out
    obtain ⟨z6, z7⟩ := hz67
    go_wp2_with fail
    go_ret
    exact ⟨rfl, HU.out.trans (HB.out.mono HU.out.size)⟩
set_option maxRecDepth 100000 in
set_option maxHeartbeats 6400000 in
theorem rtext_m25t (t1 : ByteArray) (g1 : Bool) (a1 : Option Addr) (b1 c1 : Nat) (s1 mk my mm md ms mn mz : Int) (q1 : Dt.Sp) {w : World} (hI : ∀ n ∈ [my, mm, md, ms, mn, mz], I64 n) : Calls Tryz.prog 25 #[vlV 25 t1 g1 (.slice a1 b1 c1) s1 ⟨mk, my, mm, md, ms, mn, true, mz⟩ q1] w fun e w' => e = .returned (.string (rowT 25 [my, mm, md, ms, mn, mz])) ∧ Below w.heap.size w w' := by
  have hI5 : ∀ n ∈ [my, mm, md, ms, mn], I64 n := fun n hn => hI n (by simp only [List.mem_cons, List.not_mem_nil, or_false] at hn ⊢; rcases hn with h | h | h | h | h <;> simp [h])
  have hI1 : ∀ n ∈ [mz], I64 n := fun n hn => hI n (by simp only [List.mem_cons, List.not_mem_nil, or_false] at hn ⊢; simp [hn])
  have HE : Hid (rowT 25 [my, mm, md, ms, mn, mz] = nmS 25 ++ flT [my, mm, md, ms, mn] ++ flT [mz]) := by
    show _ = _
    rw [row_fl, show [my, mm, md, ms, mn, mz] = [my, mm, md, ms, mn] ++ [mz] from rfl, flT_app]
    apply ByteArray.ext
    simp
  rw [HE.out]
  have HF1 : Hid _ := fields_own [mz] (by simp) (by simp) hI1
  have HN1 : Hid _ := fun W hW => own_new W [mz] w.heap.size hW (by simp)
  have hsz := fl_size [mz] hI1
  have HF : Hid _ := fields_own [my, mm, md, ms, mn] (by simp) (by simp) hI5
  have HN : Hid _ := fun W hW => own_new W [my, mm, md, ms, mn] w.heap.size hW (by simp)
  have hs1 := nm_size 25
  have hs5 := fl_size [my, mm, md, ms, mn] hI5
  simp only [List.length_cons, List.length_nil] at hs5 hsz
  obtain ⟨nn, hnn⟩ : ∃ nn, nmS 25 = nn := ⟨_, rfl⟩
  obtain ⟨f5, hf5⟩ : ∃ nn, flT [my, mm, md, ms, mn] = nn := ⟨_, rfl⟩
  rw [hnn] at hs1
  rw [hf5] at hs5
  obtain ⟨fz, hfz⟩ : ∃ nn, flT [mz] = nn := ⟨_, rfl⟩
  rw [hfz] at hsz HF1 ⊢
  clear hfz
  have HNM : Hid _ := fun W => name_r 25 W
  rw [hnn] at HNM
  rw [hf5] at HF
  rw [hnn, hf5]
  clear hI hI5 hnn hf5
  have hnot : ¬ (9223372036854775807 < nn.size + f5.size) := by omega
  have hnot2 : ¬ (9223372036854775807 < nn.size + f5.size + fz.size) := by omega
  obtain ⟨hx, hy, hb0⟩ := box_two w (.cells #[.int .i64 25, .string t1, .bool g1, .slice a1 b1 c1, .int .i64 s1, .int .i64 mk, .int .i64 my, .int .i64 mm, .int .i64 md, .int .i64 ms, .int .i64 mn, .bool true, .int .i64 mz, .int .i64 q1.o, .int .i64 q1.s, .int .i64 q1.n] 47) (.cells #[.int .i64 mk, .int .i64 my, .int .i64 mm, .int .i64 md, .int .i64 ms, .int .i64 mn, .bool true, .int .i64 mz] 44)
  go_enter Tryz.func25, Tryz.ntmps25
  obtain ⟨U, hU⟩ : ∃ U, (w.alloc (.cells #[.int .i64 25, .string t1, .bool g1, .slice a1 b1 c1, .int .i64 s1, .int .i64 mk, .int .i64 my, .int .i64 mm, .int .i64 md, .int .i64 ms, .int .i64 mn, .bool true, .int .i64 mz, .int .i64 q1.o, .int .i64 q1.s, .int .i64 q1.n] 47)).alloc (.cells #[.int .i64 mk, .int .i64 my, .int .i64 mm, .int .i64 md, .int .i64 ms, .int .i64 mn, .bool true, .int .i64 mz] 44) = U := ⟨_, rfl⟩
  rw [hU] at hx hy hb0
  go_upto_region 9 with fail
  try rw [hU]
  clear hU
  have HK : Hid _ := fun W (hW : Below U.heap.size U W) => cells8 ((hW.block _ (Dc.lt_of hx)).trans hx) ((hW.block _ (Dc.lt_of hy)).trans hy)
  have HK2 : Hid _ := fun W (hW : Below U.heap.size U W) => cells67 ((hW.block _ (Dc.lt_of hy)).trans hy)
  have HU : Hid _ := hb0
  have HB : Hid (Below U.heap.size U U.drew) := Dc.Below.drewN' 1
  have HBA : Hid (Below U.heap.size U (U.alloc (.cells #[.int .i64 my, .int .i64 mm, .int .i64 md, .int .i64 ms, .int .i64 mn] 3)).drew) := (bel1' (Below.refl U.heap.size U) _).drew
  have HOA : Hid ((U.alloc (.cells #[.int .i64 my, .int .i64 mm, .int .i64 md, .int .i64 ms, .int .i64 mn] 3)).drew.ownsRow w.heap.size 3 1 (.slice (some ⟨U.heap.size, 0, none⟩) 5 5) 5 (inV [my, mm, md, ms, mn])) := HN.out U HU.out.size _ rfl
  obtain ⟨y0, y1, y2, y3, y4, y5⟩ := HK.out _ HB.out
  clear hb0 hx hy
  go_region_held3 (fun W => W.cell? ⟨w.heap.size, 0, none⟩ = some (.int .i64 25) ∧ W.cell? ⟨w.heap.size + 1, 1, none⟩ = some (.int .i64 my) ∧ W.cell? ⟨w.heap.size + 1, 2, none⟩ = some (.int .i64 mm) ∧ W.cell? ⟨w.heap.size + 1, 3, none⟩ = some (.int .i64 md) ∧ W.cell? ⟨w.heap.size + 1, 4, none⟩ = some (.int .i64 ms) ∧ W.cell? ⟨w.heap.size + 1, 5, none⟩ = some (.int .i64 mn)) (first | with_reducible exact HK.out _ HB.out | with_reducible exact HK.out _ (bel1' HB.out _) | with_reducible exact HK.out _ HBA.out | fail) (first
    | (go_at_call 12; (first | ((with_reducible refine Calls.mono (HNM.out U.drew) ?_); rintro e w9 ⟨rfl, hb9⟩; have hbb := HB.out.trans (hb9.mono HB.out.size); clear HB; have HB : Hid (Below U.heap.size U w9) := hbb; clear hbb hb9) | ((with_reducible refine Calls.mono (HNM.out (U.alloc (.cells #[.int .i64 my, .int .i64 mm, .int .i64 md, .int .i64 ms, .int .i64 mn] 3)).drew) ?_); rintro e w9 ⟨rfl, hb9⟩; have hbb := HBA.out.trans (hb9.mono HBA.out.size); have HO9 : Hid (w9.ownsRow w.heap.size 3 1 (.slice (some ⟨U.heap.size, 0, none⟩) 5 5) 5 (inV [my, mm, md, ms, mn])) := M.row_below HOA.out hb9; clear HB; have HB : Hid (Below U.heap.size U w9) := hbb; clear hbb hb9)))
    | (go_at_call 48; (first | (refine Calls.mono (HF.out _ _ _ HO9.out) ?_; rintro e w10 ⟨rfl, hb9⟩; have hbb := HB.out.trans (hb9.mono HB.out.size); clear HB; have HB : Hid (Below U.heap.size U w10) := hbb; clear hbb hb9) | (refine Calls.mono (HF.out _ _ _ (HN.out _ (HU.out.trans (HB.out.mono HU.out.size)).size _ rfl)) ?_; rintro e w10 ⟨rfl, hb9⟩; have hb8 := bel1' HB.out (.cells (inV [my, mm, md, ms, mn]).toArray 3); have hbb := hb8.trans (hb9.mono hb8.size); clear HB hb8; have HB : Hid (Below U.heap.size U w10) := hbb; clear hbb hb9)))
    | fail)
  all_goals
    have hz67 := HK2.out _ HB.out
    obtain ⟨z6, z7⟩ := hz67
    go_wp2_with (go_at_call 48; refine Calls.mono (HF1.out _ _ _ (HN1.out _ (HU.out.trans (HB.out.mono HU.out.size)).size _ rfl)) ?_; rintro e w11 ⟨rfl, hb9⟩; have hb8 := bel1' HB.out (.cells (inV [mz]).toArray 3); have hbb := hb8.trans (hb9.mono hb8.size); clear hb8; have HB11 : Hid (Below U.heap.size U w11) := hbb; clear hbb hb9)
    go_ret
    exact ⟨rfl, HU.out.trans (HB11.out.mono HU.out.size)⟩
set_option maxRecDepth 100000 in
set_option maxHeartbeats 6400000 in
theorem rtext_m26f (t1 : ByteArray) (g1 : Bool) (a1 : Option Addr) (b1 c1 : Nat) (s1 mk my mm md ms mn mz : Int) (q1 : Dt.Sp) {w : World} (hI : ∀ n ∈ [my, mm, md, ms, mn], I64 n) : Calls Tryz.prog 25 #[vlV 26 t1 g1 (.slice a1 b1 c1) s1 ⟨mk, my, mm, md, ms, mn, false, mz⟩ q1] w fun e w' => e = .returned (.string (rowT 26 [my, mm, md, ms, mn])) ∧ Below w.heap.size w w' := by
  have hI5 := hI
  rw [row_fl]
  have HF : Hid _ := fields_own [my, mm, md, ms, mn] (by simp) (by simp) hI5
  have HN : Hid _ := fun W hW => own_new W [my, mm, md, ms, mn] w.heap.size hW (by simp)
  have hs1 := nm_size 26
  have hs5 := fl_size [my, mm, md, ms, mn] hI5
  simp only [List.length_cons, List.length_nil] at hs5
  obtain ⟨nn, hnn⟩ : ∃ nn, nmS 26 = nn := ⟨_, rfl⟩
  obtain ⟨f5, hf5⟩ : ∃ nn, flT [my, mm, md, ms, mn] = nn := ⟨_, rfl⟩
  rw [hnn] at hs1
  rw [hf5] at hs5
  have HNM : Hid _ := fun W => name_r 26 W
  rw [hnn] at HNM
  rw [hf5] at HF
  rw [hnn, hf5]
  clear hI hI5 hnn hf5
  have hnot : ¬ (9223372036854775807 < nn.size + f5.size) := by omega
  obtain ⟨hx, hy, hb0⟩ := box_two w (.cells #[.int .i64 26, .string t1, .bool g1, .slice a1 b1 c1, .int .i64 s1, .int .i64 mk, .int .i64 my, .int .i64 mm, .int .i64 md, .int .i64 ms, .int .i64 mn, .bool false, .int .i64 mz, .int .i64 q1.o, .int .i64 q1.s, .int .i64 q1.n] 47) (.cells #[.int .i64 mk, .int .i64 my, .int .i64 mm, .int .i64 md, .int .i64 ms, .int .i64 mn, .bool false, .int .i64 mz] 44)
  go_enter Tryz.func25, Tryz.ntmps25
  obtain ⟨U, hU⟩ : ∃ U, (w.alloc (.cells #[.int .i64 26, .string t1, .bool g1, .slice a1 b1 c1, .int .i64 s1, .int .i64 mk, .int .i64 my, .int .i64 mm, .int .i64 md, .int .i64 ms, .int .i64 mn, .bool false, .int .i64 mz, .int .i64 q1.o, .int .i64 q1.s, .int .i64 q1.n] 47)).alloc (.cells #[.int .i64 mk, .int .i64 my, .int .i64 mm, .int .i64 md, .int .i64 ms, .int .i64 mn, .bool false, .int .i64 mz] 44) = U := ⟨_, rfl⟩
  rw [hU] at hx hy hb0
  go_upto_region 9 with fail
  try rw [hU]
  clear hU
  have HK : Hid _ := fun W (hW : Below U.heap.size U W) => cells8 ((hW.block _ (Dc.lt_of hx)).trans hx) ((hW.block _ (Dc.lt_of hy)).trans hy)
  have HK2 : Hid _ := fun W (hW : Below U.heap.size U W) => cells67 ((hW.block _ (Dc.lt_of hy)).trans hy)
  have HU : Hid _ := hb0
  have HB : Hid (Below U.heap.size U U.drew) := Dc.Below.drewN' 1
  have HBA : Hid (Below U.heap.size U (U.alloc (.cells #[.int .i64 my, .int .i64 mm, .int .i64 md, .int .i64 ms, .int .i64 mn] 3)).drew) := (bel1' (Below.refl U.heap.size U) _).drew
  have HOA : Hid ((U.alloc (.cells #[.int .i64 my, .int .i64 mm, .int .i64 md, .int .i64 ms, .int .i64 mn] 3)).drew.ownsRow w.heap.size 3 1 (.slice (some ⟨U.heap.size, 0, none⟩) 5 5) 5 (inV [my, mm, md, ms, mn])) := HN.out U HU.out.size _ rfl
  obtain ⟨y0, y1, y2, y3, y4, y5⟩ := HK.out _ HB.out
  clear hb0 hx hy
  go_region_held3 (fun W => W.cell? ⟨w.heap.size, 0, none⟩ = some (.int .i64 26) ∧ W.cell? ⟨w.heap.size + 1, 1, none⟩ = some (.int .i64 my) ∧ W.cell? ⟨w.heap.size + 1, 2, none⟩ = some (.int .i64 mm) ∧ W.cell? ⟨w.heap.size + 1, 3, none⟩ = some (.int .i64 md) ∧ W.cell? ⟨w.heap.size + 1, 4, none⟩ = some (.int .i64 ms) ∧ W.cell? ⟨w.heap.size + 1, 5, none⟩ = some (.int .i64 mn)) (first | with_reducible exact HK.out _ HB.out | with_reducible exact HK.out _ (bel1' HB.out _) | with_reducible exact HK.out _ HBA.out | fail) (first
    | (go_at_call 12; (first | ((with_reducible refine Calls.mono (HNM.out U.drew) ?_); rintro e w9 ⟨rfl, hb9⟩; have hbb := HB.out.trans (hb9.mono HB.out.size); clear HB; have HB : Hid (Below U.heap.size U w9) := hbb; clear hbb hb9) | ((with_reducible refine Calls.mono (HNM.out (U.alloc (.cells #[.int .i64 my, .int .i64 mm, .int .i64 md, .int .i64 ms, .int .i64 mn] 3)).drew) ?_); rintro e w9 ⟨rfl, hb9⟩; have hbb := HBA.out.trans (hb9.mono HBA.out.size); have HO9 : Hid (w9.ownsRow w.heap.size 3 1 (.slice (some ⟨U.heap.size, 0, none⟩) 5 5) 5 (inV [my, mm, md, ms, mn])) := M.row_below HOA.out hb9; clear HB; have HB : Hid (Below U.heap.size U w9) := hbb; clear hbb hb9)))
    | (go_at_call 48; (first | (refine Calls.mono (HF.out _ _ _ HO9.out) ?_; rintro e w10 ⟨rfl, hb9⟩; have hbb := HB.out.trans (hb9.mono HB.out.size); clear HB; have HB : Hid (Below U.heap.size U w10) := hbb; clear hbb hb9) | (refine Calls.mono (HF.out _ _ _ (HN.out _ (HU.out.trans (HB.out.mono HU.out.size)).size _ rfl)) ?_; rintro e w10 ⟨rfl, hb9⟩; have hb8 := bel1' HB.out (.cells (inV [my, mm, md, ms, mn]).toArray 3); have hbb := hb8.trans (hb9.mono hb8.size); clear HB hb8; have HB : Hid (Below U.heap.size U w10) := hbb; clear hbb hb9)))
    | fail)
  all_goals
    have hz67 := HK2.out _ HB.out
    obtain ⟨z6, z7⟩ := hz67
    go_wp2_with fail
    go_ret
    exact ⟨rfl, HU.out.trans (HB.out.mono HU.out.size)⟩
set_option maxRecDepth 100000 in
set_option maxHeartbeats 6400000 in
theorem rtext_m26t (t1 : ByteArray) (g1 : Bool) (a1 : Option Addr) (b1 c1 : Nat) (s1 mk my mm md ms mn mz : Int) (q1 : Dt.Sp) {w : World} (hI : ∀ n ∈ [my, mm, md, ms, mn, mz], I64 n) : Calls Tryz.prog 25 #[vlV 26 t1 g1 (.slice a1 b1 c1) s1 ⟨mk, my, mm, md, ms, mn, true, mz⟩ q1] w fun e w' => e = .returned (.string (rowT 26 [my, mm, md, ms, mn, mz])) ∧ Below w.heap.size w w' := by
  have hI5 : ∀ n ∈ [my, mm, md, ms, mn], I64 n := fun n hn => hI n (by simp only [List.mem_cons, List.not_mem_nil, or_false] at hn ⊢; rcases hn with h | h | h | h | h <;> simp [h])
  have hI1 : ∀ n ∈ [mz], I64 n := fun n hn => hI n (by simp only [List.mem_cons, List.not_mem_nil, or_false] at hn ⊢; simp [hn])
  have HE : Hid (rowT 26 [my, mm, md, ms, mn, mz] = nmS 26 ++ flT [my, mm, md, ms, mn] ++ flT [mz]) := by
    show _ = _
    rw [row_fl, show [my, mm, md, ms, mn, mz] = [my, mm, md, ms, mn] ++ [mz] from rfl, flT_app]
    apply ByteArray.ext
    simp
  rw [HE.out]
  have HF1 : Hid _ := fields_own [mz] (by simp) (by simp) hI1
  have HN1 : Hid _ := fun W hW => own_new W [mz] w.heap.size hW (by simp)
  have hsz := fl_size [mz] hI1
  have HF : Hid _ := fields_own [my, mm, md, ms, mn] (by simp) (by simp) hI5
  have HN : Hid _ := fun W hW => own_new W [my, mm, md, ms, mn] w.heap.size hW (by simp)
  have hs1 := nm_size 26
  have hs5 := fl_size [my, mm, md, ms, mn] hI5
  simp only [List.length_cons, List.length_nil] at hs5 hsz
  obtain ⟨nn, hnn⟩ : ∃ nn, nmS 26 = nn := ⟨_, rfl⟩
  obtain ⟨f5, hf5⟩ : ∃ nn, flT [my, mm, md, ms, mn] = nn := ⟨_, rfl⟩
  rw [hnn] at hs1
  rw [hf5] at hs5
  obtain ⟨fz, hfz⟩ : ∃ nn, flT [mz] = nn := ⟨_, rfl⟩
  rw [hfz] at hsz HF1 ⊢
  clear hfz
  have HNM : Hid _ := fun W => name_r 26 W
  rw [hnn] at HNM
  rw [hf5] at HF
  rw [hnn, hf5]
  clear hI hI5 hnn hf5
  have hnot : ¬ (9223372036854775807 < nn.size + f5.size) := by omega
  have hnot2 : ¬ (9223372036854775807 < nn.size + f5.size + fz.size) := by omega
  obtain ⟨hx, hy, hb0⟩ := box_two w (.cells #[.int .i64 26, .string t1, .bool g1, .slice a1 b1 c1, .int .i64 s1, .int .i64 mk, .int .i64 my, .int .i64 mm, .int .i64 md, .int .i64 ms, .int .i64 mn, .bool true, .int .i64 mz, .int .i64 q1.o, .int .i64 q1.s, .int .i64 q1.n] 47) (.cells #[.int .i64 mk, .int .i64 my, .int .i64 mm, .int .i64 md, .int .i64 ms, .int .i64 mn, .bool true, .int .i64 mz] 44)
  go_enter Tryz.func25, Tryz.ntmps25
  obtain ⟨U, hU⟩ : ∃ U, (w.alloc (.cells #[.int .i64 26, .string t1, .bool g1, .slice a1 b1 c1, .int .i64 s1, .int .i64 mk, .int .i64 my, .int .i64 mm, .int .i64 md, .int .i64 ms, .int .i64 mn, .bool true, .int .i64 mz, .int .i64 q1.o, .int .i64 q1.s, .int .i64 q1.n] 47)).alloc (.cells #[.int .i64 mk, .int .i64 my, .int .i64 mm, .int .i64 md, .int .i64 ms, .int .i64 mn, .bool true, .int .i64 mz] 44) = U := ⟨_, rfl⟩
  rw [hU] at hx hy hb0
  go_upto_region 9 with fail
  try rw [hU]
  clear hU
  have HK : Hid _ := fun W (hW : Below U.heap.size U W) => cells8 ((hW.block _ (Dc.lt_of hx)).trans hx) ((hW.block _ (Dc.lt_of hy)).trans hy)
  have HK2 : Hid _ := fun W (hW : Below U.heap.size U W) => cells67 ((hW.block _ (Dc.lt_of hy)).trans hy)
  have HU : Hid _ := hb0
  have HB : Hid (Below U.heap.size U U.drew) := Dc.Below.drewN' 1
  have HBA : Hid (Below U.heap.size U (U.alloc (.cells #[.int .i64 my, .int .i64 mm, .int .i64 md, .int .i64 ms, .int .i64 mn] 3)).drew) := (bel1' (Below.refl U.heap.size U) _).drew
  have HOA : Hid ((U.alloc (.cells #[.int .i64 my, .int .i64 mm, .int .i64 md, .int .i64 ms, .int .i64 mn] 3)).drew.ownsRow w.heap.size 3 1 (.slice (some ⟨U.heap.size, 0, none⟩) 5 5) 5 (inV [my, mm, md, ms, mn])) := HN.out U HU.out.size _ rfl
  obtain ⟨y0, y1, y2, y3, y4, y5⟩ := HK.out _ HB.out
  clear hb0 hx hy
  go_region_held3 (fun W => W.cell? ⟨w.heap.size, 0, none⟩ = some (.int .i64 26) ∧ W.cell? ⟨w.heap.size + 1, 1, none⟩ = some (.int .i64 my) ∧ W.cell? ⟨w.heap.size + 1, 2, none⟩ = some (.int .i64 mm) ∧ W.cell? ⟨w.heap.size + 1, 3, none⟩ = some (.int .i64 md) ∧ W.cell? ⟨w.heap.size + 1, 4, none⟩ = some (.int .i64 ms) ∧ W.cell? ⟨w.heap.size + 1, 5, none⟩ = some (.int .i64 mn)) (first | with_reducible exact HK.out _ HB.out | with_reducible exact HK.out _ (bel1' HB.out _) | with_reducible exact HK.out _ HBA.out | fail) (first
    | (go_at_call 12; (first | ((with_reducible refine Calls.mono (HNM.out U.drew) ?_); rintro e w9 ⟨rfl, hb9⟩; have hbb := HB.out.trans (hb9.mono HB.out.size); clear HB; have HB : Hid (Below U.heap.size U w9) := hbb; clear hbb hb9) | ((with_reducible refine Calls.mono (HNM.out (U.alloc (.cells #[.int .i64 my, .int .i64 mm, .int .i64 md, .int .i64 ms, .int .i64 mn] 3)).drew) ?_); rintro e w9 ⟨rfl, hb9⟩; have hbb := HBA.out.trans (hb9.mono HBA.out.size); have HO9 : Hid (w9.ownsRow w.heap.size 3 1 (.slice (some ⟨U.heap.size, 0, none⟩) 5 5) 5 (inV [my, mm, md, ms, mn])) := M.row_below HOA.out hb9; clear HB; have HB : Hid (Below U.heap.size U w9) := hbb; clear hbb hb9)))
    | (go_at_call 48; (first | (refine Calls.mono (HF.out _ _ _ HO9.out) ?_; rintro e w10 ⟨rfl, hb9⟩; have hbb := HB.out.trans (hb9.mono HB.out.size); clear HB; have HB : Hid (Below U.heap.size U w10) := hbb; clear hbb hb9) | (refine Calls.mono (HF.out _ _ _ (HN.out _ (HU.out.trans (HB.out.mono HU.out.size)).size _ rfl)) ?_; rintro e w10 ⟨rfl, hb9⟩; have hb8 := bel1' HB.out (.cells (inV [my, mm, md, ms, mn]).toArray 3); have hbb := hb8.trans (hb9.mono hb8.size); clear HB hb8; have HB : Hid (Below U.heap.size U w10) := hbb; clear hbb hb9)))
    | fail)
  all_goals
    have hz67 := HK2.out _ HB.out
    obtain ⟨z6, z7⟩ := hz67
    go_wp2_with (go_at_call 48; refine Calls.mono (HF1.out _ _ _ (HN1.out _ (HU.out.trans (HB.out.mono HU.out.size)).size _ rfl)) ?_; rintro e w11 ⟨rfl, hb9⟩; have hb8 := bel1' HB.out (.cells (inV [mz]).toArray 3); have hbb := hb8.trans (hb9.mono hb8.size); clear hb8; have HB11 : Hid (Below U.heap.size U w11) := hbb; clear hbb hb9)
    go_ret
    exact ⟨rfl, HU.out.trans (HB11.out.mono HU.out.size)⟩
set_option maxRecDepth 100000 in
set_option maxHeartbeats 6400000 in
theorem rtext_m27f (t1 : ByteArray) (g1 : Bool) (a1 : Option Addr) (b1 c1 : Nat) (s1 mk my mm md ms mn mz : Int) (q1 : Dt.Sp) {w : World} (hI : ∀ n ∈ [my, mm, md, ms, mn], I64 n) : Calls Tryz.prog 25 #[vlV 27 t1 g1 (.slice a1 b1 c1) s1 ⟨mk, my, mm, md, ms, mn, false, mz⟩ q1] w fun e w' => e = .returned (.string (rowT 27 [my, mm, md, ms, mn])) ∧ Below w.heap.size w w' := by
  have hI5 := hI
  rw [row_fl]
  have HF : Hid _ := fields_own [my, mm, md, ms, mn] (by simp) (by simp) hI5
  have HN : Hid _ := fun W hW => own_new W [my, mm, md, ms, mn] w.heap.size hW (by simp)
  have hs1 := nm_size 27
  have hs5 := fl_size [my, mm, md, ms, mn] hI5
  simp only [List.length_cons, List.length_nil] at hs5
  obtain ⟨nn, hnn⟩ : ∃ nn, nmS 27 = nn := ⟨_, rfl⟩
  obtain ⟨f5, hf5⟩ : ∃ nn, flT [my, mm, md, ms, mn] = nn := ⟨_, rfl⟩
  rw [hnn] at hs1
  rw [hf5] at hs5
  have HNM : Hid _ := fun W => name_r 27 W
  rw [hnn] at HNM
  rw [hf5] at HF
  rw [hnn, hf5]
  clear hI hI5 hnn hf5
  have hnot : ¬ (9223372036854775807 < nn.size + f5.size) := by omega
  obtain ⟨hx, hy, hb0⟩ := box_two w (.cells #[.int .i64 27, .string t1, .bool g1, .slice a1 b1 c1, .int .i64 s1, .int .i64 mk, .int .i64 my, .int .i64 mm, .int .i64 md, .int .i64 ms, .int .i64 mn, .bool false, .int .i64 mz, .int .i64 q1.o, .int .i64 q1.s, .int .i64 q1.n] 47) (.cells #[.int .i64 mk, .int .i64 my, .int .i64 mm, .int .i64 md, .int .i64 ms, .int .i64 mn, .bool false, .int .i64 mz] 44)
  go_enter Tryz.func25, Tryz.ntmps25
  obtain ⟨U, hU⟩ : ∃ U, (w.alloc (.cells #[.int .i64 27, .string t1, .bool g1, .slice a1 b1 c1, .int .i64 s1, .int .i64 mk, .int .i64 my, .int .i64 mm, .int .i64 md, .int .i64 ms, .int .i64 mn, .bool false, .int .i64 mz, .int .i64 q1.o, .int .i64 q1.s, .int .i64 q1.n] 47)).alloc (.cells #[.int .i64 mk, .int .i64 my, .int .i64 mm, .int .i64 md, .int .i64 ms, .int .i64 mn, .bool false, .int .i64 mz] 44) = U := ⟨_, rfl⟩
  rw [hU] at hx hy hb0
  go_upto_region 9 with fail
  try rw [hU]
  clear hU
  have HK : Hid _ := fun W (hW : Below U.heap.size U W) => cells8 ((hW.block _ (Dc.lt_of hx)).trans hx) ((hW.block _ (Dc.lt_of hy)).trans hy)
  have HK2 : Hid _ := fun W (hW : Below U.heap.size U W) => cells67 ((hW.block _ (Dc.lt_of hy)).trans hy)
  have HU : Hid _ := hb0
  have HB : Hid (Below U.heap.size U U.drew) := Dc.Below.drewN' 1
  have HBA : Hid (Below U.heap.size U (U.alloc (.cells #[.int .i64 my, .int .i64 mm, .int .i64 md, .int .i64 ms, .int .i64 mn] 3)).drew) := (bel1' (Below.refl U.heap.size U) _).drew
  have HOA : Hid ((U.alloc (.cells #[.int .i64 my, .int .i64 mm, .int .i64 md, .int .i64 ms, .int .i64 mn] 3)).drew.ownsRow w.heap.size 3 1 (.slice (some ⟨U.heap.size, 0, none⟩) 5 5) 5 (inV [my, mm, md, ms, mn])) := HN.out U HU.out.size _ rfl
  obtain ⟨y0, y1, y2, y3, y4, y5⟩ := HK.out _ HB.out
  clear hb0 hx hy
  go_region_held3 (fun W => W.cell? ⟨w.heap.size, 0, none⟩ = some (.int .i64 27) ∧ W.cell? ⟨w.heap.size + 1, 1, none⟩ = some (.int .i64 my) ∧ W.cell? ⟨w.heap.size + 1, 2, none⟩ = some (.int .i64 mm) ∧ W.cell? ⟨w.heap.size + 1, 3, none⟩ = some (.int .i64 md) ∧ W.cell? ⟨w.heap.size + 1, 4, none⟩ = some (.int .i64 ms) ∧ W.cell? ⟨w.heap.size + 1, 5, none⟩ = some (.int .i64 mn)) (first | with_reducible exact HK.out _ HB.out | with_reducible exact HK.out _ (bel1' HB.out _) | with_reducible exact HK.out _ HBA.out | fail) (first
    | (go_at_call 12; (first | ((with_reducible refine Calls.mono (HNM.out U.drew) ?_); rintro e w9 ⟨rfl, hb9⟩; have hbb := HB.out.trans (hb9.mono HB.out.size); clear HB; have HB : Hid (Below U.heap.size U w9) := hbb; clear hbb hb9) | ((with_reducible refine Calls.mono (HNM.out (U.alloc (.cells #[.int .i64 my, .int .i64 mm, .int .i64 md, .int .i64 ms, .int .i64 mn] 3)).drew) ?_); rintro e w9 ⟨rfl, hb9⟩; have hbb := HBA.out.trans (hb9.mono HBA.out.size); have HO9 : Hid (w9.ownsRow w.heap.size 3 1 (.slice (some ⟨U.heap.size, 0, none⟩) 5 5) 5 (inV [my, mm, md, ms, mn])) := M.row_below HOA.out hb9; clear HB; have HB : Hid (Below U.heap.size U w9) := hbb; clear hbb hb9)))
    | (go_at_call 48; (first | (refine Calls.mono (HF.out _ _ _ HO9.out) ?_; rintro e w10 ⟨rfl, hb9⟩; have hbb := HB.out.trans (hb9.mono HB.out.size); clear HB; have HB : Hid (Below U.heap.size U w10) := hbb; clear hbb hb9) | (refine Calls.mono (HF.out _ _ _ (HN.out _ (HU.out.trans (HB.out.mono HU.out.size)).size _ rfl)) ?_; rintro e w10 ⟨rfl, hb9⟩; have hb8 := bel1' HB.out (.cells (inV [my, mm, md, ms, mn]).toArray 3); have hbb := hb8.trans (hb9.mono hb8.size); clear HB hb8; have HB : Hid (Below U.heap.size U w10) := hbb; clear hbb hb9)))
    | fail)
  all_goals
    have hz67 := HK2.out _ HB.out
    obtain ⟨z6, z7⟩ := hz67
    go_wp2_with fail
    go_ret
    exact ⟨rfl, HU.out.trans (HB.out.mono HU.out.size)⟩
set_option maxRecDepth 100000 in
set_option maxHeartbeats 6400000 in
theorem rtext_m27t (t1 : ByteArray) (g1 : Bool) (a1 : Option Addr) (b1 c1 : Nat) (s1 mk my mm md ms mn mz : Int) (q1 : Dt.Sp) {w : World} (hI : ∀ n ∈ [my, mm, md, ms, mn, mz], I64 n) : Calls Tryz.prog 25 #[vlV 27 t1 g1 (.slice a1 b1 c1) s1 ⟨mk, my, mm, md, ms, mn, true, mz⟩ q1] w fun e w' => e = .returned (.string (rowT 27 [my, mm, md, ms, mn, mz])) ∧ Below w.heap.size w w' := by
  have hI5 : ∀ n ∈ [my, mm, md, ms, mn], I64 n := fun n hn => hI n (by simp only [List.mem_cons, List.not_mem_nil, or_false] at hn ⊢; rcases hn with h | h | h | h | h <;> simp [h])
  have hI1 : ∀ n ∈ [mz], I64 n := fun n hn => hI n (by simp only [List.mem_cons, List.not_mem_nil, or_false] at hn ⊢; simp [hn])
  have HE : Hid (rowT 27 [my, mm, md, ms, mn, mz] = nmS 27 ++ flT [my, mm, md, ms, mn] ++ flT [mz]) := by
    show _ = _
    rw [row_fl, show [my, mm, md, ms, mn, mz] = [my, mm, md, ms, mn] ++ [mz] from rfl, flT_app]
    apply ByteArray.ext
    simp
  rw [HE.out]
  have HF1 : Hid _ := fields_own [mz] (by simp) (by simp) hI1
  have HN1 : Hid _ := fun W hW => own_new W [mz] w.heap.size hW (by simp)
  have hsz := fl_size [mz] hI1
  have HF : Hid _ := fields_own [my, mm, md, ms, mn] (by simp) (by simp) hI5
  have HN : Hid _ := fun W hW => own_new W [my, mm, md, ms, mn] w.heap.size hW (by simp)
  have hs1 := nm_size 27
  have hs5 := fl_size [my, mm, md, ms, mn] hI5
  simp only [List.length_cons, List.length_nil] at hs5 hsz
  obtain ⟨nn, hnn⟩ : ∃ nn, nmS 27 = nn := ⟨_, rfl⟩
  obtain ⟨f5, hf5⟩ : ∃ nn, flT [my, mm, md, ms, mn] = nn := ⟨_, rfl⟩
  rw [hnn] at hs1
  rw [hf5] at hs5
  obtain ⟨fz, hfz⟩ : ∃ nn, flT [mz] = nn := ⟨_, rfl⟩
  rw [hfz] at hsz HF1 ⊢
  clear hfz
  have HNM : Hid _ := fun W => name_r 27 W
  rw [hnn] at HNM
  rw [hf5] at HF
  rw [hnn, hf5]
  clear hI hI5 hnn hf5
  have hnot : ¬ (9223372036854775807 < nn.size + f5.size) := by omega
  have hnot2 : ¬ (9223372036854775807 < nn.size + f5.size + fz.size) := by omega
  obtain ⟨hx, hy, hb0⟩ := box_two w (.cells #[.int .i64 27, .string t1, .bool g1, .slice a1 b1 c1, .int .i64 s1, .int .i64 mk, .int .i64 my, .int .i64 mm, .int .i64 md, .int .i64 ms, .int .i64 mn, .bool true, .int .i64 mz, .int .i64 q1.o, .int .i64 q1.s, .int .i64 q1.n] 47) (.cells #[.int .i64 mk, .int .i64 my, .int .i64 mm, .int .i64 md, .int .i64 ms, .int .i64 mn, .bool true, .int .i64 mz] 44)
  go_enter Tryz.func25, Tryz.ntmps25
  obtain ⟨U, hU⟩ : ∃ U, (w.alloc (.cells #[.int .i64 27, .string t1, .bool g1, .slice a1 b1 c1, .int .i64 s1, .int .i64 mk, .int .i64 my, .int .i64 mm, .int .i64 md, .int .i64 ms, .int .i64 mn, .bool true, .int .i64 mz, .int .i64 q1.o, .int .i64 q1.s, .int .i64 q1.n] 47)).alloc (.cells #[.int .i64 mk, .int .i64 my, .int .i64 mm, .int .i64 md, .int .i64 ms, .int .i64 mn, .bool true, .int .i64 mz] 44) = U := ⟨_, rfl⟩
  rw [hU] at hx hy hb0
  go_upto_region 9 with fail
  try rw [hU]
  clear hU
  have HK : Hid _ := fun W (hW : Below U.heap.size U W) => cells8 ((hW.block _ (Dc.lt_of hx)).trans hx) ((hW.block _ (Dc.lt_of hy)).trans hy)
  have HK2 : Hid _ := fun W (hW : Below U.heap.size U W) => cells67 ((hW.block _ (Dc.lt_of hy)).trans hy)
  have HU : Hid _ := hb0
  have HB : Hid (Below U.heap.size U U.drew) := Dc.Below.drewN' 1
  have HBA : Hid (Below U.heap.size U (U.alloc (.cells #[.int .i64 my, .int .i64 mm, .int .i64 md, .int .i64 ms, .int .i64 mn] 3)).drew) := (bel1' (Below.refl U.heap.size U) _).drew
  have HOA : Hid ((U.alloc (.cells #[.int .i64 my, .int .i64 mm, .int .i64 md, .int .i64 ms, .int .i64 mn] 3)).drew.ownsRow w.heap.size 3 1 (.slice (some ⟨U.heap.size, 0, none⟩) 5 5) 5 (inV [my, mm, md, ms, mn])) := HN.out U HU.out.size _ rfl
  obtain ⟨y0, y1, y2, y3, y4, y5⟩ := HK.out _ HB.out
  clear hb0 hx hy
  go_region_held3 (fun W => W.cell? ⟨w.heap.size, 0, none⟩ = some (.int .i64 27) ∧ W.cell? ⟨w.heap.size + 1, 1, none⟩ = some (.int .i64 my) ∧ W.cell? ⟨w.heap.size + 1, 2, none⟩ = some (.int .i64 mm) ∧ W.cell? ⟨w.heap.size + 1, 3, none⟩ = some (.int .i64 md) ∧ W.cell? ⟨w.heap.size + 1, 4, none⟩ = some (.int .i64 ms) ∧ W.cell? ⟨w.heap.size + 1, 5, none⟩ = some (.int .i64 mn)) (first | with_reducible exact HK.out _ HB.out | with_reducible exact HK.out _ (bel1' HB.out _) | with_reducible exact HK.out _ HBA.out | fail) (first
    | (go_at_call 12; (first | ((with_reducible refine Calls.mono (HNM.out U.drew) ?_); rintro e w9 ⟨rfl, hb9⟩; have hbb := HB.out.trans (hb9.mono HB.out.size); clear HB; have HB : Hid (Below U.heap.size U w9) := hbb; clear hbb hb9) | ((with_reducible refine Calls.mono (HNM.out (U.alloc (.cells #[.int .i64 my, .int .i64 mm, .int .i64 md, .int .i64 ms, .int .i64 mn] 3)).drew) ?_); rintro e w9 ⟨rfl, hb9⟩; have hbb := HBA.out.trans (hb9.mono HBA.out.size); have HO9 : Hid (w9.ownsRow w.heap.size 3 1 (.slice (some ⟨U.heap.size, 0, none⟩) 5 5) 5 (inV [my, mm, md, ms, mn])) := M.row_below HOA.out hb9; clear HB; have HB : Hid (Below U.heap.size U w9) := hbb; clear hbb hb9)))
    | (go_at_call 48; (first | (refine Calls.mono (HF.out _ _ _ HO9.out) ?_; rintro e w10 ⟨rfl, hb9⟩; have hbb := HB.out.trans (hb9.mono HB.out.size); clear HB; have HB : Hid (Below U.heap.size U w10) := hbb; clear hbb hb9) | (refine Calls.mono (HF.out _ _ _ (HN.out _ (HU.out.trans (HB.out.mono HU.out.size)).size _ rfl)) ?_; rintro e w10 ⟨rfl, hb9⟩; have hb8 := bel1' HB.out (.cells (inV [my, mm, md, ms, mn]).toArray 3); have hbb := hb8.trans (hb9.mono hb8.size); clear HB hb8; have HB : Hid (Below U.heap.size U w10) := hbb; clear hbb hb9)))
    | fail)
  all_goals
    have hz67 := HK2.out _ HB.out
    obtain ⟨z6, z7⟩ := hz67
    go_wp2_with (go_at_call 48; refine Calls.mono (HF1.out _ _ _ (HN1.out _ (HU.out.trans (HB.out.mono HU.out.size)).size _ rfl)) ?_; rintro e w11 ⟨rfl, hb9⟩; have hb8 := bel1' HB.out (.cells (inV [mz]).toArray 3); have hbb := hb8.trans (hb9.mono hb8.size); clear hb8; have HB11 : Hid (Below U.heap.size U w11) := hbb; clear hbb hb9)
    go_ret
    exact ⟨rfl, HU.out.trans (HB11.out.mono HU.out.size)⟩
set_option maxRecDepth 100000 in
set_option maxHeartbeats 6400000 in
theorem rtext_m28f (t1 : ByteArray) (g1 : Bool) (a1 : Option Addr) (b1 c1 : Nat) (s1 mk my mm md ms mn mz : Int) (q1 : Dt.Sp) {w : World} (hI : ∀ n ∈ [my, mm, md, ms, mn], I64 n) : Calls Tryz.prog 25 #[vlV 28 t1 g1 (.slice a1 b1 c1) s1 ⟨mk, my, mm, md, ms, mn, false, mz⟩ q1] w fun e w' => e = .returned (.string (rowT 28 [my, mm, md, ms, mn])) ∧ Below w.heap.size w w' := by
  have hI5 := hI
  rw [row_fl]
  have HF : Hid _ := fields_own [my, mm, md, ms, mn] (by simp) (by simp) hI5
  have HN : Hid _ := fun W hW => own_new W [my, mm, md, ms, mn] w.heap.size hW (by simp)
  have hs1 := nm_size 28
  have hs5 := fl_size [my, mm, md, ms, mn] hI5
  simp only [List.length_cons, List.length_nil] at hs5
  obtain ⟨nn, hnn⟩ : ∃ nn, nmS 28 = nn := ⟨_, rfl⟩
  obtain ⟨f5, hf5⟩ : ∃ nn, flT [my, mm, md, ms, mn] = nn := ⟨_, rfl⟩
  rw [hnn] at hs1
  rw [hf5] at hs5
  have HNM : Hid _ := fun W => name_r 28 W
  rw [hnn] at HNM
  rw [hf5] at HF
  rw [hnn, hf5]
  clear hI hI5 hnn hf5
  have hnot : ¬ (9223372036854775807 < nn.size + f5.size) := by omega
  obtain ⟨hx, hy, hb0⟩ := box_two w (.cells #[.int .i64 28, .string t1, .bool g1, .slice a1 b1 c1, .int .i64 s1, .int .i64 mk, .int .i64 my, .int .i64 mm, .int .i64 md, .int .i64 ms, .int .i64 mn, .bool false, .int .i64 mz, .int .i64 q1.o, .int .i64 q1.s, .int .i64 q1.n] 47) (.cells #[.int .i64 mk, .int .i64 my, .int .i64 mm, .int .i64 md, .int .i64 ms, .int .i64 mn, .bool false, .int .i64 mz] 44)
  go_enter Tryz.func25, Tryz.ntmps25
  obtain ⟨U, hU⟩ : ∃ U, (w.alloc (.cells #[.int .i64 28, .string t1, .bool g1, .slice a1 b1 c1, .int .i64 s1, .int .i64 mk, .int .i64 my, .int .i64 mm, .int .i64 md, .int .i64 ms, .int .i64 mn, .bool false, .int .i64 mz, .int .i64 q1.o, .int .i64 q1.s, .int .i64 q1.n] 47)).alloc (.cells #[.int .i64 mk, .int .i64 my, .int .i64 mm, .int .i64 md, .int .i64 ms, .int .i64 mn, .bool false, .int .i64 mz] 44) = U := ⟨_, rfl⟩
  rw [hU] at hx hy hb0
  go_upto_region 9 with fail
  try rw [hU]
  clear hU
  have HK : Hid _ := fun W (hW : Below U.heap.size U W) => cells8 ((hW.block _ (Dc.lt_of hx)).trans hx) ((hW.block _ (Dc.lt_of hy)).trans hy)
  have HK2 : Hid _ := fun W (hW : Below U.heap.size U W) => cells67 ((hW.block _ (Dc.lt_of hy)).trans hy)
  have HU : Hid _ := hb0
  have HB : Hid (Below U.heap.size U U.drew) := Dc.Below.drewN' 1
  have HBA : Hid (Below U.heap.size U (U.alloc (.cells #[.int .i64 my, .int .i64 mm, .int .i64 md, .int .i64 ms, .int .i64 mn] 3)).drew) := (bel1' (Below.refl U.heap.size U) _).drew
  have HOA : Hid ((U.alloc (.cells #[.int .i64 my, .int .i64 mm, .int .i64 md, .int .i64 ms, .int .i64 mn] 3)).drew.ownsRow w.heap.size 3 1 (.slice (some ⟨U.heap.size, 0, none⟩) 5 5) 5 (inV [my, mm, md, ms, mn])) := HN.out U HU.out.size _ rfl
  obtain ⟨y0, y1, y2, y3, y4, y5⟩ := HK.out _ HB.out
  clear hb0 hx hy
  go_region_held3 (fun W => W.cell? ⟨w.heap.size, 0, none⟩ = some (.int .i64 28) ∧ W.cell? ⟨w.heap.size + 1, 1, none⟩ = some (.int .i64 my) ∧ W.cell? ⟨w.heap.size + 1, 2, none⟩ = some (.int .i64 mm) ∧ W.cell? ⟨w.heap.size + 1, 3, none⟩ = some (.int .i64 md) ∧ W.cell? ⟨w.heap.size + 1, 4, none⟩ = some (.int .i64 ms) ∧ W.cell? ⟨w.heap.size + 1, 5, none⟩ = some (.int .i64 mn)) (first | with_reducible exact HK.out _ HB.out | with_reducible exact HK.out _ (bel1' HB.out _) | with_reducible exact HK.out _ HBA.out | fail) (first
    | (go_at_call 12; (first | ((with_reducible refine Calls.mono (HNM.out U.drew) ?_); rintro e w9 ⟨rfl, hb9⟩; have hbb := HB.out.trans (hb9.mono HB.out.size); clear HB; have HB : Hid (Below U.heap.size U w9) := hbb; clear hbb hb9) | ((with_reducible refine Calls.mono (HNM.out (U.alloc (.cells #[.int .i64 my, .int .i64 mm, .int .i64 md, .int .i64 ms, .int .i64 mn] 3)).drew) ?_); rintro e w9 ⟨rfl, hb9⟩; have hbb := HBA.out.trans (hb9.mono HBA.out.size); have HO9 : Hid (w9.ownsRow w.heap.size 3 1 (.slice (some ⟨U.heap.size, 0, none⟩) 5 5) 5 (inV [my, mm, md, ms, mn])) := M.row_below HOA.out hb9; clear HB; have HB : Hid (Below U.heap.size U w9) := hbb; clear hbb hb9)))
    | (go_at_call 48; (first | (refine Calls.mono (HF.out _ _ _ HO9.out) ?_; rintro e w10 ⟨rfl, hb9⟩; have hbb := HB.out.trans (hb9.mono HB.out.size); clear HB; have HB : Hid (Below U.heap.size U w10) := hbb; clear hbb hb9) | (refine Calls.mono (HF.out _ _ _ (HN.out _ (HU.out.trans (HB.out.mono HU.out.size)).size _ rfl)) ?_; rintro e w10 ⟨rfl, hb9⟩; have hb8 := bel1' HB.out (.cells (inV [my, mm, md, ms, mn]).toArray 3); have hbb := hb8.trans (hb9.mono hb8.size); clear HB hb8; have HB : Hid (Below U.heap.size U w10) := hbb; clear hbb hb9)))
    | fail)
  all_goals
    have hz67 := HK2.out _ HB.out
    obtain ⟨z6, z7⟩ := hz67
    go_wp2_with fail
    go_ret
    exact ⟨rfl, HU.out.trans (HB.out.mono HU.out.size)⟩
set_option maxRecDepth 100000 in
set_option maxHeartbeats 6400000 in
theorem rtext_m28t (t1 : ByteArray) (g1 : Bool) (a1 : Option Addr) (b1 c1 : Nat) (s1 mk my mm md ms mn mz : Int) (q1 : Dt.Sp) {w : World} (hI : ∀ n ∈ [my, mm, md, ms, mn, mz], I64 n) : Calls Tryz.prog 25 #[vlV 28 t1 g1 (.slice a1 b1 c1) s1 ⟨mk, my, mm, md, ms, mn, true, mz⟩ q1] w fun e w' => e = .returned (.string (rowT 28 [my, mm, md, ms, mn, mz])) ∧ Below w.heap.size w w' := by
  have hI5 : ∀ n ∈ [my, mm, md, ms, mn], I64 n := fun n hn => hI n (by simp only [List.mem_cons, List.not_mem_nil, or_false] at hn ⊢; rcases hn with h | h | h | h | h <;> simp [h])
  have hI1 : ∀ n ∈ [mz], I64 n := fun n hn => hI n (by simp only [List.mem_cons, List.not_mem_nil, or_false] at hn ⊢; simp [hn])
  have HE : Hid (rowT 28 [my, mm, md, ms, mn, mz] = nmS 28 ++ flT [my, mm, md, ms, mn] ++ flT [mz]) := by
    show _ = _
    rw [row_fl, show [my, mm, md, ms, mn, mz] = [my, mm, md, ms, mn] ++ [mz] from rfl, flT_app]
    apply ByteArray.ext
    simp
  rw [HE.out]
  have HF1 : Hid _ := fields_own [mz] (by simp) (by simp) hI1
  have HN1 : Hid _ := fun W hW => own_new W [mz] w.heap.size hW (by simp)
  have hsz := fl_size [mz] hI1
  have HF : Hid _ := fields_own [my, mm, md, ms, mn] (by simp) (by simp) hI5
  have HN : Hid _ := fun W hW => own_new W [my, mm, md, ms, mn] w.heap.size hW (by simp)
  have hs1 := nm_size 28
  have hs5 := fl_size [my, mm, md, ms, mn] hI5
  simp only [List.length_cons, List.length_nil] at hs5 hsz
  obtain ⟨nn, hnn⟩ : ∃ nn, nmS 28 = nn := ⟨_, rfl⟩
  obtain ⟨f5, hf5⟩ : ∃ nn, flT [my, mm, md, ms, mn] = nn := ⟨_, rfl⟩
  rw [hnn] at hs1
  rw [hf5] at hs5
  obtain ⟨fz, hfz⟩ : ∃ nn, flT [mz] = nn := ⟨_, rfl⟩
  rw [hfz] at hsz HF1 ⊢
  clear hfz
  have HNM : Hid _ := fun W => name_r 28 W
  rw [hnn] at HNM
  rw [hf5] at HF
  rw [hnn, hf5]
  clear hI hI5 hnn hf5
  have hnot : ¬ (9223372036854775807 < nn.size + f5.size) := by omega
  have hnot2 : ¬ (9223372036854775807 < nn.size + f5.size + fz.size) := by omega
  obtain ⟨hx, hy, hb0⟩ := box_two w (.cells #[.int .i64 28, .string t1, .bool g1, .slice a1 b1 c1, .int .i64 s1, .int .i64 mk, .int .i64 my, .int .i64 mm, .int .i64 md, .int .i64 ms, .int .i64 mn, .bool true, .int .i64 mz, .int .i64 q1.o, .int .i64 q1.s, .int .i64 q1.n] 47) (.cells #[.int .i64 mk, .int .i64 my, .int .i64 mm, .int .i64 md, .int .i64 ms, .int .i64 mn, .bool true, .int .i64 mz] 44)
  go_enter Tryz.func25, Tryz.ntmps25
  obtain ⟨U, hU⟩ : ∃ U, (w.alloc (.cells #[.int .i64 28, .string t1, .bool g1, .slice a1 b1 c1, .int .i64 s1, .int .i64 mk, .int .i64 my, .int .i64 mm, .int .i64 md, .int .i64 ms, .int .i64 mn, .bool true, .int .i64 mz, .int .i64 q1.o, .int .i64 q1.s, .int .i64 q1.n] 47)).alloc (.cells #[.int .i64 mk, .int .i64 my, .int .i64 mm, .int .i64 md, .int .i64 ms, .int .i64 mn, .bool true, .int .i64 mz] 44) = U := ⟨_, rfl⟩
  rw [hU] at hx hy hb0
  go_upto_region 9 with fail
  try rw [hU]
  clear hU
  have HK : Hid _ := fun W (hW : Below U.heap.size U W) => cells8 ((hW.block _ (Dc.lt_of hx)).trans hx) ((hW.block _ (Dc.lt_of hy)).trans hy)
  have HK2 : Hid _ := fun W (hW : Below U.heap.size U W) => cells67 ((hW.block _ (Dc.lt_of hy)).trans hy)
  have HU : Hid _ := hb0
  have HB : Hid (Below U.heap.size U U.drew) := Dc.Below.drewN' 1
  have HBA : Hid (Below U.heap.size U (U.alloc (.cells #[.int .i64 my, .int .i64 mm, .int .i64 md, .int .i64 ms, .int .i64 mn] 3)).drew) := (bel1' (Below.refl U.heap.size U) _).drew
  have HOA : Hid ((U.alloc (.cells #[.int .i64 my, .int .i64 mm, .int .i64 md, .int .i64 ms, .int .i64 mn] 3)).drew.ownsRow w.heap.size 3 1 (.slice (some ⟨U.heap.size, 0, none⟩) 5 5) 5 (inV [my, mm, md, ms, mn])) := HN.out U HU.out.size _ rfl
  obtain ⟨y0, y1, y2, y3, y4, y5⟩ := HK.out _ HB.out
  clear hb0 hx hy
  go_region_held3 (fun W => W.cell? ⟨w.heap.size, 0, none⟩ = some (.int .i64 28) ∧ W.cell? ⟨w.heap.size + 1, 1, none⟩ = some (.int .i64 my) ∧ W.cell? ⟨w.heap.size + 1, 2, none⟩ = some (.int .i64 mm) ∧ W.cell? ⟨w.heap.size + 1, 3, none⟩ = some (.int .i64 md) ∧ W.cell? ⟨w.heap.size + 1, 4, none⟩ = some (.int .i64 ms) ∧ W.cell? ⟨w.heap.size + 1, 5, none⟩ = some (.int .i64 mn)) (first | with_reducible exact HK.out _ HB.out | with_reducible exact HK.out _ (bel1' HB.out _) | with_reducible exact HK.out _ HBA.out | fail) (first
    | (go_at_call 12; (first | ((with_reducible refine Calls.mono (HNM.out U.drew) ?_); rintro e w9 ⟨rfl, hb9⟩; have hbb := HB.out.trans (hb9.mono HB.out.size); clear HB; have HB : Hid (Below U.heap.size U w9) := hbb; clear hbb hb9) | ((with_reducible refine Calls.mono (HNM.out (U.alloc (.cells #[.int .i64 my, .int .i64 mm, .int .i64 md, .int .i64 ms, .int .i64 mn] 3)).drew) ?_); rintro e w9 ⟨rfl, hb9⟩; have hbb := HBA.out.trans (hb9.mono HBA.out.size); have HO9 : Hid (w9.ownsRow w.heap.size 3 1 (.slice (some ⟨U.heap.size, 0, none⟩) 5 5) 5 (inV [my, mm, md, ms, mn])) := M.row_below HOA.out hb9; clear HB; have HB : Hid (Below U.heap.size U w9) := hbb; clear hbb hb9)))
    | (go_at_call 48; (first | (refine Calls.mono (HF.out _ _ _ HO9.out) ?_; rintro e w10 ⟨rfl, hb9⟩; have hbb := HB.out.trans (hb9.mono HB.out.size); clear HB; have HB : Hid (Below U.heap.size U w10) := hbb; clear hbb hb9) | (refine Calls.mono (HF.out _ _ _ (HN.out _ (HU.out.trans (HB.out.mono HU.out.size)).size _ rfl)) ?_; rintro e w10 ⟨rfl, hb9⟩; have hb8 := bel1' HB.out (.cells (inV [my, mm, md, ms, mn]).toArray 3); have hbb := hb8.trans (hb9.mono hb8.size); clear HB hb8; have HB : Hid (Below U.heap.size U w10) := hbb; clear hbb hb9)))
    | fail)
  all_goals
    have hz67 := HK2.out _ HB.out
    obtain ⟨z6, z7⟩ := hz67
    go_wp2_with (go_at_call 48; refine Calls.mono (HF1.out _ _ _ (HN1.out _ (HU.out.trans (HB.out.mono HU.out.size)).size _ rfl)) ?_; rintro e w11 ⟨rfl, hb9⟩; have hb8 := bel1' HB.out (.cells (inV [mz]).toArray 3); have hbb := hb8.trans (hb9.mono hb8.size); clear hb8; have HB11 : Hid (Below U.heap.size U w11) := hbb; clear hbb hb9)
    go_ret
    exact ⟨rfl, HU.out.trans (HB11.out.mono HU.out.size)⟩
set_option maxRecDepth 100000 in
set_option maxHeartbeats 6400000 in
theorem rtext_m29f (t1 : ByteArray) (g1 : Bool) (a1 : Option Addr) (b1 c1 : Nat) (s1 mk my mm md ms mn mz : Int) (q1 : Dt.Sp) {w : World} (hI : ∀ n ∈ [my, mm, md, ms, mn], I64 n) : Calls Tryz.prog 25 #[vlV 29 t1 g1 (.slice a1 b1 c1) s1 ⟨mk, my, mm, md, ms, mn, false, mz⟩ q1] w fun e w' => e = .returned (.string (rowT 29 [my, mm, md, ms, mn])) ∧ Below w.heap.size w w' := by
  have hI5 := hI
  rw [row_fl]
  have HF : Hid _ := fields_own [my, mm, md, ms, mn] (by simp) (by simp) hI5
  have HN : Hid _ := fun W hW => own_new W [my, mm, md, ms, mn] w.heap.size hW (by simp)
  have hs1 := nm_size 29
  have hs5 := fl_size [my, mm, md, ms, mn] hI5
  simp only [List.length_cons, List.length_nil] at hs5
  obtain ⟨nn, hnn⟩ : ∃ nn, nmS 29 = nn := ⟨_, rfl⟩
  obtain ⟨f5, hf5⟩ : ∃ nn, flT [my, mm, md, ms, mn] = nn := ⟨_, rfl⟩
  rw [hnn] at hs1
  rw [hf5] at hs5
  have HNM : Hid _ := fun W => name_r 29 W
  rw [hnn] at HNM
  rw [hf5] at HF
  rw [hnn, hf5]
  clear hI hI5 hnn hf5
  have hnot : ¬ (9223372036854775807 < nn.size + f5.size) := by omega
  obtain ⟨hx, hy, hb0⟩ := box_two w (.cells #[.int .i64 29, .string t1, .bool g1, .slice a1 b1 c1, .int .i64 s1, .int .i64 mk, .int .i64 my, .int .i64 mm, .int .i64 md, .int .i64 ms, .int .i64 mn, .bool false, .int .i64 mz, .int .i64 q1.o, .int .i64 q1.s, .int .i64 q1.n] 47) (.cells #[.int .i64 mk, .int .i64 my, .int .i64 mm, .int .i64 md, .int .i64 ms, .int .i64 mn, .bool false, .int .i64 mz] 44)
  go_enter Tryz.func25, Tryz.ntmps25
  obtain ⟨U, hU⟩ : ∃ U, (w.alloc (.cells #[.int .i64 29, .string t1, .bool g1, .slice a1 b1 c1, .int .i64 s1, .int .i64 mk, .int .i64 my, .int .i64 mm, .int .i64 md, .int .i64 ms, .int .i64 mn, .bool false, .int .i64 mz, .int .i64 q1.o, .int .i64 q1.s, .int .i64 q1.n] 47)).alloc (.cells #[.int .i64 mk, .int .i64 my, .int .i64 mm, .int .i64 md, .int .i64 ms, .int .i64 mn, .bool false, .int .i64 mz] 44) = U := ⟨_, rfl⟩
  rw [hU] at hx hy hb0
  go_upto_region 9 with fail
  try rw [hU]
  clear hU
  have HK : Hid _ := fun W (hW : Below U.heap.size U W) => cells8 ((hW.block _ (Dc.lt_of hx)).trans hx) ((hW.block _ (Dc.lt_of hy)).trans hy)
  have HK2 : Hid _ := fun W (hW : Below U.heap.size U W) => cells67 ((hW.block _ (Dc.lt_of hy)).trans hy)
  have HU : Hid _ := hb0
  have HB : Hid (Below U.heap.size U U.drew) := Dc.Below.drewN' 1
  have HBA : Hid (Below U.heap.size U (U.alloc (.cells #[.int .i64 my, .int .i64 mm, .int .i64 md, .int .i64 ms, .int .i64 mn] 3)).drew) := (bel1' (Below.refl U.heap.size U) _).drew
  have HOA : Hid ((U.alloc (.cells #[.int .i64 my, .int .i64 mm, .int .i64 md, .int .i64 ms, .int .i64 mn] 3)).drew.ownsRow w.heap.size 3 1 (.slice (some ⟨U.heap.size, 0, none⟩) 5 5) 5 (inV [my, mm, md, ms, mn])) := HN.out U HU.out.size _ rfl
  obtain ⟨y0, y1, y2, y3, y4, y5⟩ := HK.out _ HB.out
  clear hb0 hx hy
  go_region_held3 (fun W => W.cell? ⟨w.heap.size, 0, none⟩ = some (.int .i64 29) ∧ W.cell? ⟨w.heap.size + 1, 1, none⟩ = some (.int .i64 my) ∧ W.cell? ⟨w.heap.size + 1, 2, none⟩ = some (.int .i64 mm) ∧ W.cell? ⟨w.heap.size + 1, 3, none⟩ = some (.int .i64 md) ∧ W.cell? ⟨w.heap.size + 1, 4, none⟩ = some (.int .i64 ms) ∧ W.cell? ⟨w.heap.size + 1, 5, none⟩ = some (.int .i64 mn)) (first | with_reducible exact HK.out _ HB.out | with_reducible exact HK.out _ (bel1' HB.out _) | with_reducible exact HK.out _ HBA.out | fail) (first
    | (go_at_call 12; (first | ((with_reducible refine Calls.mono (HNM.out U.drew) ?_); rintro e w9 ⟨rfl, hb9⟩; have hbb := HB.out.trans (hb9.mono HB.out.size); clear HB; have HB : Hid (Below U.heap.size U w9) := hbb; clear hbb hb9) | ((with_reducible refine Calls.mono (HNM.out (U.alloc (.cells #[.int .i64 my, .int .i64 mm, .int .i64 md, .int .i64 ms, .int .i64 mn] 3)).drew) ?_); rintro e w9 ⟨rfl, hb9⟩; have hbb := HBA.out.trans (hb9.mono HBA.out.size); have HO9 : Hid (w9.ownsRow w.heap.size 3 1 (.slice (some ⟨U.heap.size, 0, none⟩) 5 5) 5 (inV [my, mm, md, ms, mn])) := M.row_below HOA.out hb9; clear HB; have HB : Hid (Below U.heap.size U w9) := hbb; clear hbb hb9)))
    | (go_at_call 48; (first | (refine Calls.mono (HF.out _ _ _ HO9.out) ?_; rintro e w10 ⟨rfl, hb9⟩; have hbb := HB.out.trans (hb9.mono HB.out.size); clear HB; have HB : Hid (Below U.heap.size U w10) := hbb; clear hbb hb9) | (refine Calls.mono (HF.out _ _ _ (HN.out _ (HU.out.trans (HB.out.mono HU.out.size)).size _ rfl)) ?_; rintro e w10 ⟨rfl, hb9⟩; have hb8 := bel1' HB.out (.cells (inV [my, mm, md, ms, mn]).toArray 3); have hbb := hb8.trans (hb9.mono hb8.size); clear HB hb8; have HB : Hid (Below U.heap.size U w10) := hbb; clear hbb hb9)))
    | fail)
  all_goals
    have hz67 := HK2.out _ HB.out
    obtain ⟨z6, z7⟩ := hz67
    go_wp2_with fail
    go_ret
    exact ⟨rfl, HU.out.trans (HB.out.mono HU.out.size)⟩
set_option maxRecDepth 100000 in
set_option maxHeartbeats 6400000 in
theorem rtext_m29t (t1 : ByteArray) (g1 : Bool) (a1 : Option Addr) (b1 c1 : Nat) (s1 mk my mm md ms mn mz : Int) (q1 : Dt.Sp) {w : World} (hI : ∀ n ∈ [my, mm, md, ms, mn, mz], I64 n) : Calls Tryz.prog 25 #[vlV 29 t1 g1 (.slice a1 b1 c1) s1 ⟨mk, my, mm, md, ms, mn, true, mz⟩ q1] w fun e w' => e = .returned (.string (rowT 29 [my, mm, md, ms, mn, mz])) ∧ Below w.heap.size w w' := by
  have hI5 : ∀ n ∈ [my, mm, md, ms, mn], I64 n := fun n hn => hI n (by simp only [List.mem_cons, List.not_mem_nil, or_false] at hn ⊢; rcases hn with h | h | h | h | h <;> simp [h])
  have hI1 : ∀ n ∈ [mz], I64 n := fun n hn => hI n (by simp only [List.mem_cons, List.not_mem_nil, or_false] at hn ⊢; simp [hn])
  have HE : Hid (rowT 29 [my, mm, md, ms, mn, mz] = nmS 29 ++ flT [my, mm, md, ms, mn] ++ flT [mz]) := by
    show _ = _
    rw [row_fl, show [my, mm, md, ms, mn, mz] = [my, mm, md, ms, mn] ++ [mz] from rfl, flT_app]
    apply ByteArray.ext
    simp
  rw [HE.out]
  have HF1 : Hid _ := fields_own [mz] (by simp) (by simp) hI1
  have HN1 : Hid _ := fun W hW => own_new W [mz] w.heap.size hW (by simp)
  have hsz := fl_size [mz] hI1
  have HF : Hid _ := fields_own [my, mm, md, ms, mn] (by simp) (by simp) hI5
  have HN : Hid _ := fun W hW => own_new W [my, mm, md, ms, mn] w.heap.size hW (by simp)
  have hs1 := nm_size 29
  have hs5 := fl_size [my, mm, md, ms, mn] hI5
  simp only [List.length_cons, List.length_nil] at hs5 hsz
  obtain ⟨nn, hnn⟩ : ∃ nn, nmS 29 = nn := ⟨_, rfl⟩
  obtain ⟨f5, hf5⟩ : ∃ nn, flT [my, mm, md, ms, mn] = nn := ⟨_, rfl⟩
  rw [hnn] at hs1
  rw [hf5] at hs5
  obtain ⟨fz, hfz⟩ : ∃ nn, flT [mz] = nn := ⟨_, rfl⟩
  rw [hfz] at hsz HF1 ⊢
  clear hfz
  have HNM : Hid _ := fun W => name_r 29 W
  rw [hnn] at HNM
  rw [hf5] at HF
  rw [hnn, hf5]
  clear hI hI5 hnn hf5
  have hnot : ¬ (9223372036854775807 < nn.size + f5.size) := by omega
  have hnot2 : ¬ (9223372036854775807 < nn.size + f5.size + fz.size) := by omega
  obtain ⟨hx, hy, hb0⟩ := box_two w (.cells #[.int .i64 29, .string t1, .bool g1, .slice a1 b1 c1, .int .i64 s1, .int .i64 mk, .int .i64 my, .int .i64 mm, .int .i64 md, .int .i64 ms, .int .i64 mn, .bool true, .int .i64 mz, .int .i64 q1.o, .int .i64 q1.s, .int .i64 q1.n] 47) (.cells #[.int .i64 mk, .int .i64 my, .int .i64 mm, .int .i64 md, .int .i64 ms, .int .i64 mn, .bool true, .int .i64 mz] 44)
  go_enter Tryz.func25, Tryz.ntmps25
  obtain ⟨U, hU⟩ : ∃ U, (w.alloc (.cells #[.int .i64 29, .string t1, .bool g1, .slice a1 b1 c1, .int .i64 s1, .int .i64 mk, .int .i64 my, .int .i64 mm, .int .i64 md, .int .i64 ms, .int .i64 mn, .bool true, .int .i64 mz, .int .i64 q1.o, .int .i64 q1.s, .int .i64 q1.n] 47)).alloc (.cells #[.int .i64 mk, .int .i64 my, .int .i64 mm, .int .i64 md, .int .i64 ms, .int .i64 mn, .bool true, .int .i64 mz] 44) = U := ⟨_, rfl⟩
  rw [hU] at hx hy hb0
  go_upto_region 9 with fail
  try rw [hU]
  clear hU
  have HK : Hid _ := fun W (hW : Below U.heap.size U W) => cells8 ((hW.block _ (Dc.lt_of hx)).trans hx) ((hW.block _ (Dc.lt_of hy)).trans hy)
  have HK2 : Hid _ := fun W (hW : Below U.heap.size U W) => cells67 ((hW.block _ (Dc.lt_of hy)).trans hy)
  have HU : Hid _ := hb0
  have HB : Hid (Below U.heap.size U U.drew) := Dc.Below.drewN' 1
  have HBA : Hid (Below U.heap.size U (U.alloc (.cells #[.int .i64 my, .int .i64 mm, .int .i64 md, .int .i64 ms, .int .i64 mn] 3)).drew) := (bel1' (Below.refl U.heap.size U) _).drew
  have HOA : Hid ((U.alloc (.cells #[.int .i64 my, .int .i64 mm, .int .i64 md, .int .i64 ms, .int .i64 mn] 3)).drew.ownsRow w.heap.size 3 1 (.slice (some ⟨U.heap.size, 0, none⟩) 5 5) 5 (inV [my, mm, md, ms, mn])) := HN.out U HU.out.size _ rfl
  obtain ⟨y0, y1, y2, y3, y4, y5⟩ := HK.out _ HB.out
  clear hb0 hx hy
  go_region_held3 (fun W => W.cell? ⟨w.heap.size, 0, none⟩ = some (.int .i64 29) ∧ W.cell? ⟨w.heap.size + 1, 1, none⟩ = some (.int .i64 my) ∧ W.cell? ⟨w.heap.size + 1, 2, none⟩ = some (.int .i64 mm) ∧ W.cell? ⟨w.heap.size + 1, 3, none⟩ = some (.int .i64 md) ∧ W.cell? ⟨w.heap.size + 1, 4, none⟩ = some (.int .i64 ms) ∧ W.cell? ⟨w.heap.size + 1, 5, none⟩ = some (.int .i64 mn)) (first | with_reducible exact HK.out _ HB.out | with_reducible exact HK.out _ (bel1' HB.out _) | with_reducible exact HK.out _ HBA.out | fail) (first
    | (go_at_call 12; (first | ((with_reducible refine Calls.mono (HNM.out U.drew) ?_); rintro e w9 ⟨rfl, hb9⟩; have hbb := HB.out.trans (hb9.mono HB.out.size); clear HB; have HB : Hid (Below U.heap.size U w9) := hbb; clear hbb hb9) | ((with_reducible refine Calls.mono (HNM.out (U.alloc (.cells #[.int .i64 my, .int .i64 mm, .int .i64 md, .int .i64 ms, .int .i64 mn] 3)).drew) ?_); rintro e w9 ⟨rfl, hb9⟩; have hbb := HBA.out.trans (hb9.mono HBA.out.size); have HO9 : Hid (w9.ownsRow w.heap.size 3 1 (.slice (some ⟨U.heap.size, 0, none⟩) 5 5) 5 (inV [my, mm, md, ms, mn])) := M.row_below HOA.out hb9; clear HB; have HB : Hid (Below U.heap.size U w9) := hbb; clear hbb hb9)))
    | (go_at_call 48; (first | (refine Calls.mono (HF.out _ _ _ HO9.out) ?_; rintro e w10 ⟨rfl, hb9⟩; have hbb := HB.out.trans (hb9.mono HB.out.size); clear HB; have HB : Hid (Below U.heap.size U w10) := hbb; clear hbb hb9) | (refine Calls.mono (HF.out _ _ _ (HN.out _ (HU.out.trans (HB.out.mono HU.out.size)).size _ rfl)) ?_; rintro e w10 ⟨rfl, hb9⟩; have hb8 := bel1' HB.out (.cells (inV [my, mm, md, ms, mn]).toArray 3); have hbb := hb8.trans (hb9.mono hb8.size); clear HB hb8; have HB : Hid (Below U.heap.size U w10) := hbb; clear hbb hb9)))
    | fail)
  all_goals
    have hz67 := HK2.out _ HB.out
    obtain ⟨z6, z7⟩ := hz67
    go_wp2_with (go_at_call 48; refine Calls.mono (HF1.out _ _ _ (HN1.out _ (HU.out.trans (HB.out.mono HU.out.size)).size _ rfl)) ?_; rintro e w11 ⟨rfl, hb9⟩; have hb8 := bel1' HB.out (.cells (inV [mz]).toArray 3); have hbb := hb8.trans (hb9.mono hb8.size); clear hb8; have HB11 : Hid (Below U.heap.size U w11) := hbb; clear hbb hb9)
    go_ret
    exact ⟨rfl, HU.out.trans (HB11.out.mono HU.out.size)⟩
set_option maxRecDepth 100000 in
set_option maxHeartbeats 6400000 in
theorem rtext_m30f (t1 : ByteArray) (g1 : Bool) (a1 : Option Addr) (b1 c1 : Nat) (s1 mk my mm md ms mn mz : Int) (q1 : Dt.Sp) {w : World} (hI : ∀ n ∈ [my, mm, md, ms, mn], I64 n) : Calls Tryz.prog 25 #[vlV 30 t1 g1 (.slice a1 b1 c1) s1 ⟨mk, my, mm, md, ms, mn, false, mz⟩ q1] w fun e w' => e = .returned (.string (rowT 30 [my, mm, md, ms, mn])) ∧ Below w.heap.size w w' := by
  have hI5 := hI
  rw [row_fl]
  have HF : Hid _ := fields_own [my, mm, md, ms, mn] (by simp) (by simp) hI5
  have HN : Hid _ := fun W hW => own_new W [my, mm, md, ms, mn] w.heap.size hW (by simp)
  have hs1 := nm_size 30
  have hs5 := fl_size [my, mm, md, ms, mn] hI5
  simp only [List.length_cons, List.length_nil] at hs5
  obtain ⟨nn, hnn⟩ : ∃ nn, nmS 30 = nn := ⟨_, rfl⟩
  obtain ⟨f5, hf5⟩ : ∃ nn, flT [my, mm, md, ms, mn] = nn := ⟨_, rfl⟩
  rw [hnn] at hs1
  rw [hf5] at hs5
  have HNM : Hid _ := fun W => name_r 30 W
  rw [hnn] at HNM
  rw [hf5] at HF
  rw [hnn, hf5]
  clear hI hI5 hnn hf5
  have hnot : ¬ (9223372036854775807 < nn.size + f5.size) := by omega
  obtain ⟨hx, hy, hb0⟩ := box_two w (.cells #[.int .i64 30, .string t1, .bool g1, .slice a1 b1 c1, .int .i64 s1, .int .i64 mk, .int .i64 my, .int .i64 mm, .int .i64 md, .int .i64 ms, .int .i64 mn, .bool false, .int .i64 mz, .int .i64 q1.o, .int .i64 q1.s, .int .i64 q1.n] 47) (.cells #[.int .i64 mk, .int .i64 my, .int .i64 mm, .int .i64 md, .int .i64 ms, .int .i64 mn, .bool false, .int .i64 mz] 44)
  go_enter Tryz.func25, Tryz.ntmps25
  obtain ⟨U, hU⟩ : ∃ U, (w.alloc (.cells #[.int .i64 30, .string t1, .bool g1, .slice a1 b1 c1, .int .i64 s1, .int .i64 mk, .int .i64 my, .int .i64 mm, .int .i64 md, .int .i64 ms, .int .i64 mn, .bool false, .int .i64 mz, .int .i64 q1.o, .int .i64 q1.s, .int .i64 q1.n] 47)).alloc (.cells #[.int .i64 mk, .int .i64 my, .int .i64 mm, .int .i64 md, .int .i64 ms, .int .i64 mn, .bool false, .int .i64 mz] 44) = U := ⟨_, rfl⟩
  rw [hU] at hx hy hb0
  go_upto_region 9 with fail
  try rw [hU]
  clear hU
  have HK : Hid _ := fun W (hW : Below U.heap.size U W) => cells8 ((hW.block _ (Dc.lt_of hx)).trans hx) ((hW.block _ (Dc.lt_of hy)).trans hy)
  have HK2 : Hid _ := fun W (hW : Below U.heap.size U W) => cells67 ((hW.block _ (Dc.lt_of hy)).trans hy)
  have HU : Hid _ := hb0
  have HB : Hid (Below U.heap.size U U.drew) := Dc.Below.drewN' 1
  have HBA : Hid (Below U.heap.size U (U.alloc (.cells #[.int .i64 my, .int .i64 mm, .int .i64 md, .int .i64 ms, .int .i64 mn] 3)).drew) := (bel1' (Below.refl U.heap.size U) _).drew
  have HOA : Hid ((U.alloc (.cells #[.int .i64 my, .int .i64 mm, .int .i64 md, .int .i64 ms, .int .i64 mn] 3)).drew.ownsRow w.heap.size 3 1 (.slice (some ⟨U.heap.size, 0, none⟩) 5 5) 5 (inV [my, mm, md, ms, mn])) := HN.out U HU.out.size _ rfl
  obtain ⟨y0, y1, y2, y3, y4, y5⟩ := HK.out _ HB.out
  clear hb0 hx hy
  go_region_held3 (fun W => W.cell? ⟨w.heap.size, 0, none⟩ = some (.int .i64 30) ∧ W.cell? ⟨w.heap.size + 1, 1, none⟩ = some (.int .i64 my) ∧ W.cell? ⟨w.heap.size + 1, 2, none⟩ = some (.int .i64 mm) ∧ W.cell? ⟨w.heap.size + 1, 3, none⟩ = some (.int .i64 md) ∧ W.cell? ⟨w.heap.size + 1, 4, none⟩ = some (.int .i64 ms) ∧ W.cell? ⟨w.heap.size + 1, 5, none⟩ = some (.int .i64 mn)) (first | with_reducible exact HK.out _ HB.out | with_reducible exact HK.out _ (bel1' HB.out _) | with_reducible exact HK.out _ HBA.out | fail) (first
    | (go_at_call 12; (first | ((with_reducible refine Calls.mono (HNM.out U.drew) ?_); rintro e w9 ⟨rfl, hb9⟩; have hbb := HB.out.trans (hb9.mono HB.out.size); clear HB; have HB : Hid (Below U.heap.size U w9) := hbb; clear hbb hb9) | ((with_reducible refine Calls.mono (HNM.out (U.alloc (.cells #[.int .i64 my, .int .i64 mm, .int .i64 md, .int .i64 ms, .int .i64 mn] 3)).drew) ?_); rintro e w9 ⟨rfl, hb9⟩; have hbb := HBA.out.trans (hb9.mono HBA.out.size); have HO9 : Hid (w9.ownsRow w.heap.size 3 1 (.slice (some ⟨U.heap.size, 0, none⟩) 5 5) 5 (inV [my, mm, md, ms, mn])) := M.row_below HOA.out hb9; clear HB; have HB : Hid (Below U.heap.size U w9) := hbb; clear hbb hb9)))
    | (go_at_call 48; (first | (refine Calls.mono (HF.out _ _ _ HO9.out) ?_; rintro e w10 ⟨rfl, hb9⟩; have hbb := HB.out.trans (hb9.mono HB.out.size); clear HB; have HB : Hid (Below U.heap.size U w10) := hbb; clear hbb hb9) | (refine Calls.mono (HF.out _ _ _ (HN.out _ (HU.out.trans (HB.out.mono HU.out.size)).size _ rfl)) ?_; rintro e w10 ⟨rfl, hb9⟩; have hb8 := bel1' HB.out (.cells (inV [my, mm, md, ms, mn]).toArray 3); have hbb := hb8.trans (hb9.mono hb8.size); clear HB hb8; have HB : Hid (Below U.heap.size U w10) := hbb; clear hbb hb9)))
    | fail)
  all_goals
    have hz67 := HK2.out _ HB.out
    obtain ⟨z6, z7⟩ := hz67
    go_wp2_with fail
    go_ret
    exact ⟨rfl, HU.out.trans (HB.out.mono HU.out.size)⟩
set_option maxRecDepth 100000 in
set_option maxHeartbeats 6400000 in
theorem rtext_m30t (t1 : ByteArray) (g1 : Bool) (a1 : Option Addr) (b1 c1 : Nat) (s1 mk my mm md ms mn mz : Int) (q1 : Dt.Sp) {w : World} (hI : ∀ n ∈ [my, mm, md, ms, mn, mz], I64 n) : Calls Tryz.prog 25 #[vlV 30 t1 g1 (.slice a1 b1 c1) s1 ⟨mk, my, mm, md, ms, mn, true, mz⟩ q1] w fun e w' => e = .returned (.string (rowT 30 [my, mm, md, ms, mn, mz])) ∧ Below w.heap.size w w' := by
  have hI5 : ∀ n ∈ [my, mm, md, ms, mn], I64 n := fun n hn => hI n (by simp only [List.mem_cons, List.not_mem_nil, or_false] at hn ⊢; rcases hn with h | h | h | h | h <;> simp [h])
  have hI1 : ∀ n ∈ [mz], I64 n := fun n hn => hI n (by simp only [List.mem_cons, List.not_mem_nil, or_false] at hn ⊢; simp [hn])
  have HE : Hid (rowT 30 [my, mm, md, ms, mn, mz] = nmS 30 ++ flT [my, mm, md, ms, mn] ++ flT [mz]) := by
    show _ = _
    rw [row_fl, show [my, mm, md, ms, mn, mz] = [my, mm, md, ms, mn] ++ [mz] from rfl, flT_app]
    apply ByteArray.ext
    simp
  rw [HE.out]
  have HF1 : Hid _ := fields_own [mz] (by simp) (by simp) hI1
  have HN1 : Hid _ := fun W hW => own_new W [mz] w.heap.size hW (by simp)
  have hsz := fl_size [mz] hI1
  have HF : Hid _ := fields_own [my, mm, md, ms, mn] (by simp) (by simp) hI5
  have HN : Hid _ := fun W hW => own_new W [my, mm, md, ms, mn] w.heap.size hW (by simp)
  have hs1 := nm_size 30
  have hs5 := fl_size [my, mm, md, ms, mn] hI5
  simp only [List.length_cons, List.length_nil] at hs5 hsz
  obtain ⟨nn, hnn⟩ : ∃ nn, nmS 30 = nn := ⟨_, rfl⟩
  obtain ⟨f5, hf5⟩ : ∃ nn, flT [my, mm, md, ms, mn] = nn := ⟨_, rfl⟩
  rw [hnn] at hs1
  rw [hf5] at hs5
  obtain ⟨fz, hfz⟩ : ∃ nn, flT [mz] = nn := ⟨_, rfl⟩
  rw [hfz] at hsz HF1 ⊢
  clear hfz
  have HNM : Hid _ := fun W => name_r 30 W
  rw [hnn] at HNM
  rw [hf5] at HF
  rw [hnn, hf5]
  clear hI hI5 hnn hf5
  have hnot : ¬ (9223372036854775807 < nn.size + f5.size) := by omega
  have hnot2 : ¬ (9223372036854775807 < nn.size + f5.size + fz.size) := by omega
  obtain ⟨hx, hy, hb0⟩ := box_two w (.cells #[.int .i64 30, .string t1, .bool g1, .slice a1 b1 c1, .int .i64 s1, .int .i64 mk, .int .i64 my, .int .i64 mm, .int .i64 md, .int .i64 ms, .int .i64 mn, .bool true, .int .i64 mz, .int .i64 q1.o, .int .i64 q1.s, .int .i64 q1.n] 47) (.cells #[.int .i64 mk, .int .i64 my, .int .i64 mm, .int .i64 md, .int .i64 ms, .int .i64 mn, .bool true, .int .i64 mz] 44)
  go_enter Tryz.func25, Tryz.ntmps25
  obtain ⟨U, hU⟩ : ∃ U, (w.alloc (.cells #[.int .i64 30, .string t1, .bool g1, .slice a1 b1 c1, .int .i64 s1, .int .i64 mk, .int .i64 my, .int .i64 mm, .int .i64 md, .int .i64 ms, .int .i64 mn, .bool true, .int .i64 mz, .int .i64 q1.o, .int .i64 q1.s, .int .i64 q1.n] 47)).alloc (.cells #[.int .i64 mk, .int .i64 my, .int .i64 mm, .int .i64 md, .int .i64 ms, .int .i64 mn, .bool true, .int .i64 mz] 44) = U := ⟨_, rfl⟩
  rw [hU] at hx hy hb0
  go_upto_region 9 with fail
  try rw [hU]
  clear hU
  have HK : Hid _ := fun W (hW : Below U.heap.size U W) => cells8 ((hW.block _ (Dc.lt_of hx)).trans hx) ((hW.block _ (Dc.lt_of hy)).trans hy)
  have HK2 : Hid _ := fun W (hW : Below U.heap.size U W) => cells67 ((hW.block _ (Dc.lt_of hy)).trans hy)
  have HU : Hid _ := hb0
  have HB : Hid (Below U.heap.size U U.drew) := Dc.Below.drewN' 1
  have HBA : Hid (Below U.heap.size U (U.alloc (.cells #[.int .i64 my, .int .i64 mm, .int .i64 md, .int .i64 ms, .int .i64 mn] 3)).drew) := (bel1' (Below.refl U.heap.size U) _).drew
  have HOA : Hid ((U.alloc (.cells #[.int .i64 my, .int .i64 mm, .int .i64 md, .int .i64 ms, .int .i64 mn] 3)).drew.ownsRow w.heap.size 3 1 (.slice (some ⟨U.heap.size, 0, none⟩) 5 5) 5 (inV [my, mm, md, ms, mn])) := HN.out U HU.out.size _ rfl
  obtain ⟨y0, y1, y2, y3, y4, y5⟩ := HK.out _ HB.out
  clear hb0 hx hy
  go_region_held3 (fun W => W.cell? ⟨w.heap.size, 0, none⟩ = some (.int .i64 30) ∧ W.cell? ⟨w.heap.size + 1, 1, none⟩ = some (.int .i64 my) ∧ W.cell? ⟨w.heap.size + 1, 2, none⟩ = some (.int .i64 mm) ∧ W.cell? ⟨w.heap.size + 1, 3, none⟩ = some (.int .i64 md) ∧ W.cell? ⟨w.heap.size + 1, 4, none⟩ = some (.int .i64 ms) ∧ W.cell? ⟨w.heap.size + 1, 5, none⟩ = some (.int .i64 mn)) (first | with_reducible exact HK.out _ HB.out | with_reducible exact HK.out _ (bel1' HB.out _) | with_reducible exact HK.out _ HBA.out | fail) (first
    | (go_at_call 12; (first | ((with_reducible refine Calls.mono (HNM.out U.drew) ?_); rintro e w9 ⟨rfl, hb9⟩; have hbb := HB.out.trans (hb9.mono HB.out.size); clear HB; have HB : Hid (Below U.heap.size U w9) := hbb; clear hbb hb9) | ((with_reducible refine Calls.mono (HNM.out (U.alloc (.cells #[.int .i64 my, .int .i64 mm, .int .i64 md, .int .i64 ms, .int .i64 mn] 3)).drew) ?_); rintro e w9 ⟨rfl, hb9⟩; have hbb := HBA.out.trans (hb9.mono HBA.out.size); have HO9 : Hid (w9.ownsRow w.heap.size 3 1 (.slice (some ⟨U.heap.size, 0, none⟩) 5 5) 5 (inV [my, mm, md, ms, mn])) := M.row_below HOA.out hb9; clear HB; have HB : Hid (Below U.heap.size U w9) := hbb; clear hbb hb9)))
    | (go_at_call 48; (first | (refine Calls.mono (HF.out _ _ _ HO9.out) ?_; rintro e w10 ⟨rfl, hb9⟩; have hbb := HB.out.trans (hb9.mono HB.out.size); clear HB; have HB : Hid (Below U.heap.size U w10) := hbb; clear hbb hb9) | (refine Calls.mono (HF.out _ _ _ (HN.out _ (HU.out.trans (HB.out.mono HU.out.size)).size _ rfl)) ?_; rintro e w10 ⟨rfl, hb9⟩; have hb8 := bel1' HB.out (.cells (inV [my, mm, md, ms, mn]).toArray 3); have hbb := hb8.trans (hb9.mono hb8.size); clear HB hb8; have HB : Hid (Below U.heap.size U w10) := hbb; clear hbb hb9)))
    | fail)
  all_goals
    have hz67 := HK2.out _ HB.out
    obtain ⟨z6, z7⟩ := hz67
    go_wp2_with (go_at_call 48; refine Calls.mono (HF1.out _ _ _ (HN1.out _ (HU.out.trans (HB.out.mono HU.out.size)).size _ rfl)) ?_; rintro e w11 ⟨rfl, hb9⟩; have hb8 := bel1' HB.out (.cells (inV [mz]).toArray 3); have hbb := hb8.trans (hb9.mono hb8.size); clear hb8; have HB11 : Hid (Below U.heap.size U w11) := hbb; clear hbb hb9)
    go_ret
    exact ⟨rfl, HU.out.trans (HB11.out.mono HU.out.size)⟩
set_option maxRecDepth 100000 in
set_option maxHeartbeats 6400000 in
theorem rtext_m31f (t1 : ByteArray) (g1 : Bool) (a1 : Option Addr) (b1 c1 : Nat) (s1 mk my mm md ms mn mz : Int) (q1 : Dt.Sp) {w : World} (hI : ∀ n ∈ [my, mm, md, ms, mn], I64 n) : Calls Tryz.prog 25 #[vlV 31 t1 g1 (.slice a1 b1 c1) s1 ⟨mk, my, mm, md, ms, mn, false, mz⟩ q1] w fun e w' => e = .returned (.string (rowT 31 [my, mm, md, ms, mn])) ∧ Below w.heap.size w w' := by
  have hI5 := hI
  rw [row_fl]
  have HF : Hid _ := fields_own [my, mm, md, ms, mn] (by simp) (by simp) hI5
  have HN : Hid _ := fun W hW => own_new W [my, mm, md, ms, mn] w.heap.size hW (by simp)
  have hs1 := nm_size 31
  have hs5 := fl_size [my, mm, md, ms, mn] hI5
  simp only [List.length_cons, List.length_nil] at hs5
  obtain ⟨nn, hnn⟩ : ∃ nn, nmS 31 = nn := ⟨_, rfl⟩
  obtain ⟨f5, hf5⟩ : ∃ nn, flT [my, mm, md, ms, mn] = nn := ⟨_, rfl⟩
  rw [hnn] at hs1
  rw [hf5] at hs5
  have HNM : Hid _ := fun W => name_r 31 W
  rw [hnn] at HNM
  rw [hf5] at HF
  rw [hnn, hf5]
  clear hI hI5 hnn hf5
  have hnot : ¬ (9223372036854775807 < nn.size + f5.size) := by omega
  obtain ⟨hx, hy, hb0⟩ := box_two w (.cells #[.int .i64 31, .string t1, .bool g1, .slice a1 b1 c1, .int .i64 s1, .int .i64 mk, .int .i64 my, .int .i64 mm, .int .i64 md, .int .i64 ms, .int .i64 mn, .bool false, .int .i64 mz, .int .i64 q1.o, .int .i64 q1.s, .int .i64 q1.n] 47) (.cells #[.int .i64 mk, .int .i64 my, .int .i64 mm, .int .i64 md, .int .i64 ms, .int .i64 mn, .bool false, .int .i64 mz] 44)
  go_enter Tryz.func25, Tryz.ntmps25
  obtain ⟨U, hU⟩ : ∃ U, (w.alloc (.cells #[.int .i64 31, .string t1, .bool g1, .slice a1 b1 c1, .int .i64 s1, .int .i64 mk, .int .i64 my, .int .i64 mm, .int .i64 md, .int .i64 ms, .int .i64 mn, .bool false, .int .i64 mz, .int .i64 q1.o, .int .i64 q1.s, .int .i64 q1.n] 47)).alloc (.cells #[.int .i64 mk, .int .i64 my, .int .i64 mm, .int .i64 md, .int .i64 ms, .int .i64 mn, .bool false, .int .i64 mz] 44) = U := ⟨_, rfl⟩
  rw [hU] at hx hy hb0
  go_upto_region 9 with fail
  try rw [hU]
  clear hU
  have HK : Hid _ := fun W (hW : Below U.heap.size U W) => cells8 ((hW.block _ (Dc.lt_of hx)).trans hx) ((hW.block _ (Dc.lt_of hy)).trans hy)
  have HK2 : Hid _ := fun W (hW : Below U.heap.size U W) => cells67 ((hW.block _ (Dc.lt_of hy)).trans hy)
  have HU : Hid _ := hb0
  have HB : Hid (Below U.heap.size U U.drew) := Dc.Below.drewN' 1
  have HBA : Hid (Below U.heap.size U (U.alloc (.cells #[.int .i64 my, .int .i64 mm, .int .i64 md, .int .i64 ms, .int .i64 mn] 3)).drew) := (bel1' (Below.refl U.heap.size U) _).drew
  have HOA : Hid ((U.alloc (.cells #[.int .i64 my, .int .i64 mm, .int .i64 md, .int .i64 ms, .int .i64 mn] 3)).drew.ownsRow w.heap.size 3 1 (.slice (some ⟨U.heap.size, 0, none⟩) 5 5) 5 (inV [my, mm, md, ms, mn])) := HN.out U HU.out.size _ rfl
  obtain ⟨y0, y1, y2, y3, y4, y5⟩ := HK.out _ HB.out
  clear hb0 hx hy
  go_region_held3 (fun W => W.cell? ⟨w.heap.size, 0, none⟩ = some (.int .i64 31) ∧ W.cell? ⟨w.heap.size + 1, 1, none⟩ = some (.int .i64 my) ∧ W.cell? ⟨w.heap.size + 1, 2, none⟩ = some (.int .i64 mm) ∧ W.cell? ⟨w.heap.size + 1, 3, none⟩ = some (.int .i64 md) ∧ W.cell? ⟨w.heap.size + 1, 4, none⟩ = some (.int .i64 ms) ∧ W.cell? ⟨w.heap.size + 1, 5, none⟩ = some (.int .i64 mn)) (first | with_reducible exact HK.out _ HB.out | with_reducible exact HK.out _ (bel1' HB.out _) | with_reducible exact HK.out _ HBA.out | fail) (first
    | (go_at_call 12; (first | ((with_reducible refine Calls.mono (HNM.out U.drew) ?_); rintro e w9 ⟨rfl, hb9⟩; have hbb := HB.out.trans (hb9.mono HB.out.size); clear HB; have HB : Hid (Below U.heap.size U w9) := hbb; clear hbb hb9) | ((with_reducible refine Calls.mono (HNM.out (U.alloc (.cells #[.int .i64 my, .int .i64 mm, .int .i64 md, .int .i64 ms, .int .i64 mn] 3)).drew) ?_); rintro e w9 ⟨rfl, hb9⟩; have hbb := HBA.out.trans (hb9.mono HBA.out.size); have HO9 : Hid (w9.ownsRow w.heap.size 3 1 (.slice (some ⟨U.heap.size, 0, none⟩) 5 5) 5 (inV [my, mm, md, ms, mn])) := M.row_below HOA.out hb9; clear HB; have HB : Hid (Below U.heap.size U w9) := hbb; clear hbb hb9)))
    | (go_at_call 48; (first | (refine Calls.mono (HF.out _ _ _ HO9.out) ?_; rintro e w10 ⟨rfl, hb9⟩; have hbb := HB.out.trans (hb9.mono HB.out.size); clear HB; have HB : Hid (Below U.heap.size U w10) := hbb; clear hbb hb9) | (refine Calls.mono (HF.out _ _ _ (HN.out _ (HU.out.trans (HB.out.mono HU.out.size)).size _ rfl)) ?_; rintro e w10 ⟨rfl, hb9⟩; have hb8 := bel1' HB.out (.cells (inV [my, mm, md, ms, mn]).toArray 3); have hbb := hb8.trans (hb9.mono hb8.size); clear HB hb8; have HB : Hid (Below U.heap.size U w10) := hbb; clear hbb hb9)))
    | fail)
  all_goals
    have hz67 := HK2.out _ HB.out
    obtain ⟨z6, z7⟩ := hz67
    go_wp2_with fail
    go_ret
    exact ⟨rfl, HU.out.trans (HB.out.mono HU.out.size)⟩
set_option maxRecDepth 100000 in
set_option maxHeartbeats 6400000 in
theorem rtext_m31t (t1 : ByteArray) (g1 : Bool) (a1 : Option Addr) (b1 c1 : Nat) (s1 mk my mm md ms mn mz : Int) (q1 : Dt.Sp) {w : World} (hI : ∀ n ∈ [my, mm, md, ms, mn, mz], I64 n) : Calls Tryz.prog 25 #[vlV 31 t1 g1 (.slice a1 b1 c1) s1 ⟨mk, my, mm, md, ms, mn, true, mz⟩ q1] w fun e w' => e = .returned (.string (rowT 31 [my, mm, md, ms, mn, mz])) ∧ Below w.heap.size w w' := by
  have hI5 : ∀ n ∈ [my, mm, md, ms, mn], I64 n := fun n hn => hI n (by simp only [List.mem_cons, List.not_mem_nil, or_false] at hn ⊢; rcases hn with h | h | h | h | h <;> simp [h])
  have hI1 : ∀ n ∈ [mz], I64 n := fun n hn => hI n (by simp only [List.mem_cons, List.not_mem_nil, or_false] at hn ⊢; simp [hn])
  have HE : Hid (rowT 31 [my, mm, md, ms, mn, mz] = nmS 31 ++ flT [my, mm, md, ms, mn] ++ flT [mz]) := by
    show _ = _
    rw [row_fl, show [my, mm, md, ms, mn, mz] = [my, mm, md, ms, mn] ++ [mz] from rfl, flT_app]
    apply ByteArray.ext
    simp
  rw [HE.out]
  have HF1 : Hid _ := fields_own [mz] (by simp) (by simp) hI1
  have HN1 : Hid _ := fun W hW => own_new W [mz] w.heap.size hW (by simp)
  have hsz := fl_size [mz] hI1
  have HF : Hid _ := fields_own [my, mm, md, ms, mn] (by simp) (by simp) hI5
  have HN : Hid _ := fun W hW => own_new W [my, mm, md, ms, mn] w.heap.size hW (by simp)
  have hs1 := nm_size 31
  have hs5 := fl_size [my, mm, md, ms, mn] hI5
  simp only [List.length_cons, List.length_nil] at hs5 hsz
  obtain ⟨nn, hnn⟩ : ∃ nn, nmS 31 = nn := ⟨_, rfl⟩
  obtain ⟨f5, hf5⟩ : ∃ nn, flT [my, mm, md, ms, mn] = nn := ⟨_, rfl⟩
  rw [hnn] at hs1
  rw [hf5] at hs5
  obtain ⟨fz, hfz⟩ : ∃ nn, flT [mz] = nn := ⟨_, rfl⟩
  rw [hfz] at hsz HF1 ⊢
  clear hfz
  have HNM : Hid _ := fun W => name_r 31 W
  rw [hnn] at HNM
  rw [hf5] at HF
  rw [hnn, hf5]
  clear hI hI5 hnn hf5
  have hnot : ¬ (9223372036854775807 < nn.size + f5.size) := by omega
  have hnot2 : ¬ (9223372036854775807 < nn.size + f5.size + fz.size) := by omega
  obtain ⟨hx, hy, hb0⟩ := box_two w (.cells #[.int .i64 31, .string t1, .bool g1, .slice a1 b1 c1, .int .i64 s1, .int .i64 mk, .int .i64 my, .int .i64 mm, .int .i64 md, .int .i64 ms, .int .i64 mn, .bool true, .int .i64 mz, .int .i64 q1.o, .int .i64 q1.s, .int .i64 q1.n] 47) (.cells #[.int .i64 mk, .int .i64 my, .int .i64 mm, .int .i64 md, .int .i64 ms, .int .i64 mn, .bool true, .int .i64 mz] 44)
  go_enter Tryz.func25, Tryz.ntmps25
  obtain ⟨U, hU⟩ : ∃ U, (w.alloc (.cells #[.int .i64 31, .string t1, .bool g1, .slice a1 b1 c1, .int .i64 s1, .int .i64 mk, .int .i64 my, .int .i64 mm, .int .i64 md, .int .i64 ms, .int .i64 mn, .bool true, .int .i64 mz, .int .i64 q1.o, .int .i64 q1.s, .int .i64 q1.n] 47)).alloc (.cells #[.int .i64 mk, .int .i64 my, .int .i64 mm, .int .i64 md, .int .i64 ms, .int .i64 mn, .bool true, .int .i64 mz] 44) = U := ⟨_, rfl⟩
  rw [hU] at hx hy hb0
  go_upto_region 9 with fail
  try rw [hU]
  clear hU
  have HK : Hid _ := fun W (hW : Below U.heap.size U W) => cells8 ((hW.block _ (Dc.lt_of hx)).trans hx) ((hW.block _ (Dc.lt_of hy)).trans hy)
  have HK2 : Hid _ := fun W (hW : Below U.heap.size U W) => cells67 ((hW.block _ (Dc.lt_of hy)).trans hy)
  have HU : Hid _ := hb0
  have HB : Hid (Below U.heap.size U U.drew) := Dc.Below.drewN' 1
  have HBA : Hid (Below U.heap.size U (U.alloc (.cells #[.int .i64 my, .int .i64 mm, .int .i64 md, .int .i64 ms, .int .i64 mn] 3)).drew) := (bel1' (Below.refl U.heap.size U) _).drew
  have HOA : Hid ((U.alloc (.cells #[.int .i64 my, .int .i64 mm, .int .i64 md, .int .i64 ms, .int .i64 mn] 3)).drew.ownsRow w.heap.size 3 1 (.slice (some ⟨U.heap.size, 0, none⟩) 5 5) 5 (inV [my, mm, md, ms, mn])) := HN.out U HU.out.size _ rfl
  obtain ⟨y0, y1, y2, y3, y4, y5⟩ := HK.out _ HB.out
  clear hb0 hx hy
  go_region_held3 (fun W => W.cell? ⟨w.heap.size, 0, none⟩ = some (.int .i64 31) ∧ W.cell? ⟨w.heap.size + 1, 1, none⟩ = some (.int .i64 my) ∧ W.cell? ⟨w.heap.size + 1, 2, none⟩ = some (.int .i64 mm) ∧ W.cell? ⟨w.heap.size + 1, 3, none⟩ = some (.int .i64 md) ∧ W.cell? ⟨w.heap.size + 1, 4, none⟩ = some (.int .i64 ms) ∧ W.cell? ⟨w.heap.size + 1, 5, none⟩ = some (.int .i64 mn)) (first | with_reducible exact HK.out _ HB.out | with_reducible exact HK.out _ (bel1' HB.out _) | with_reducible exact HK.out _ HBA.out | fail) (first
    | (go_at_call 12; (first | ((with_reducible refine Calls.mono (HNM.out U.drew) ?_); rintro e w9 ⟨rfl, hb9⟩; have hbb := HB.out.trans (hb9.mono HB.out.size); clear HB; have HB : Hid (Below U.heap.size U w9) := hbb; clear hbb hb9) | ((with_reducible refine Calls.mono (HNM.out (U.alloc (.cells #[.int .i64 my, .int .i64 mm, .int .i64 md, .int .i64 ms, .int .i64 mn] 3)).drew) ?_); rintro e w9 ⟨rfl, hb9⟩; have hbb := HBA.out.trans (hb9.mono HBA.out.size); have HO9 : Hid (w9.ownsRow w.heap.size 3 1 (.slice (some ⟨U.heap.size, 0, none⟩) 5 5) 5 (inV [my, mm, md, ms, mn])) := M.row_below HOA.out hb9; clear HB; have HB : Hid (Below U.heap.size U w9) := hbb; clear hbb hb9)))
    | (go_at_call 48; (first | (refine Calls.mono (HF.out _ _ _ HO9.out) ?_; rintro e w10 ⟨rfl, hb9⟩; have hbb := HB.out.trans (hb9.mono HB.out.size); clear HB; have HB : Hid (Below U.heap.size U w10) := hbb; clear hbb hb9) | (refine Calls.mono (HF.out _ _ _ (HN.out _ (HU.out.trans (HB.out.mono HU.out.size)).size _ rfl)) ?_; rintro e w10 ⟨rfl, hb9⟩; have hb8 := bel1' HB.out (.cells (inV [my, mm, md, ms, mn]).toArray 3); have hbb := hb8.trans (hb9.mono hb8.size); clear HB hb8; have HB : Hid (Below U.heap.size U w10) := hbb; clear hbb hb9)))
    | fail)
  all_goals
    have hz67 := HK2.out _ HB.out
    obtain ⟨z6, z7⟩ := hz67
    go_wp2_with (go_at_call 48; refine Calls.mono (HF1.out _ _ _ (HN1.out _ (HU.out.trans (HB.out.mono HU.out.size)).size _ rfl)) ?_; rintro e w11 ⟨rfl, hb9⟩; have hb8 := bel1' HB.out (.cells (inV [mz]).toArray 3); have hbb := hb8.trans (hb9.mono hb8.size); clear hb8; have HB11 : Hid (Below U.heap.size U w11) := hbb; clear hbb hb9)
    go_ret
    exact ⟨rfl, HU.out.trans (HB11.out.mono HU.out.size)⟩
/-- Text of the second telling, of a value. -/
theorem rtext_a {w : World} {v : Value} {d : Kd} (h : VlA w v d) (o1 : KdOk d) : Calls Tryz.prog 25 #[v] w fun e w' => e = .returned (.string (txK d)) ∧ Below w.heap.size w w' := by
  obtain ⟨a, c, rfl, hb⟩ := h
  cases d with
  | txt p t => exact rtext_t p o1 t _ _ _ _ _ _ _ w
  | num n => exact rtext_n ⟨#[]⟩ _ _ ⟨hb, o1.1, o1.2⟩
  | spn q => exact rtext_spn _ _ _ _ _ _ _ _ o1
  | mom k m =>
    obtain ⟨h0, h1, hl⟩ := o1
    obtain ⟨i1, i2, i3, i4, i5, i6⟩ := mo_I hl
    obtain ⟨mk, my, mm, md, ms, mn, mh, mz⟩ := m
    cases mh with
    | false =>
      have hI : ∀ n ∈ [my, mm, md, ms, mn], I64 n := by
        intro n hn
        simp only [List.mem_cons, List.not_mem_nil, or_false] at hn
        rcases hn with rfl | rfl | rfl | rfl | rfl <;> assumption
      rcases (by omega : k = 24 ∨ k = 25 ∨ k = 26 ∨ k = 27 ∨ k = 28 ∨ k = 29 ∨ k = 30 ∨ k = 31) with rfl | rfl | rfl | rfl | rfl | rfl | rfl | rfl
      · exact rtext_m24f _ _ _ _ _ _ _ _ _ _ _ _ _ _ hI
      · exact rtext_m25f _ _ _ _ _ _ _ _ _ _ _ _ _ _ hI
      · exact rtext_m26f _ _ _ _ _ _ _ _ _ _ _ _ _ _ hI
      · exact rtext_m27f _ _ _ _ _ _ _ _ _ _ _ _ _ _ hI
      · exact rtext_m28f _ _ _ _ _ _ _ _ _ _ _ _ _ _ hI
      · exact rtext_m29f _ _ _ _ _ _ _ _ _ _ _ _ _ _ hI
      · exact rtext_m30f _ _ _ _ _ _ _ _ _ _ _ _ _ _ hI
      · exact rtext_m31f _ _ _ _ _ _ _ _ _ _ _ _ _ _ hI
    | true =>
      have hI : ∀ n ∈ [my, mm, md, ms, mn, mz], I64 n := by
        intro n hn
        simp only [List.mem_cons, List.not_mem_nil, or_false] at hn
        rcases hn with rfl | rfl | rfl | rfl | rfl | rfl <;> assumption
      rcases (by omega : k = 24 ∨ k = 25 ∨ k = 26 ∨ k = 27 ∨ k = 28 ∨ k = 29 ∨ k = 30 ∨ k = 31) with rfl | rfl | rfl | rfl | rfl | rfl | rfl | rfl
      · exact rtext_m24t _ _ _ _ _ _ _ _ _ _ _ _ _ _ hI
      · exact rtext_m25t _ _ _ _ _ _ _ _ _ _ _ _ _ _ hI
      · exact rtext_m26t _ _ _ _ _ _ _ _ _ _ _ _ _ _ hI
      · exact rtext_m27t _ _ _ _ _ _ _ _ _ _ _ _ _ _ hI
      · exact rtext_m28t _ _ _ _ _ _ _ _ _ _ _ _ _ _ hI
      · exact rtext_m29t _ _ _ _ _ _ _ _ _ _ _ _ _ _ hI
      · exact rtext_m30t _ _ _ _ _ _ _ _ _ _ _ _ _ _ hI
      · exact rtext_m31t _ _ _ _ _ _ _ _ _ _ _ _ _ _ hI
end Go.Proofs.YtgaegajcejpmdaaGreatDoor
namespace Go.Proofs.YtgaegajcejpmdaaGreatDoor
open Go.RowKit
set_option linter.unusedVariables false
set_option linter.unusedSimpArgs false

set_option maxRecDepth 100000 in
set_option maxHeartbeats 6400000 in
theorem like_l {p s : Int} {t : ByteArray} {g : Bool} {a a' : Option Addr} {b c c' : Nat} {m : Dt.Mo} {q : Dt.Sp} {l : List Int} {w : World} (h1 : Dc.BtR w (.slice a b c) l) (h2 : Dc.BtR w (.slice a' b c') l) : Calls Tryz.prog 23 #[vlV p t g (.slice a b c) s m q, vlV p t g (.slice a' b c') s m q] w fun e w' => e = .returned (.bool true) ∧ Below w.heap.size w w' := by
  obtain ⟨hx, hy, hb⟩ := box_two w (.cells #[.int .i64 p, .string t, .bool g, .slice a b c, .int .i64 s, .int .i64 m.k, .int .i64 m.y, .int .i64 m.m, .int .i64 m.d, .int .i64 m.s, .int .i64 m.n, .bool m.hz, .int .i64 m.z, .int .i64 q.o, .int .i64 q.s, .int .i64 q.n] 40) (.cells #[.int .i64 p, .string t, .bool g, .slice a' b c', .int .i64 s, .int .i64 m.k, .int .i64 m.y, .int .i64 m.m, .int .i64 m.d, .int .i64 m.s, .int .i64 m.n, .bool m.hz, .int .i64 m.z, .int .i64 q.o, .int .i64 q.s, .int .i64 q.n] 47)
  have cv1 := Dc.conv_str (h1.below hb)
  have cv2 := Dc.conv_str (h2.below hb)
  have HB : Hid _ := hb
  clear hb h1 h2
  go_enter Tryz.func23, Tryz.ntmps23
  obtain ⟨U, hU⟩ : ∃ U, (w.alloc (.cells #[.int .i64 p, .string t, .bool g, .slice a b c, .int .i64 s, .int .i64 m.k, .int .i64 m.y, .int .i64 m.m, .int .i64 m.d, .int .i64 m.s, .int .i64 m.n, .bool m.hz, .int .i64 m.z, .int .i64 q.o, .int .i64 q.s, .int .i64 q.n] 40)).alloc (.cells #[.int .i64 p, .string t, .bool g, .slice a' b c', .int .i64 s, .int .i64 m.k, .int .i64 m.y, .int .i64 m.m, .int .i64 m.d, .int .i64 m.s, .int .i64 m.n, .bool m.hz, .int .i64 m.z, .int .i64 q.o, .int .i64 q.s, .int .i64 q.n] 47) = U := ⟨_, rfl⟩
  rw [hU] at hx hy cv1 cv2 HB
  go_upto_region 1 with fail
  try rw [hU]
  clear hU
  have k0 := c16 hx
  obtain ⟨f0, f1, f2, f3, f4, f5, f6, f7, f8, f9, f10, f11, f12, f13, f14, f15⟩ := k0
  have k1 := c16 hy
  obtain ⟨g0, g1, g2, g3, g4, g5, g6, g7, g8, g9, g10, g11, g12, g13, g14, g15⟩ := k1
  clear hx hy
  go_wp2_with fail
  go_ret
  exact ⟨rfl, HB.out⟩
end Go.Proofs.YtgaegajcejpmdaaGreatDoor
