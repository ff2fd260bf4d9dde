/- The program: laid. -/
import Derived.Test.YtakemkhgaicckaaDoorD8
import Derived.Laws.CopyOwn
namespace Go.Proofs.YtakemkhgaicckaaDoor
open Go.RowKit
set_option linter.unusedVariables false
set_option linter.unusedSimpArgs false

theorem ext_splice {l : List Int} {sc x s : Nat} (h1 : sc ≤ l.length) (h2 : l.length - sc ≤ x) (h3 : sc ≤ s) : splice ((List.replicate (x + s) (0 : Int)).map (Value.int .u8)) (x - (l.length - sc)) (l.map (Value.int .u8)) = (ext l sc x s).map (Value.int .u8) := by
  unfold splice ext
  rw [← List.map_take, ← List.map_drop, List.take_replicate, List.drop_replicate, List.map_append, List.map_append, List.length_map]
  have e1 : min (x - (l.length - sc)) (x + s) = x - (l.length - sc) := by omega
  have e2 : x + s - (x - (l.length - sc) + l.length) = s - sc := by omega
  rw [e1, e2]
theorem info5s : (Tryd.prog.info? 5).map (·.size) = some 1 := by kernel_rfl
set_option maxRecDepth 100000 in
set_option maxHeartbeats 6400000 in
theorem laid_p {w : World} {v : Value} {n : Nm} (h : NmR w v n) (x s : Nat) (hx : n.2.1.length - n.2.2 ≤ x) (hs : n.2.2 ≤ s) (hm : x + s ≤ 20000) : Calls Tryd.prog 21 #[nmV n.1 v n.2.2, .int .i64 x, .int .i64 s] w fun e w' => ∃ T, e = .returned (.slice (some ⟨T, 0, none⟩) (x + s) (x + s)) ∧ w'.heap[T]? = some (.cells ((ext n.2.1 n.2.2 x s).map (Value.int .u8)).toArray 5 (0, 0)) ∧ w.heap.size ≤ T ∧ Below w.heap.size w w' := by
  obtain ⟨i5, z5, hi5, hz0, hzc, hz1, hz3⟩ := info5p
  have hz5 : z5 = .int .u8 0 := by
    have hh : (Tryd.prog.info? 5).bind (fun i => i.zero) = some (.int .u8 0) := by kernel_rfl
    rw [hi5] at hh
    simp at hh
    rw [hz0] at hh
    simpa using hh
  have hlen := h.cn.1.len
  have hle := h.le
  have hne : n.2.1 ≠ [] := fun e => by rw [e] at hlen; simp at hlen
  have hsp := ext_splice (l := n.2.1) (sc := n.2.2) (x := x) (s := s) (by omega) hx hs
  have hbx : Below w.heap.size w (w.alloc (.cells #[.bool n.1, v, .int .i64 n.2.2] 25)) := (Below.refl _ _).alloc (Nat.le_refl _) _
  have hbk := nw_heap w (.cells #[.bool n.1, v, .int .i64 n.2.2] 25)
  generalize hU0 : (w.alloc (.cells #[.bool n.1, v, .int .i64 n.2.2] 25)) = U0 at hbx hbk
  have hsz0 : U0.heap.size = w.heap.size + 1 := by rw [← hU0]; simp
  have hmk := run_makeSlice (P := Tryd.prog) U0 23 5 i5 z5 Tryd.underlying23 hi5 hz0 .i64 .i64 ((x : Int) + s) ((x : Int) + s) (by omega) (by omega) (by rw [hz1]; omega) (by rw [hz3]; omega) (by omega)
  obtain ⟨N, hN⟩ : ∃ N, x + s = N := ⟨_, rfl⟩
  have htn : ((x : Int) + s).toNat = N := by omega
  rw [htn, hz1, hz5, made8] at hmk
  have hbA : Below U0.heap.size U0 (U0.alloc (.cells ((List.replicate N (0 : Int)).map (Value.int .u8)).toArray 5)) := (Below.refl _ _).alloc (Nat.le_refl _) _
  have hO := nw_heap U0 (.cells ((List.replicate N (0 : Int)).map (Value.int .u8)).toArray 5)
  generalize (U0.alloc (.cells ((List.replicate N (0 : Int)).map (Value.int .u8)).toArray 5)) = U at *
  have hbU := hbx.trans (hbA.mono hbx.size)
  have hBk := (hbA.block _ (lt_of hbk)).trans hbk
  have qa := fun W (hW : Below U.heap.size U W) => ahead_p (h.bt.below (hbU.trans (hW.mono hbU.size))) n.1 n.2.2 (by omega) (by omega)
  have qt := fun W (hW : Below U.heap.size U W) => h.bt.below (hbU.trans (hW.mono hbU.size))
  obtain ⟨va, vc, rfl, hv1, hv2⟩ := h.bt.form
  obtain ⟨k, hk⟩ : ∃ k, k = x - (n.2.1.length - n.2.2) := ⟨_, rfl⟩
  have hkA : (x : Int) - ((n.2.1.length : Int) - n.2.2) = (k : Int) := by omega
  have hk1 : k + n.2.1.length ≤ N := by omega
  have hkp : ∀ W, Below U.heap.size U W → W.cell? ⟨w.heap.size, 0, none⟩ = some (.bool n.1) ∧ W.cell? ⟨w.heap.size, 1, none⟩ = some (.slice va n.2.1.length vc) ∧ W.cell? ⟨w.heap.size, 2, none⟩ = some (.int .i64 n.2.2) := fun W hb => boxK hBk W hb
  have HB : Hid (Below U.heap.size U U.drew) := Below.drewN' 1
  obtain ⟨g00, g01, g02⟩ := hkp U (Below.refl _ _)
  rw [← hk, hN] at hsp
  rw [hN]
  obtain ⟨nn, l, sc⟩ := n
  dsimp only at *
  obtain ⟨A, hA⟩ : ∃ A, (l.length : Int) - sc = A := ⟨_, rfl⟩
  rw [hA] at hkA qa
  have hk2 : (0 : Int) ≤ (k : Int) := by omega
  have hk3 : (k : Int) ≤ (N : Int) := by omega
  have hk4 : (k : Int) < (N : Int) := by omega
  have hN2 : N ≤ 20000 := by omega
  have hxi : (x : Int) + s ≤ 20000 := by omega
  obtain ⟨EX, hEX⟩ : ∃ EX, ext l sc x s = EX := ⟨_, rfl⟩
  rw [hEX] at hsp ⊢
  have HKP : Hid _ := hkp
  have HO : Hid _ := And.intro hO (And.intro hsp (And.intro hbU (And.intro hsz0 (And.intro qa qt))))
  have HQ : Hid _ := And.intro hbA (And.intro hbk hbx)
  clear qa qt hkp hO hsp hbU hsz0 hbA hBk hbk hbx h hEX hA hk hN htn
  go_enter Tryd.func21, Tryd.ntmps21
  go_upto_region 2 with fail
  have hwr : IntKind.i64.wrap (k : Int) = (k : Int) := by rw [IntKind.wrap_i64]; omega
  have hkn : k < N := by omega
  have hmin : (l.map (Value.int .u8)).length = Nat.min l.length (N - k) := by rw [List.length_map]; exact (Nat.min_eq_left (by omega)).symm
  have hfit : k + (l.map (Value.int .u8)).length ≤ ((List.replicate N (0 : Int)).map (Value.int .u8)).length := by simp; omega
  have hsrc : ∀ W, Below U.heap.size U W → ∃ ad, va = some ad ∧ ∀ j u, (l.map (Value.int .u8))[j]? = some u → W.cell? (ad.add j) = some u := by
    intro W hW
    obtain ⟨g, o, hva, _, hc⟩ := (HO.out.2.2.2.2.2 W hW).cell hne
    refine ⟨_, hva, fun j u hu => ?_⟩
    rw [List.getElem?_map] at hu
    obtain ⟨d, hd, rfl⟩ := Option.map_eq_some_iff.1 hu
    obtain ⟨hj, rfl⟩ := List.getElem?_eq_some_iff.1 hd
    rw [addr_add]
    exact hc j hj
  have HM : Hid _ := And.intro hmin (And.intro hfit hsrc)
  clear hmin hfit hsrc
  have hkne : ¬ N = k := by omega
  have hadd : (⟨U0.heap.size, 0, none⟩ : Addr).add k = ⟨U0.heap.size, k, none⟩ := addr_add0 _ _
  go_region_held3 (fun W => W.cell? ⟨w.heap.size, 0, none⟩ = some (.bool nn) ∧ W.cell? ⟨w.heap.size, 1, none⟩ = some (.slice va l.length vc) ∧ W.cell? ⟨w.heap.size, 2, none⟩ = some (.int .i64 sc)) (first | exact ⟨g00, g01, g02⟩ | go_keep) (first
    | (go_at_call 20; (with_reducible refine Calls.mono (HO.out.2.2.2.2.1 _ HB.out) ?_); rintro e w9 ⟨rfl, hb9⟩; have hbb := HB.out.trans (hb9.mono HB.out.size); clear HB g00 g01 g02; obtain ⟨g00, g01, g02⟩ := HKP.out _ hbb; have HB : Hid _ := hbb; clear hbb hb9)
    | (refine step_copy_splice (by rfl) (.tmp 17) (.tmp 19) 23 23 (by rfl) 5 Tryd.underlying23 info5s (some ⟨U0.heap.size, k, none⟩) va (N - k) (N - k) l.length vc (by rfl) (by rfl) U0.heap.size k _ 5 ((HB.out.block _ (lt_of HO.out.1)).trans HO.out.1) (l.map (Value.int .u8)) HM.out.1 (fun _ => ⟨rfl, HM.out.2.2 _ HB.out⟩) HM.out.2.1 (one8 l) U0.heap.size U0 (HQ.out.1.trans (HB.out.mono HQ.out.1.size)) (Nat.le_refl _) ?_; intro w4 hg4 hb4; clear g00 g01 g02; obtain ⟨g00, g01, g02⟩ := boxK HQ.out.2.1 _ hb4; have H4 : Hid _ := And.intro hg4 hb4; clear hg4 hb4)
    | fail)
  all_goals
    go_wp2_with fail
    have hg := H4.out.1.out
    rw [HO.out.2.1] at hg
    have hsz := HO.out.2.2.2.1
    have HF : Hid _ := And.intro hg (HQ.out.2.2.trans (H4.out.2.mono HQ.out.2.2.size))
    clear hg
    go_ret
    exact ⟨U0.heap.size, rfl, HF.out.1, by omega, HF.out.2⟩
end Go.Proofs.YtakemkhgaicckaaDoor
