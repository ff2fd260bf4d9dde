/- Positions. -/
import Derived.Test.YthlkbijpphdblaaD8
import Derived.Test.YthlkbijpphdblaaN4
import Derived.Laws.EntriesVeiled
namespace Go.Proofs.Ythlkbijpphdblaa
open Go.RowKit
set_option linter.unusedVariables false

set_option maxHeartbeats 2000000 in
theorem positions_p {O : Nat → Prop} {w : World} {n : Nd} {q0 : Int} {s0 : Option Addr} {s1 s2 : Nat} {q2 q3 : Int} {t0 : Option Addr} {t1 t2 : Nat} (h : NdV O w n [.int .i64 q0, .slice s0 s1 s2, .int .i64 q2, .int .i64 q3, .slice t0 t1 t2]) (hs : Sml n) (hwt : wtF n ≤ 1000000) (most : Int) (h0 : 0 ≤ most) (h1 : most ≤ 1048576) : Calls Try.prog 15 #[.agg #[.int .i64 q0, .slice s0 s1 s2, .int .i64 q2, .int .i64 q3, .slice t0 t1 t2], .int .i64 most] w fun e w' => e = .returned (.int .i64 (fdF (poW most) n)) ∧ Below w.heap.size w w' := by
  have hmf : ∀ (fn : Fn) (first cap : Array Value) (w : World), (Instr.makeFunc fn first cap).run Try.prog w = .ok (.func fn first cap) w := fun _ _ _ _ => rfl
  have xR := nw_heap w (.cells #[.int .i64 q0, .slice s0 s1 s2, .int .i64 q2, .int .i64 q3, .slice t0 t1 t2] 27)
  have bR : Below w.heap.size w (w.alloc (.cells #[.int .i64 q0, .slice s0 s1 s2, .int .i64 q2, .int .i64 q3, .slice t0 t1 t2] 27)) := (Below.refl _ _).alloc (Nat.le_refl _) _
  have zR := sza w (.cells #[.int .i64 q0, .slice s0 s1 s2, .int .i64 q2, .int .i64 q3, .slice t0 t1 t2] 27)
  have hT := tra_box (h.fro (fun _ q => q) bR.size (fun g _ hgs => bR.block g hgs)) xR
  obtain ⟨yM, yC, bC⟩ := box2' (w.alloc (.cells #[.int .i64 q0, .slice s0 s1 s2, .int .i64 q2, .int .i64 q3, .slice t0 t1 t2] 27)) (.cells #[.int .i64 most] 3) (.cells #[.func (.func 30) #[] #[.pointer (some ⟨w.heap.size + 1, 0, none⟩)]] 69)
  rw [zR] at yM yC
  have hT3 := hT.below bC
  obtain ⟨W3, hW3⟩ : ∃ W3, ((w.alloc (.cells #[.int .i64 q0, .slice s0 s1 s2, .int .i64 q2, .int .i64 q3, .slice t0 t1 t2] 27)).alloc (.cells #[.int .i64 most] 3)).alloc (.cells #[.func (.func 30) #[] #[.pointer (some ⟨w.heap.size + 1, 0, none⟩)]] 69) = W3 := ⟨_, rfl⟩
  rw [hW3] at yM yC bC hT3
  have hb3 : Below w.heap.size w W3 := bR.trans (bC.mono bR.size)
  have hq := fold_po (root := (w.heap.size, 0)) hT3 hs hwt (wk := poW most) (c := ⟨w.heap.size + 1 + 1, 0, none⟩) (fun W g off n v l hb ht hi hl hw hln => posc_p (M := w.heap.size + 1) ht v l hi h0 h1 (dr_cell (lt_of yM) (by simp [World.cell?, yM]) hb) (dr_cell (lt_of yC) (by simp [World.cell?, yC]) hb) (fun x hx => by
    subst hl
    rw [List.mem_map] at hx
    obtain ⟨y, hy, rfl⟩ := hx
    exact po_bd h0 y) hln) (fun n => (po_bd h0 n).1)
  have HQ : Hid _ := And.intro hq (And.intro hb3 hW3)
  clear hq bR hT hT3 xR yM yC bC h hb3 zR hW3
  have d1 : ¬ most < 0 := by omega
  have d2 : ¬ 1048576 < most := by omega
  go_enter Try.func15, Try.ntmps15
  go_upto_region 4 with fail
  rw [HQ.out.2.2]
  go_wp2_with fail
  refine Calls.mono HQ.out.1 ?_
  rintro e w1 ⟨rfl, hb1⟩
  have H1 : Hid _ := HQ.out.2.1.trans (hb1.mono HQ.out.2.1.size)
  clear hb1
  go_wp2_with fail
  go_ret
  exact ⟨rfl, H1.out⟩
end Go.Proofs.Ythlkbijpphdblaa
