/- The closure that catches a fault. -/
import Derived.Test.YtjcgnbmpnaapdaaDoorQ12
import Derived.Defers
import Derived.Recover
namespace Go.Proofs.YtjcgnbmpnaapdaaDoor
open Go.RowKit
set_option linter.unusedVariables false

theorem catch_idle (a b c : Addr) (w : World) :
    CallsD Tryd.prog 30 #[.pointer (some a), .pointer (some b), .pointer (some c)] .returning w fun e u' w' => e = .returned (.tuple #[]) ∧ u' = .returning ∧ w' = w := by
  refine callsD_of_wpS Tryd.func30 rfl fun c₀ cs hu => ?_
  apply wpS_seq
  apply wpS_region
  simp [wpOpsS, go_sem, recoverD, hu, Tryd.ntmps30, Exit.thenS]
  refine wpS_of_wp ?_
  go_wp2
  cases c₀
  simp_all [bodyPostS, results, Tryd.results30]
abbrev zEv : Array Value := #[.int .i64 0, .int .i64 0, .string ⟨#[]⟩, .string ⟨#[]⟩, .slice none 0 0]
/-- What the closure leaves. -/
structure Caught (P E K : Nat) (place err : Int) (v : PV) (w w' : World) : Prop where
  ps : PS w' P { v with over := true, fat := place, ferr := err }
  e : w'.heap[E]? = some (.cells zEv 35 (0, 0))
  k : w'.heap[K]? = some (.cells #[.bool false] 4 (0, 0))
  os : w'.os = w.os
  tape : w'.tape = w.tape
  output : w'.output = w.output
  size : w.heap.size ≤ w'.heap.size
  blk : ∀ i, i ≠ P → i ≠ E → i ≠ K → w'.heap[i]? = w.heap[i]?
theorem hset {w : World} {b j i : Nat} {x : Value} (h : i ≠ b) : (w.setCell ⟨b, j, none⟩ x).heap[i]? = w.heap[i]? := Below.heap_setCell _ _ _ _ (by intro e; exact h (by rw [e]))
structure CW (P E K : Nat) (v : PV) (ce ck : Array Value) (w w' : World) : Prop where
  ps : PS w' P v
  e : w'.heap[E]? = some (.cells ce 35 (0, 0))
  k : w'.heap[K]? = some (.cells ck 4 (0, 0))
  os : w'.os = w.os
  tape : w'.tape = w.tape
  output : w'.output = w.output
  size : w.heap.size ≤ w'.heap.size
  blk : ∀ i, i ≠ P → i ≠ E → i ≠ K → w'.heap[i]? = w.heap[i]?
theorem CW.p {P E K i : Nat} {v v' : PV} {ce ck : Array Value} {w w' : World} {x : Value} (h : CW P E K v ce ck w w') (hPE : P ≠ E) (hPK : P ≠ K) (hx : v.cells.setIfInBounds i x = v'.cells) : CW P E K v' ce ck w (w'.setCell ⟨P, i, none⟩ x) :=
  ⟨h.ps.set i x hx, (hset hPE.symm).trans h.e, (hset hPK.symm).trans h.k, h.os, h.tape, h.output, (Nat.le_trans h.size (by simp [World.setCell])), fun j h1 h2 h3 => (hset h1).trans (h.blk j h1 h2 h3)⟩
theorem CW.ev {P E K i : Nat} {v : PV} {ce ce' ck : Array Value} {w w' : World} {x : Value} (h : CW P E K v ce ck w w') (hPE : P ≠ E) (hEK : E ≠ K) (hx : ce.setIfInBounds i x = ce') : CW P E K v ce' ck w (w'.setCell ⟨E, i, none⟩ x) :=
  ⟨(hset hPE).trans h.ps, (by rw [← hx]; exact Bk.set (i := i) h.e x), (hset hEK.symm).trans h.k, h.os, h.tape, h.output, (Nat.le_trans h.size (by simp [World.setCell])), fun j h1 h2 h3 => (hset h2).trans (h.blk j h1 h2 h3)⟩
theorem CW.kv {P E K i : Nat} {v : PV} {ce ck ck' : Array Value} {w w' : World} {x : Value} (h : CW P E K v ce ck w w') (hPK : P ≠ K) (hEK : E ≠ K) (hx : ck.setIfInBounds i x = ck') : CW P E K v ce ck' w (w'.setCell ⟨K, i, none⟩ x) :=
  ⟨(hset hPK).trans h.ps, (hset hEK).trans h.e, (by rw [← hx]; exact Bk.set (i := i) h.k x), h.os, h.tape, h.output, (Nat.le_trans h.size (by simp [World.setCell])), fun j h1 h2 h3 => (hset h3).trans (h.blk j h1 h2 h3)⟩
theorem CW.drew {P E K : Nat} {v : PV} {ce ck : Array Value} {w w' : World} (h : CW P E K v ce ck w w') : CW P E K v ce ck w w'.drew := ⟨h.ps, h.e, h.k, h.os, h.tape, h.output, h.size, h.blk⟩
theorem CW.caught {P E K : Nat} {place err : Int} {v : PV} {w w' : World} (h : CW P E K { v with over := true, fat := place, ferr := err } zEv #[.bool false] w w') : Caught P E K place err v w w' := ⟨h.ps, h.e, h.k, h.os, h.tape, h.output, h.size, h.blk⟩
theorem caught_w {E K P : Nat} {place err : Int} {w : World} {v : PV} {x0 x1 x2 x3 x4 : Value} {bk : Bool} (hp : PS w P v) (hE : w.heap[E]? = some (.cells #[x0, x1, x2, x3, x4] 35 (0, 0))) (hK : w.heap[K]? = some (.cells #[.bool bk] 4 (0, 0))) (hPE : P ≠ E) (hPK : P ≠ K) (hEK : E ≠ K) :
    Caught P E K place err v w (((((((((w.setCell ⟨P, 18, none⟩ (.int .i64 place)).setCell ⟨P, 19, none⟩ (.int .i64 err)).setCell ⟨P, 17, none⟩ (.bool true)).setCell ⟨E, 0, none⟩ (.int .i64 0)).setCell ⟨E, 1, none⟩ (.int .i64 0)).setCell ⟨E, 2, none⟩ (.string ⟨#[]⟩)).setCell ⟨E, 3, none⟩ (.string ⟨#[]⟩)).setCell ⟨E, 4, none⟩ (.slice none 0 0)).setCell ⟨K, 0, none⟩ (.bool false)).drew := by
  have h0 : CW P E K v #[x0, x1, x2, x3, x4] #[.bool bk] w w := ⟨hp, hE, hK, rfl, rfl, rfl, Nat.le_refl _, fun _ _ _ _ => rfl⟩
  have h1 := h0.p (i := 18) (v' := { v with fat := place }) (x := .int .i64 place) hPE hPK rfl
  have h2 := h1.p (i := 19) (v' := { v with fat := place, ferr := err }) (x := .int .i64 err) hPE hPK rfl
  have h3 := h2.p (i := 17) (v' := { v with over := true, fat := place, ferr := err }) (x := .bool true) hPE hPK rfl
  have h4 := h3.ev (i := 0) (x := .int .i64 0) hPE hEK rfl
  have h5 := h4.ev (i := 1) (x := .int .i64 0) hPE hEK rfl
  have h6 := h5.ev (i := 2) (x := .string ⟨#[]⟩) hPE hEK rfl
  have h7 := h6.ev (i := 3) (x := .string ⟨#[]⟩) hPE hEK rfl
  have h8 := h7.ev (i := 4) (ce' := zEv) (x := .slice none 0 0) hPE hEK rfl
  have h9 := h8.kv (i := 0) (ck' := #[.bool false]) (x := .bool false) hPK hEK rfl
  exact h9.drew.caught
set_option maxHeartbeats 1600000 in
theorem catch_panic {A E K P : Nat} {place err : Int} {w : World} {v : PV} {x0 x1 x2 x3 x4 : Value} {bk : Bool} (hA : w.cell? ⟨A, 0, none⟩ = some (pp P)) (hp : PS w P v)
    (hE : w.heap[E]? = some (.cells #[x0, x1, x2, x3, x4] 35 (0, 0))) (hK : w.heap[K]? = some (.cells #[.bool bk] 4 (0, 0))) (hAP : A ≠ P) (hAE : A ≠ E) (hAK : A ≠ K) (hPE : P ≠ E) (hPK : P ≠ K) (hEK : E ≠ K) :
    CallsD Tryd.prog 30 #[.pointer (some ⟨A, 0, none⟩), .pointer (some ⟨E, 0, none⟩), .pointer (some ⟨K, 0, none⟩)] (.panicking (flt place err)) w fun e u' w' =>
      e = .returned (.tuple #[]) ∧ u' = .panicking [{ v := .iface 79 (.agg #[.int .i64 place, .int .i64 err]), recovered := true }] ∧ Caught P E K place err v w w' := by
  have c17 : w.cell? ⟨P, 17, none⟩ = some (.bool v.over) := hp.cell 17
  have c18 : w.cell? ⟨P, 18, none⟩ = some (.int .i64 v.fat) := hp.cell 18
  have c19 : w.cell? ⟨P, 19, none⟩ = some (.int .i64 v.ferr) := hp.cell 19
  have f17 := hp.froz 17
  have f18 := hp.froz 18
  have f19 := hp.froz 19
  have e0 : w.cell? ⟨E, 0, none⟩ = some x0 := Bk.cell (i := 0) hE
  have e1 : w.cell? ⟨E, 1, none⟩ = some x1 := Bk.cell (i := 1) hE
  have e2 : w.cell? ⟨E, 2, none⟩ = some x2 := Bk.cell (i := 2) hE
  have e3 : w.cell? ⟨E, 3, none⟩ = some x3 := Bk.cell (i := 3) hE
  have e4 : w.cell? ⟨E, 4, none⟩ = some x4 := Bk.cell (i := 4) hE
  have g0 := Bk.froz (i := 0) hE
  have g1 := Bk.froz (i := 1) hE
  have g2 := Bk.froz (i := 2) hE
  have g3 := Bk.froz (i := 3) hE
  have g4 := Bk.froz (i := 4) hE
  have k0 : w.cell? ⟨K, 0, none⟩ = some (.bool bk) := Bk.cell (i := 0) hK
  have kf := Bk.froz (i := 0) hK
  have HP : Hid _ := hp
  have HE : Hid _ := hE
  have HK : Hid _ := hK
  clear hp hE hK
  have hta : ∀ w : World, (Instr.typeAssert (.iface 79 (.agg #[.int .i64 place, .int .i64 err])) 20 79 false).run Tryd.prog w = .ok (.agg #[.int .i64 place, .int .i64 err]) w := fun w => by kernel_rfl
  unfold flt
  refine callsD_of_wpS Tryd.func30 rfl fun c₀ cs hu => ?_
  apply wpS_seq
  apply wpS_region
  simp [wpOpsS, go_sem, recoverD, hu, Tryd.ntmps30, Exit.thenS, Array.replicate, List.replicate]
  refine wpS_of_wp ?_
  go_wp2
  go_region
  all_goals
    go_wp2
  simp [bodyPostS, results, Tryd.results30]
  exact caught_w HP.out HE.out HK.out hPE hPK hEK
end Go.Proofs.YtjcgnbmpnaapdaaDoor
