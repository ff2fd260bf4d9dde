/- The program: Parse, over what read leaves. -/
import Derived.Test.YtgaegajcejpmdaaGreatDoorHK10
import Derived.Laws.CopyOwn
import Derived.Test.YtgaegajcejpmdaaGreatDoorHChRep
namespace Go.Proofs.YtgaegajcejpmdaaGreatDoor
open Go.RowKit
set_option linter.unusedVariables false
set_option linter.unusedSimpArgs false

/-- What read leaves: a value with a row of digits; where it is right, KK tells of it. -/
def RdG (KK : Int → ByteArray → Bool → List Int → Int → Dt.Mo → Dt.Sp → Prop) (ok : Bool) (w : World) (e : Ending) (w' : World) : Prop :=
  Below w.heap.size w w' ∧ ∃ p tx ng sl l sc m q, e = .returned (.tuple #[vlV p tx ng sl sc m q, .bool ok]) ∧ Dc.BtR w' sl l ∧ (ok = true → KK p tx ng l sc m q)
/-- What Parse leaves. -/
def PsG (KK : Int → ByteArray → Bool → List Int → Int → Dt.Mo → Dt.Sp → Prop) (ok : Bool) (w : World) (e : Ending) (w' : World) : Prop :=
  Below w.heap.size w w' ∧ (ok = true → ∃ p tx ng sl l sc m q, e = .returned (.tuple #[vlV p tx ng sl sc m q, .int .i64 0]) ∧ Dc.BtR w' sl l ∧ KK p tx ng l sc m q) ∧ (ok = false → e = .returned (.tuple #[vlV 0 ⟨#[]⟩ false (.slice none 0 0) 0 z0 sp0, .int .i64 2]))
theorem no_u8 {p sc : Int} {tx : ByteArray} {ng : Bool} {a : Option Addr} {x y : Nat} {m : Dt.Mo} {q : Dt.Sp} : ∀ u ∈ vlL p tx ng (.slice a x y) sc m q, ∀ d, u ≠ .int .u8 d := by
  intro u hu d e
  subst e
  simp at hu
set_option maxRecDepth 100000 in
set_option maxHeartbeats 6400000 in
theorem parse_of {KK : Int → ByteArray → Bool → List Int → Int → Dt.Mo → Dt.Sp → Prop} {ok : Bool} (k : Int) (s : ByteArray) (w : World) (hk : isK k = true) (hs : s.size ≤ 100000)
    (hrd : ∀ W, Below w.heap.size w W → Calls Tryz.prog 37 #[.int .i64 k, .string (Ch.spc s (whS k))] W (RdG KK ok W)) : Calls Tryz.prog 21 #[.int .i64 k, .string s] w (PsG KK ok w) := by
  have hbx := BX.new w 40 (vlL 0 ⟨#[]⟩ false (.slice none 0 0) 0 z0 sp0)
  have HX : Hid _ := hbx
  have HR : Hid _ := hrd
  have hsp := fun W => Ch.space_any s (whS k) W hs
  clear hbx hrd hs
  generalize Ch.spc s (whS k) = t at *
  have hwk := fun W => white_k k W
  generalize whS k = wk at *
  go_enter Tryz.func21, Tryz.ntmps21
  go_wp2_with (first | (go_at_call 33; refine (known_k _ _).mono ?_; rintro e w' ⟨rfl, hw1⟩; have hw2 := hw1.symm; clear hw1; subst hw2) | (go_at_call 17; refine (hwk _).mono ?_; rintro e w' ⟨rfl, hw1⟩; have hw2 := hw1.symm; clear hw1; subst hw2) | (go_at_call 38; refine (hsp _).mono ?_; rintro e w1 ⟨rfl, hb1⟩; have hx1 := HX.out.below hb1; have HX1 : Hid _ := hx1; clear hb1 hx1))
  refine Calls.mono (HR.out _ HX1.out.bel) ?_
  rintro e w2 ⟨hb2, p, tx, ng, sl, l, sc, m, q, rfl, hbt, hkk⟩
  have hx2 := HX1.out.below hb2
  obtain ⟨va, vc, rfl, _⟩ := hbt.form
  have hlt2 : w.heap.size < w2.heap.size := Dc.lt_of hx2.blk
  have hA := nw_heap w2 (.cells #[.int .i64 0, .string ⟨#[]⟩, .bool false, .slice none 0 0, .int .i64 0, .int .i64 0, .int .i64 0, .int .i64 0, .int .i64 0, .int .i64 0, .int .i64 0, .bool false, .int .i64 0, .int .i64 0, .int .i64 0, .int .i64 0] 40)
  have hL : ((w2.alloc (.cells #[.int .i64 0, .string ⟨#[]⟩, .bool false, .slice none 0 0, .int .i64 0, .int .i64 0, .int .i64 0, .int .i64 0, .int .i64 0, .int .i64 0, .int .i64 0, .bool false, .int .i64 0, .int .i64 0, .int .i64 0, .int .i64 0] 40)).setRow w2.heap.size #[.int .i64 p, .string tx, .bool ng, .slice va l.length vc, .int .i64 sc, .int .i64 m.k, .int .i64 m.y, .int .i64 m.m, .int .i64 m.d, .int .i64 m.s, .int .i64 m.n, .bool m.hz, .int .i64 m.z, .int .i64 q.o, .int .i64 q.s, .int .i64 q.n]).heap[w2.heap.size]? = some (.cells #[.int .i64 p, .string tx, .bool ng, .slice va l.length vc, .int .i64 sc, .int .i64 m.k, .int .i64 m.y, .int .i64 m.m, .int .i64 m.d, .int .i64 m.s, .int .i64 m.n, .bool m.hz, .int .i64 m.z, .int .i64 q.o, .int .i64 q.s, .int .i64 q.n] 40 (0, 0)) := setRow_heap _ _ _ _ _ _ hA
  have hB5 : Below w2.heap.size w2 ((w2.alloc (.cells #[.int .i64 0, .string ⟨#[]⟩, .bool false, .slice none 0 0, .int .i64 0, .int .i64 0, .int .i64 0, .int .i64 0, .int .i64 0, .int .i64 0, .int .i64 0, .bool false, .int .i64 0, .int .i64 0, .int .i64 0, .int .i64 0] 40)).setRow w2.heap.size #[.int .i64 p, .string tx, .bool ng, .slice va l.length vc, .int .i64 sc, .int .i64 m.k, .int .i64 m.y, .int .i64 m.m, .int .i64 m.d, .int .i64 m.s, .int .i64 m.n, .bool m.hz, .int .i64 m.z, .int .i64 q.o, .int .i64 q.s, .int .i64 q.n]) := below_setRow ((Below.refl _ _).alloc (Nat.le_refl _) _) (Nat.le_refl _) _
  have hx5 := hx2.below hB5
  have hS : ((w2.alloc (.cells #[.int .i64 0, .string ⟨#[]⟩, .bool false, .slice none 0 0, .int .i64 0, .int .i64 0, .int .i64 0, .int .i64 0, .int .i64 0, .int .i64 0, .int .i64 0, .bool false, .int .i64 0, .int .i64 0, .int .i64 0, .int .i64 0] 40)).setRow w2.heap.size #[.int .i64 p, .string tx, .bool ng, .slice va l.length vc, .int .i64 sc, .int .i64 m.k, .int .i64 m.y, .int .i64 m.m, .int .i64 m.d, .int .i64 m.s, .int .i64 m.n, .bool m.hz, .int .i64 m.z, .int .i64 q.o, .int .i64 q.s, .int .i64 q.n]).heap[w.heap.size]? = some (.cells #[.int .i64 0, .string ⟨#[]⟩, .bool false, .slice none 0 0, .int .i64 0, .int .i64 0, .int .i64 0, .int .i64 0, .int .i64 0, .int .i64 0, .int .i64 0, .bool false, .int .i64 0, .int .i64 0, .int .i64 0, .int .i64 0] 40 (0, 0)) := hx5.blk
  have HT : Hid _ := And.intro (Dc.BtR.below hbt hB5) (And.intro hkk hx5)
  clear hx2 hbt hkk hb2 HX HX1 HR hsp hwk hx5 hB5
  cases ok with
  | true =>
    go_wp2_with (first | (refine wpList_store_row rfl 40 _ _ rfl w2.heap.size _ rfl rfl 40 _ hA (by kernel_rfl) rfl (by simp [Value.oneCell']) ?_) | (refine wpList_load_row rfl 40 _ rfl w2.heap.size rfl 40 _ (0, 0) _ hL Tryz.underlying40 rfl (by kernel_rfl) ?_) | (refine wpList_store_row rfl 40 _ _ rfl w.heap.size _ rfl rfl 40 _ hS (by kernel_rfl) rfl (by simp [Value.oneCell']) ?_))
    generalize (w2.alloc (.cells #[.int .i64 0, .string ⟨#[]⟩, .bool false, .slice none 0 0, .int .i64 0, .int .i64 0, .int .i64 0, .int .i64 0, .int .i64 0, .int .i64 0, .int .i64 0, .bool false, .int .i64 0, .int .i64 0, .int .i64 0, .int .i64 0] 40)).setRow w2.heap.size #[.int .i64 p, .string tx, .bool ng, .slice va l.length vc, .int .i64 sc, .int .i64 m.k, .int .i64 m.y, .int .i64 m.m, .int .i64 m.d, .int .i64 m.s, .int .i64 m.n, .bool m.hz, .int .i64 m.z, .int .i64 q.o, .int .i64 q.s, .int .i64 q.n] = W5 at *
    have hf := setRow_heap W5 w.heap.size _ #[.int .i64 p, .string tx, .bool ng, .slice va l.length vc, .int .i64 sc, .int .i64 m.k, .int .i64 m.y, .int .i64 m.m, .int .i64 m.d, .int .i64 m.s, .int .i64 m.n, .bool m.hz, .int .i64 m.z, .int .i64 q.o, .int .i64 q.s, .int .i64 q.n] _ _ hS
    have hb : Below w.heap.size w (W5.setRow w.heap.size #[.int .i64 p, .string tx, .bool ng, .slice va l.length vc, .int .i64 sc, .int .i64 m.k, .int .i64 m.y, .int .i64 m.m, .int .i64 m.d, .int .i64 m.s, .int .i64 m.n, .bool m.hz, .int .i64 m.z, .int .i64 q.o, .int .i64 q.s, .int .i64 q.n]) := below_setRow HT.out.2.2.bel (Nat.le_refl _) _
    have hbt : Dc.BtR (W5.setRow w.heap.size #[.int .i64 p, .string tx, .bool ng, .slice va l.length vc, .int .i64 sc, .int .i64 m.k, .int .i64 m.y, .int .i64 m.m, .int .i64 m.d, .int .i64 m.s, .int .i64 m.n, .bool m.hz, .int .i64 m.z, .int .i64 q.o, .int .i64 q.s, .int .i64 q.n]) (.slice va l.length vc) l := Dc.BtR.kept HT.out.1 (Nat.le_of_eq (setRow_size _ _ _).symm) (fun k hk => setRow_other _ _ _ _ hk) (btr_apart HT.out.1 HT.out.2.2.blk no_u8)
    exact bodyPost_ret (v := .tuple #[vlV p tx ng (.slice va l.length vc) sc m q, .int .i64 0]) (by refine (res2 (X := w.heap.size) Tryz.results21 ?_ hf rfl).trans ?_ <;> rfl) rfl ⟨hb, fun _ => ⟨p, tx, ng, _, l, sc, m, q, rfl, hbt, HT.out.2.1 trivial⟩, fun q => by cases q⟩
  | false =>
    go_wp2_with (first | (refine wpList_store_row rfl 40 _ _ rfl w2.heap.size _ rfl rfl 40 _ hA (by kernel_rfl) rfl (by simp [Value.oneCell']) ?_) | (refine wpList_store_row rfl 40 _ _ rfl w.heap.size _ rfl rfl 40 _ hS (by kernel_rfl) rfl (by simp [Value.oneCell']) ?_))
    generalize (w2.alloc (.cells #[.int .i64 0, .string ⟨#[]⟩, .bool false, .slice none 0 0, .int .i64 0, .int .i64 0, .int .i64 0, .int .i64 0, .int .i64 0, .int .i64 0, .int .i64 0, .bool false, .int .i64 0, .int .i64 0, .int .i64 0, .int .i64 0] 40)).setRow w2.heap.size #[.int .i64 p, .string tx, .bool ng, .slice va l.length vc, .int .i64 sc, .int .i64 m.k, .int .i64 m.y, .int .i64 m.m, .int .i64 m.d, .int .i64 m.s, .int .i64 m.n, .bool m.hz, .int .i64 m.z, .int .i64 q.o, .int .i64 q.s, .int .i64 q.n] = W5 at *
    have hf := setRow_heap W5 w.heap.size _ #[.int .i64 0, .string ⟨#[]⟩, .bool false, .slice none 0 0, .int .i64 0, .int .i64 0, .int .i64 0, .int .i64 0, .int .i64 0, .int .i64 0, .int .i64 0, .bool false, .int .i64 0, .int .i64 0, .int .i64 0, .int .i64 0] _ _ hS
    have hb : Below w.heap.size w (W5.setRow w.heap.size #[.int .i64 0, .string ⟨#[]⟩, .bool false, .slice none 0 0, .int .i64 0, .int .i64 0, .int .i64 0, .int .i64 0, .int .i64 0, .int .i64 0, .int .i64 0, .bool false, .int .i64 0, .int .i64 0, .int .i64 0, .int .i64 0]) := below_setRow HT.out.2.2.bel (Nat.le_refl _) _
    exact bodyPost_ret (v := .tuple #[vlV 0 ⟨#[]⟩ false (.slice none 0 0) 0 z0 sp0, .int .i64 2]) (by refine (res2 (X := w.heap.size) Tryz.results21 ?_ hf rfl).trans ?_ <;> rfl) rfl ⟨hb, fun q => (by cases q), fun _ => rfl⟩
end Go.Proofs.YtgaegajcejpmdaaGreatDoor
