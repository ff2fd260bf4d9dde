/- The program: Union; Category and Escape at two places; the laws' own look. -/
import Derived.Test.YthlkbijpphdblaaP2
import Derived.Test.YthlkbijpphdblaaP8
namespace Go.Proofs.Ythlkbijpphdblaa
open Go.RowKit
set_option linter.unusedVariables false

theorem box2' (w : World) (A B : Obj) : ((w.alloc A).alloc B).heap[w.heap.size]? = some A ∧ ((w.alloc A).alloc B).heap[w.heap.size + 1]? = some B ∧ Below w.heap.size w ((w.alloc A).alloc B) := by
  have hA := nw_heap w A
  have hB := nw_heap (w.alloc A) B
  have b1 : Below (w.alloc A).heap.size (w.alloc A) ((w.alloc A).alloc B) := (Below.refl _ _).alloc (Nat.le_refl _) _
  rw [sza] at hB
  exact ⟨(b1.block _ (by simp)).trans hA, hB, ((Below.refl _ _).alloc (Nat.le_refl _) _).alloc (by simp) _⟩
/-- A slice that is laid at once. -/
theorem sl_lit {k : IntKind} {w : World} {g : Nat} {e : TypeId} {l : List Rg} {cs : Array Value} (h : w.heap[g]? = some (.cells cs e (0, 0))) (hc : cs = (l.flatMap (ec k)).toArray) : Sl k w (.slice (some ⟨g, 0, none⟩) l.length l.length) l := by
  refine ⟨_, _, rfl, Nat.le_refl _, .inr ⟨g, 0, rfl, lt_of h, fun j hj => ?_⟩⟩
  have hh : ∀ (t : Nat) u, (l.flatMap (ec k))[t]? = some u → w.cell? ⟨g, t, none⟩ = some u := fun t u ht => by
    simp [World.cell?, h, hc, ht]
  rw [Nat.zero_add]
  exact ⟨hh _ _ (ec_get k l j hj).1, hh _ _ (ec_get k l j hj).2⟩
def UniQ (a b : List Rg) (w : World) (e : Ending) (w' : World) : Prop := ∃ v s, e = .returned v ∧ OfS (a ++ b) s ∧ Own .i32 64 w' w.heap.size v s ∧ s.length ≤ a.length + b.length ∧ Below w.heap.size w w'
set_option maxHeartbeats 1000000 in
theorem union_p (va vb : Value) (a b : List Rg) (w : World) (ha : Sl .i32 w va a) (hb : Sl .i32 w vb b) (hn : a.length + b.length ≤ 100000) : Calls Try.prog 76 #[va, vb] w fun e w' => UniQ a b w e w' := by
  have HX : Hid _ := And.intro ha hb
  obtain ⟨x, c, rfl, _⟩ := ha.len
  obtain ⟨y, d, rfl, _⟩ := hb.len
  clear ha hb
  have hbW : Below w.heap.size w (w.alloc (.cells #[.slice x a.length c, .slice y b.length d] 24)) := (Below.refl _ _).alloc (Nat.le_refl _) _
  have hx := nw_heap w (.cells #[.slice x a.length c, .slice y b.length d] 24)
  have hcat := concat_p w.heap.size 2 (fun j => if j = 0 then .slice x a.length c else .slice y b.length d) [a, b] (w.alloc (.cells #[.slice x a.length c, .slice y b.length d] 24)) (by rw [sza]; omega) (fun j hj => by
    have : j = 0 ∨ j = 1 := by simp at hj; omega
    rcases this with rfl | rfl
    · exact (blk2 hx).1.1
    · exact (blk2 hx).1.2) (fun j hj => by
    have : j = 0 ∨ j = 1 := by simp at hj; omega
    rcases this with rfl | rfl
    · exact HX.out.1.below hbW
    · exact HX.out.2.below hbW) rfl (by omega) (by simpa using hn)
  have hfl : [a, b].flatten = a ++ b := by simp
  rw [hfl] at hcat
  have HC : Hid _ := And.intro hcat hbW
  clear hcat hbW hx hfl
  go_enter Try.func76, Try.ntmps76
  go_wp2_with fail
  refine Calls.mono HC.out.1 ?_
  rintro e w1 ⟨v1, rfl, hown1, hb1⟩
  have hbb := HC.out.2.trans (hb1.mono HC.out.2.size)
  have H1 : Hid _ := And.intro hown1 hbb
  clear hown1 hb1 hbb
  go_wp2_with fail
  refine Calls.mono (of_p _ (a ++ b) w1 H1.out.1.sl (by rw [List.length_append]; omega)) ?_
  rintro e w2 ⟨v2, s2, rfl, hof, hown2, hl2, hb2⟩
  rw [List.length_append] at hl2
  have H2 : Hid _ := And.intro hof (And.intro (hown2.mono H1.out.2.size) (And.intro (H1.out.2.trans (hb2.mono H1.out.2.size)) hl2))
  clear hof hown2 hb2 hl2
  go_wp2_with fail
  go_ret
  exact ⟨_, s2, rfl, H2.out.1, H2.out.2.1, H2.out.2.2.2, H2.out.2.2.1⟩
theorem ofs_of {l t s : List Rg} (h : OfS l s) (ct : Cn t) (hm : ∀ x, memB t x = (memB l x && decide (0 ≤ x ∧ x ≤ MX))) : s = t := cn_ext s t h.cn ct (fun x => by rw [h.mem, hm])
/-- A set that is told, and whether there is one. -/
def EscQ (t : List Rg) (w : World) (e : Ending) (w' : World) : Prop := ∃ a c, e = .returned (.tuple #[.slice a t.length c, .bool true]) ∧ Own .i32 64 w' w.heap.size (.slice a t.length c) t ∧ Below w.heap.size w w'
theorem own_form {k : IntKind} {e : TypeId} {w : World} {base : Nat} {v : Value} {l : List Rg} (h : Own k e w base v l) : ∃ a c, v = .slice a l.length c := row_form h
set_option maxHeartbeats 1000000 in
theorem cat_nd (w : World) : Calls Try.prog 24 #[.string ⟨#[78, 100]⟩] w fun e w' => EscQ [(48, 57)] w e w' := by
  have hb0 : Below w.heap.size w (w.alloc (.cells #[.int .i32 48, .int .i32 57] 64)) := (Below.refl _ _).alloc (Nat.le_refl _) _
  have hsl : Sl .i32 (w.alloc (.cells #[.int .i32 48, .int .i32 57] 64)) (.slice (some ⟨w.heap.size, 0, none⟩) 1 1) [(48, 57)] := sl_lit (l := [(48, 57)]) (nw_heap _ _) rfl
  have q1 := of_p _ _ _ hsl (by simp)
  have HQ : Hid _ := And.intro q1 hb0
  clear q1 hb0 hsl
  go_enter Try.func24, Try.ntmps24
  go_wp2_with fail
  refine Calls.mono HQ.out.1 ?_
  rintro e w2 ⟨v2, s2, rfl, hof, hown2, hl2, hb2⟩
  have hs : s2 = [(48, 57)] := ofs_of hof (Cn.one (by decide)) (fun x => by
    rw [Bool.eq_iff_iff]
    simp only [mem_cons, mem_nil, Bool.and_eq_true, Bool.or_eq_true, inR_iff, decide_eq_true_eq, Bool.false_eq_true, or_false]
    have : MX = 1114111 := rfl
    omega)
  subst hs
  obtain ⟨a, c, rfl⟩ := own_form hown2
  have H2 : Hid _ := And.intro (hown2.mono HQ.out.2.size) (HQ.out.2.trans (hb2.mono HQ.out.2.size))
  clear hof hown2 hb2 hl2
  go_wp2_with fail
  go_ret2
  exact ⟨a, c, rfl, H2.out.1, H2.out.2⟩
theorem esc_d (w : World) : Calls Try.prog 11 #[.int .u8 100] w fun e w' => EscQ [(48, 57)] w e w' := by
  have HQ : Hid _ := And.intro (cat_nd w) trivial
  go_enter Try.func11, Try.ntmps11
  go_wp2_with fail
  refine Calls.mono HQ.out.1 ?_
  rintro e w2 ⟨a, c, rfl, hown2, hb2⟩
  have H2 : Hid _ := And.intro hown2 hb2
  clear hown2 hb2
  go_wp2_with fail
  go_ret2
  exact ⟨a, c, rfl, H2.out.1, H2.out.2⟩
theorem esc_q (w : World) : Calls Try.prog 11 #[.int .u8 113] w fun e w' => e = .returned (.tuple #[.slice none 0 0, .bool false]) ∧ w' = w := by
  go_enter Try.func11, Try.ntmps11
  go_wp2_with fail
  go_ret2
  exact ⟨rfl, rfl⟩
end Go.Proofs.Ythlkbijpphdblaa
