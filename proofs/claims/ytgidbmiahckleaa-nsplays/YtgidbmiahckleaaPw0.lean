/- NsPlays: both scopes side by side. -/
import Derived.Test.YtgidbmiahckleaaRfa
import Derived.Test.YtgidbmiahckleaaFew2
import Derived.Test.YtgidbmiahckleaaSrt2
import Derived.Test.YtgidbmiahckleaaNs14
namespace Go.Proofs.Ytgidbmiahckleaa
open Go.RowKit
set_option linter.unusedVariables false

/-- The two tell the same at each level, whatever is closed. -/
def Lev : Sg → List Hs → List Bs → Prop
  | f, [], [] => ∀ s, f s = none
  | f, h :: stk, b :: Lr => (∀ s, s ≠ xmlB → f s = spR (b :: Lr).reverse s) ∧ f xmlB = none ∧ Lev (rst f h) stk Lr
  | _, _, _ => False
theorem Lev.rel {l : Bs} {stk : List Hs} {L : List Bs} (h : Lev (spc l) stk L.reverse) : Rel l L ∧ spc l xmlB = none := by
  cases hL : L.reverse with
  | nil =>
    have : L = [] := by simpa using hL
    subst this
    cases stk with
    | nil => exact ⟨fun s _ => (h s).trans rfl, h xmlB⟩
    | cons _ _ => exact absurd h (by simp [Lev])
  | cons b Lr =>
    rw [hL] at h
    have hr : (b :: Lr).reverse = L := by rw [← hL, List.reverse_reverse]
    cases stk with
    | nil => exact absurd h (by simp [Lev])
    | cons x stk =>
      obtain ⟨h1, h2, _⟩ := h
      rw [hr] at h1
      exact ⟨h1, h2⟩
theorem Lev.len : ∀ {f : Sg} {stk : List Hs} {Lr : List Bs}, Lev f stk Lr → stk.length = Lr.length
  | _, [], [], _ => rfl
  | _, _ :: _, [], h => absurd h (by simp [Lev])
  | _, [], _ :: _, h => absurd h (by simp [Lev])
  | _, _ :: _, _ :: _, h => by
    have := Lev.len h.2.2
    simp [this]
/-- What Open answers, in one row. -/
def tT (r : Except (Int × Int) ((ByteArray × ByteArray) × List Out)) (pl : Int) : ByteArray × ByteArray × List Out × Int × Int × Int :=
  match r with
  | .error x => (⟨#[]⟩, ⟨#[]⟩, [], 0, x.1, x.2)
  | .ok x => (x.1.1, x.1.2, x.2, pl, 0, 0)
/-- The rows behind an Open. -/
def newL (L : List Bs) (nm : ByteArray) (pl : Int) (ats : Ats) : List Bs :=
  match opR L nm pl ats with
  | .error _ => L
  | .ok _ => L ++ [colR ats []]
theorem colR_len : ∀ (ats : Ats) (lb : Bs), (colR ats lb).length ≤ lb.length + ats.length
  | [], lb => by simp [colR]
  | a :: ats, lb => by
    show (colR ats (if (binR a.1).2 = true then lb ++ [((binR a.1).1, a.2.1)] else lb)).length ≤ _
    have := colR_len ats (if (binR a.1).2 = true then lb ++ [((binR a.1).1, a.2.1)] else lb)
    split at this <;> simp at this ⊢ <;> split <;> simp_all <;> omega
theorem newL_len (L : List Bs) (nm : ByteArray) (pl : Int) (ats : Ats) : (newL L nm pl ats).length ≤ L.length + 1 ∧ (newL L nm pl ats).flatten.length ≤ L.flatten.length + ats.length := by
  unfold newL
  split
  · exact ⟨by omega, by omega⟩
  · have := colR_len ats []
    simp at this
    exact ⟨by simp, by simp; omega⟩
theorem RowA.nil (w : World) : RowA w (.slice none 0 0) [] := ⟨none, 0, rfl, by simp, Nat.zero_le _, .inl rfl⟩
theorem RowA.fro {O : Nat → Prop} {w w' : World} {v : Value} {l : List Out} (h : RowA w v l) (hf : Fro O w w') (hO : ∀ k, v.ownBlock = some k → ¬ O k) : RowA w' v l := by
  obtain ⟨a, cap, rfl, h1, h2, h3⟩ := h
  refine ⟨a, cap, rfl, h1, h2, ?_⟩
  rcases h3 with h3 | ⟨g, o, rfl, h4, h5⟩
  · exact .inl h3
  · refine .inr ⟨g, o, rfl, Nat.lt_of_lt_of_le h4 hf.size, fun i hi => ?_⟩
    obtain ⟨q0, q1, q2, q3⟩ := h5 i hi
    have hn := hO g rfl
    exact ⟨(hf.cell h4 hn).trans q0, (hf.cell h4 hn).trans q1, (hf.cell h4 hn).trans q2, (hf.cell h4 hn).trans q3⟩
theorem RowA.below {w w' : World} {v : Value} {l : List Out} (h : RowA w v l) (hb : Below w.heap.size w w') : RowA w' v l := h.fro (Fro.below (O := fun _ => False) hb) (fun _ _ q => q)
/-- The program's Open, with what both scopes are behind it. -/
theorem open_p {O : Nat → Prop} {w : World} {P : Nat} {l : Bs} {stk : List Hs} {L : List Bs} (hS : SS O w P l stk) (hL : Lev (spc l) stk L.reverse) (k pl : Int) (nm tx : ByteArray) (hz : nm.size ≤ maxLen) {a : Option Addr} {cap : Nat} {ats : Ats} (hA : AtO w a ats) (hcap : a = none → cap = 0) (hg : ats ≠ [] → ∀ g off, a = some ⟨g, off, none⟩ → ¬ O g) (hn : stk.length ≤ 1000000) (hcnt : ats.length ≤ 1000000) :
    Calls Try.prog 12 #[.pointer (some ⟨P, 0, none⟩), evV k pl nm tx a ats.length cap] w fun e w' => ∃ sv O' l' stk', e = .returned (.tuple #[.agg #[.string (tT (opR L nm pl ats) pl).1, .string (tT (opR L nm pl ats) pl).2.1, sv, .int .i64 (tT (opR L nm pl ats) pl).2.2.2.1], .int .i64 (tT (opR L nm pl ats) pl).2.2.2.2.1, .int .i64 (tT (opR L nm pl ats) pl).2.2.2.2.2]) ∧ RowA w' sv (tT (opR L nm pl ats) pl).2.2.1 ∧ (∀ k, sv.ownBlock = some k → w.heap.size ≤ k) ∧ Fro O w w' ∧ (∀ k, O' k → O k ∨ w.heap.size ≤ k) ∧ SS O' w' P l' stk' ∧ Lev (spc l') stk' (newL L nm pl ats).reverse ∧ l'.length ≤ l.length + ats.length := by
  have hbg := binds_g hS.nk (ps ats)
  have hpl : (ps ats).length = ats.length := by simp [ps]
  rw [hpl] at hbg
  refine Calls.mono (open_s hS.sc k pl nm tx hz hA hcap hg (by rw [List.length_reverse]; exact hn) hcnt) ?_
  rintro e w' ⟨hf, O', hO, hm⟩
  have hor := op_rel hL.rel.1 nm pl ats
  unfold newL
  rw [← hor]
  cases ho : opS l nm pl ats with
  | error x =>
    rw [ho] at hm
    obtain ⟨rfl, l', hba, hsc⟩ := hm
    have hl : NK l' ∧ spc l' = spc l := by
      rcases hba with rfl | ⟨h', hp, rfl⟩
      · exact ⟨hS.nk, rfl⟩
      · obtain ⟨q1, q2⟩ := back_perm hbg.1.nl hbg.1.nh hp
        exact ⟨q1, funext fun s => (q2 s).trans (hbg.1.rs s)⟩
    refine ⟨.slice none 0 0, O', l', stk, rfl, RowA.nil _, fun k hk => by simp [Value.ownBlock] at hk, hf, hO, ⟨hsc, hl.1, by rw [hl.2]; exact hS.gd⟩, by rw [hl.2]; exact hL, ?_⟩
    have := (perm_of hl.1 hS.nk (fun s => by rw [hl.2])).length_eq
    omega
  | ok x =>
    rw [ho] at hm
    obtain ⟨sv, rfl, hsc, hrow, _⟩ := hm
    have hnb : ats.find? bad = none := by
      unfold opS at ho
      cases hq : ats.find? bad with
      | none => rfl
      | some a => rw [hq] at ho; simp at ho
    have e : rst (spc (binds l (ps ats)).1) (binds l (ps ats)).2 = spc l := funext hbg.1.rs
    refine ⟨sv, O', _, (binds l (ps ats)).2 :: stk, rfl, rowA_own hrow rfl, fun k hk => (row_base hrow k hk).1, hf, hO, ⟨by rw [List.reverse_cons]; exact hsc, hbg.1.nl, ⟨hbg.1.nh, hbg.1.bd, ?_⟩⟩, ?_, hbg.2⟩
    · rw [e]
      exact hS.gd
    · dsimp only
      rw [List.reverse_append]
      refine ⟨?_, binds_xml hL.rel.2 _, ?_⟩
      · have := rel_bind hL.rel.1 hnb
        intro s hs
        rw [this s hs]
        simp
      · rw [e]
        exact hL
/-- The second telling's Open in the same shape. -/
theorem open_q {w : World} {Q : Nat} {L : List Bs} {B : Nat → Prop} (hR : RSO B w Q L) (k pl : Int) (nm tx : ByteArray) (hnm : nm.size ≤ 100000) {a : Option Addr} {c : Nat} {ats : Ats} (hA : AtO w a ats) (hl : ats.length ≤ 1000000) (hL : L.length ≤ 1000000) (hs : ∀ x ∈ ats, x.1.size ≤ 100000) :
    Calls Try.prog 13 #[.pointer (some ⟨Q, 0, none⟩), evV k pl nm tx a ats.length c] w fun e w' => ∃ rv, e = .returned (.tuple #[.agg #[.string (tT (opR L nm pl ats) pl).1, .string (tT (opR L nm pl ats) pl).2.1, rv, .int .i64 (tT (opR L nm pl ats) pl).2.2.2.1], .int .i64 (tT (opR L nm pl ats) pl).2.2.2.2.1, .int .i64 (tT (opR L nm pl ats) pl).2.2.2.2.2]) ∧ RowA w' rv (tT (opR L nm pl ats) pl).2.2.1 ∧ RSO (Bx B w w') w' Q (newL L nm pl ats) ∧ Fro (fun k => k = Q) w w' := by
  refine Calls.mono (open_r hR k pl nm tx hnm hA hl hL hs) ?_
  rintro e w' h
  unfold OpQ at h
  unfold newL
  cases ho : opR L nm pl ats with
  | error x =>
    rw [ho] at h
    obtain ⟨rfl, hb⟩ := h
    have h2 := hR.below hb
    refine ⟨.slice none 0 0, rfl, RowA.nil _, ⟨fun k hk => ?_, ?_⟩, Fro.below hb⟩
    · rcases hk with hk | hk
      · exact h2.bd k hk
      · obtain ⟨v, h1, _⟩ := hR.ex
        have := lt_of h1
        exact ⟨by omega, hk.2⟩
    · obtain ⟨v, h1, a, cap, e1, e2, e3, e4⟩ := h2.ex
      refine ⟨v, h1, a, cap, e1, e2, e3, ?_⟩
      rcases e4 with e4 | ⟨g, o, q0, q1, q2, q3⟩
      · exact .inl e4
      · refine .inr ⟨g, o, q0, q1, .inl q2, fun i hi => ?_⟩
        obtain ⟨u, u1, u2⟩ := q3 i hi
        exact ⟨u, u1, u2.mono (fun k hk => .inl hk)⟩
  | ok x =>
    rw [ho] at h
    obtain ⟨rv, rfl, h1, h2, h3⟩ := h
    exact ⟨rv, rfl, h1, h2, h3⟩
/-- Both scopes, and what came in. -/
structure PI (w : World) (P Q : Nat) (O B : Nat → Prop) (l : Bs) (stk : List Hs) (L : List Bs) (wr : World) : Prop where
  ss : SS O wr P l stk
  rs : RSO B wr Q L
  lv : Lev (spc l) stk L.reverse
  oq : ∀ k, O k → k ≠ Q ∧ ¬ B k ∧ w.heap.size ≤ k
  qw : w.heap.size ≤ Q
  bel : Below w.heap.size w wr
theorem PI.below {w : World} {P Q : Nat} {O B : Nat → Prop} {l : Bs} {stk : List Hs} {L : List Bs} {wr wr' : World} (h : PI w P Q O B l stk L wr) (hb : Below wr.heap.size wr wr') : PI w P Q O B l stk L wr' :=
  ⟨h.ss.below hb, h.rs.below hb, h.lv, h.oq, h.qw, h.bel.trans (hb.mono h.bel.size)⟩
theorem bel_fro {O : Nat → Prop} {w wr w' : World} (hb : Below w.heap.size w wr) (hf : Fro O wr w') (ho : ∀ k, O k → w.heap.size ≤ k) : Below w.heap.size w w' := by
  have hz := hb.size
  exact hb.trans ⟨hf.os, hf.tape, hf.output, hf.size, fun k hk => hf.block k (by omega) (fun q => by have := ho k q; omega)⟩
theorem PI.start {w w0 : World} (hb : Below w.heap.size w w0) : PI w w0.heap.size (w0.heap.size + 1) (fun k => k = w0.heap.size) (fun _ => False) [] [] [] ((w0.alloc (.cells #[.map none, .slice none 0 0] 81)).alloc (.cells #[.slice none 0 0] 30)) := by
  have hz := hb.size
  refine ⟨(new_ss w0).below ((Below.refl _ _).alloc (Nat.le_refl _) _), ⟨fun k hk => hk.elim, _, ?_, none, 0, rfl, by simp, Nat.zero_le _, .inl rfl⟩, fun s => rfl, fun k hk => ⟨by omega, fun q => q, by omega⟩, by omega, (hb.alloc hb.size _).alloc (by simp; omega) _⟩
  have := nw_heap (w0.alloc (.cells #[.map none, .slice none 0 0] 81)) (.cells #[.slice none 0 0] 30)
  rwa [sza] at this
/-- Behind both Opens. -/
theorem PI.opened {w wr w1 w2 w3 : World} {P Q : Nat} {O B O' : Nat → Prop} {l l' : Bs} {stk stk' : List Hs} {L : List Bs} {nm : ByteArray} {pl : Int} {ats : Ats} (h : PI w P Q O B l stk L wr)
    (hf : Fro O wr w1) (hO : ∀ k, O' k → O k ∨ wr.heap.size ≤ k) (hS : SS O' w1 P l' stk') (hL : Lev (spc l') stk' (newL L nm pl ats).reverse) (hb : Below w1.heap.size w1 w2) (hR : RSO (Bx B w2 w3) w3 Q (newL L nm pl ats)) (hf3 : Fro (fun k => k = Q) w2 w3) :
    PI w P Q O' (Bx B w2 w3) l' stk' (newL L nm pl ats) w3 := by
  have hz1 := hf.size
  have hz2 := hb.size
  have hzw := h.bel.size
  have hQ : Q < wr.heap.size := by obtain ⟨v, h1, _⟩ := h.rs.ex; exact lt_of h1
  have hoq : ∀ k, O' k → k ≠ Q ∧ ¬ B k ∧ w.heap.size ≤ k := fun k hk => by
    rcases hO k hk with q | q
    · exact h.oq k q
    · exact ⟨by omega, fun hb => by have := (h.rs.bd k hb).2; omega, by omega⟩
  refine ⟨(hS.below hb).fro hf3 (fun k hk e => (hoq k hk).1 e), hR, hL, fun k hk => ?_, h.qw, ?_⟩
  · have h1 := hoq k hk
    have h2 := hS.sc.lt k hk
    refine ⟨h1.1, fun q => ?_, h1.2.2⟩
    rcases q with q | q
    · exact h1.2.1 q
    · omega
  · have b1 := bel_fro h.bel hf (fun k hk => (h.oq k hk).2.2)
    have b2 := b1.trans (hb.mono b1.size)
    exact bel_fro b2 hf3 (fun k hk => by rw [hk]; exact h.qw)
/-- The state between both Opens. -/
theorem PI.mid {w wr w1 : World} {P Q : Nat} {O B : Nat → Prop} {l : Bs} {stk : List Hs} {L : List Bs} (h : PI w P Q O B l stk L wr) (hf : Fro O wr w1) : RSO B w1 Q L ∧ Below w.heap.size w w1 :=
  ⟨h.rs.fro hf (fun q => (h.oq Q q).1 rfl) (fun k hk q => (h.oq k q).2.1 hk), bel_fro h.bel hf (fun k hk => (h.oq k hk).2.2)⟩
/-- Behind both Closes. -/
theorem PI.closed {w wr w1 w2 : World} {P Q n cap : Nat} {O B : Nat → Prop} {l l' : Bs} {h : Hs} {stk : List Hs} {L : List Bs} {b : Bs} {a : Option Addr} (hp : PI w P Q O B l (h :: stk) (L ++ [b]) wr)
    (hf : Fro O wr w1) (hS : SS O w1 P l' stk) (he : spc l' = rst (spc l) h) (hv : RowLO B w1 (.slice a (n + 1) cap) (L ++ [b])) (hn : n = L.length) (hQ : w2.heap[Q]? = some (.cells #[.slice a n cap] 30 (0, 0))) (hf2 : Fro (fun k => k = Q) w1 w2) : PI w P Q O B l' stk L w2 := by
  subst hn
  obtain ⟨hr1, hb1⟩ := hp.mid hf
  have hv2 := hv.fro hf2 (fun k hk e => (hr1.bd k hk).1 e)
  refine ⟨hS.fro hf2 (fun k hk e => (hp.oq k hk).1 e), ⟨fun k hk => ⟨(hr1.bd k hk).1, Nat.lt_of_lt_of_le (hr1.bd k hk).2 hf2.size⟩, _, hQ, ?_⟩, ?_, hp.oq, hp.qw, bel_fro hb1 hf2 (fun k hk => by rw [hk]; exact hp.qw)⟩
  · obtain ⟨a', cap', e, h1, h2, h3⟩ := hv2
    simp only [Value.slice.injEq] at e
    obtain ⟨rfl, _, rfl⟩ := e
    refine ⟨_, _, rfl, by simp at h1; omega, h2, ?_⟩
    rcases h3 with h3 | ⟨g, o, rfl, h4, h5, h6⟩
    · simp at h3
    · refine .inr ⟨g, o, rfl, h4, h5, fun i hi => ?_⟩
      obtain ⟨u, u1, u2⟩ := h6 i (by simp; omega)
      rw [List.getElem_append_left hi] at u2
      exact ⟨u, u1, u2⟩
  · have := hp.lv
    rw [List.reverse_append] at this
    rw [he]
    exact this.2.2
/-- A row of the program's bindings, read alone. -/
theorem bc_cell6 {w : World} {base g cap : Nat} {b : Bs} (h : w.ownsRow base 68 2 (.slice (some ⟨g, 0, none⟩) b.length cap) b.length (b.flatMap bc)) (i : Nat) (hi : i < b.length) : w.cell? ⟨g, i * 2, none⟩ = some (.string (b[i]'hi).1) ∧ w.cell? ⟨g, i * 2 + 1, none⟩ = some (.string (b[i]'hi).2) := by
  have k0 := h.cells (g := g) rfl (i * 2) _ (bc_get b (i * 2) (by omega))
  have k1 := h.cells (g := g) rfl (i * 2 + 1) _ (bc_get b (i * 2 + 1) (by omega))
  rw [addr_add0] at k0 k1
  have e1 : i * 2 / 2 = i := by omega
  have e2 : i * 2 % 2 = 0 := by omega
  have e3 : (i * 2 + 1) / 2 = i := by omega
  have e4 : (i * 2 + 1) % 2 = 1 := by omega
  have e5 : b.toArray[i]! = b[i]'hi := by rw [getElem!_pos _ i (by simpa using hi)]; simp
  rw [e1, e2, e5] at k0
  rw [e3, e4, e5] at k1
  exact ⟨k0, k1⟩
theorem row6 {w : World} {base : Nat} {v : Value} {b : Bs} (h : w.ownsRow base 68 2 v b.length (b.flatMap bc)) : RowB w v b := by
  rcases h.2 with ⟨rfl, h0⟩ | ⟨g, cap, cur, rfl, hb, hg, h1, h2, _⟩
  · exact ⟨none, 0, by rw [h0], by omega, Nat.zero_le _, .inl (List.eq_nil_of_length_eq_zero h0)⟩
  · refine ⟨_, cap, rfl, h1, h2, .inr ⟨g, 0, rfl, lt_of hg, fun i hi => ?_⟩⟩
    have := bc_cell6 h i hi
    rwa [Nat.zero_add]
theorem PI.binds {w wr : World} {P Q : Nat} {O B : Nat → Prop} {l : Bs} {stk : List Hs} {L : List Bs} (h : PI w P Q O B l stk L wr) (hl : l.length ≤ 1000000) :
    Calls Try.prog 22 #[.pointer (some ⟨P, 0, none⟩)] wr fun e w' => ∃ v, e = .returned v ∧ RowB w' v (bndR L) ∧ Below wr.heap.size wr w' := by
  refine Calls.mono (binds_s sort_ok sort_nil h.ss.sc hl) ?_
  rintro e w' ⟨v, b, rfl, h1, h2, h3, h4⟩
  have e := bnd_rel h.lv.rel.1 h.ss.nk h.lv.rel.2 h1 h2
  exact ⟨v, rfl, by rw [← e]; exact row6 h3, h4⟩
end Go.Proofs.Ytgidbmiahckleaa
