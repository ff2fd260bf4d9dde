/- Joined: HK30, HKM, HLayJ, HK31j, HK31. -/
import Derived.Test.YtgaegajcejpmdaaGreatDoorHJ42
import Derived.Test.YtgaegajcejpmdaaGreatDoorHChRefWords
import Derived.Test.YtgaegajcejpmdaaGreatDoorProg
import Derived.WalkKit
import Derived.WalkSpells
import Derived.WalkLawsBesides
import Derived.Below
import Derived.MapKept
import Derived.Carry
import Derived.BigQuiet
import Derived.Deep.QuietTactic
import Derived.Deep.LoopGhost
import Derived.Deep.DeepCutAuto
import Derived.Deep.RegionHeld3
import Derived.Laws.IdiomStrings
import Derived.Laws.StructEq
import Derived.Deep.AppendLies
import Derived.Maps.AppendAt
import Derived.Deep.CutRange
import Derived.Shelf.Strings.OnBuilder
namespace Go.Proofs.YtgaegajcejpmdaaGreatDoor
open Go.RowKit
set_option linter.unusedVariables false

def Wht (l : List Int) : Prop := ∀ c ∈ l, Ch.isWhite c = true
theorem Wht.nil : Wht [] := by intro c hc; simp at hc
theorem Wht.app {a b : List Int} (ha : Wht a) (hb : Wht b) : Wht (a ++ b) := by
  intro c hc
  rcases List.mem_append.1 hc with h | h
  · exact ha c h
  · exact hb c h
theorem col_gap (l : List Int) : Ch.col l [] true = Ch.col l [] false := by
  cases l with
  | nil => rfl
  | cons c l => simp [Ch.col]
theorem col_front (b l : List Int) (h : Wht b) (g : Bool) : Ch.col (b ++ l) [] g = Ch.col l [] false := by
  induction b generalizing g with
  | nil => cases g with
    | false => rfl
    | true => exact col_gap l
  | cons c b ih =>
    rw [List.cons_append]
    simp only [Ch.col]
    rw [if_pos (h c (by simp))]
    exact ih (fun x hx => h x (by simp [hx])) true
theorem col_white (b : List Int) (h : Wht b) (out : List Int) (g : Bool) : Ch.col b out g = out := by
  induction b generalizing g with
  | nil => rfl
  | cons c b ih =>
    simp only [Ch.col]
    rw [if_pos (h c (by simp))]
    exact ih (fun x hx => h x (by simp [hx])) true
theorem col_back (b : List Int) (h : Wht b) (l out : List Int) (g : Bool) : Ch.col (l ++ b) out g = Ch.col l out g := by
  induction l generalizing out g with
  | nil => exact col_white b h out g
  | cons c l ih =>
    rw [List.cons_append]
    simp only [Ch.col]
    split
    · exact ih out true
    · split
      · exact ih _ false
      · exact ih _ false
theorem spc_about {b s : ByteArray} (h : Wht (Ch.bl b)) : Ch.spc (b ++ s ++ b) 3 = Ch.spc s 3 := by
  unfold Ch.spc
  rw [if_neg (by decide), if_pos rfl, if_neg (by decide), if_pos rfl, Ch.bl_app, Ch.bl_app, List.append_assoc, col_front _ _ h, col_back _ h]
theorem ps_about {b s : ByteArray} {k : Int} (hk : whS k = 3) (h : Wht (Ch.bl b)) : psS k (b ++ s ++ b) = psS k s := by
  unfold psS
  rw [hk, spc_about h]
theorem cmp_self {d : Kd} (h : KdOk d) : cmpD d d = 0 := by
  cases d with
  | txt p t => simp [cmpD]
  | num n => exact (Dc.cmp_zero h.1 h.1).2 rfl
  | mom k m => simp [cmpD, Dt.cmp_self]
  | spn q => exact Dt.cmpP_self q
theorem er_about {b s : ByteArray} {k : Int} (hk : whS k = 3) (h : Wht (Ch.bl b)) : erS k (b ++ s ++ b) = erS k s := by
  unfold erS
  rw [ps_about hk h]
theorem o_about {b s : ByteArray} {k : Int} (hk : whS k = 3) (h : Wht (Ch.bl b)) : oS k (b ++ s ++ b) = oS k s := by
  unfold oS
  rw [ps_about hk h]
/-- The four blanks. -/
def blk4 (n : Nat) : ByteArray := if n = 0 then ⟨#[32]⟩ else if n = 1 then ⟨#[9]⟩ else if n = 2 then ⟨#[10]⟩ else ⟨#[13]⟩
theorem wht_one {b : ByteArray} (h : Wht (Ch.bl b)) (n : Nat) : Wht (Ch.bl (b ++ blk4 n)) := by
  rw [Ch.bl_app]
  refine h.app ?_
  unfold blk4
  intro c hc
  split at hc
  · simp [Ch.bl] at hc; rw [hc]; decide
  · split at hc
    · simp [Ch.bl] at hc; rw [hc]; decide
    · split at hc
      · simp [Ch.bl] at hc; rw [hc]; decide
      · simp [Ch.bl] at hc; rw [hc]; decide
theorem blk_size (b : ByteArray) (n : Nat) : (b ++ blk4 n).size = b.size + 1 := by
  have : (blk4 n).size = 1 := by
    unfold blk4
    split
    · rfl
    · split
      · rfl
      · split <;> rfl
  rw [ByteArray.size_append, this]
end Go.Proofs.YtgaegajcejpmdaaGreatDoor
namespace Go.Proofs.YtgaegajcejpmdaaGreatDoor.M
open Go.RowKit
set_option linter.unusedVariables false

theorem nw_heap (w : World) (o : Obj) : (w.alloc o).heap[w.heap.size]? = some o := (Go.MapKept.heap_alloc w o).1
theorem bset {w : World} {X i : Nat} {t : TypeId} {cs : Array Value} (h : w.heap[X]? = some (.cells cs t (0, 0))) (u : Value) : (w.setCell ⟨X, i, none⟩ u).heap[X]? = some (.cells (cs.setIfInBounds i u) t (0, 0)) := by
  simp only [World.setCell, Array.getElem?_modify]
  rw [if_pos trivial, h]
  simp
theorem sza (w : World) (o : Obj) : (w.alloc o).heap.size = w.heap.size + 1 := by simp
theorem lt_of {w : World} {X : Nat} {o : Obj} (h : w.heap[X]? = some o) : X < w.heap.size := (Array.getElem?_eq_some_iff.1 h).1
theorem below_drewN {w : World} (k : Nat) : Below w.heap.size w (w.drewN k) := ⟨rfl, rfl, rfl, Nat.le_refl _, fun _ _ => rfl⟩
theorem bdrewN {N : Nat} {a w : World} (h : Below N a w) (q : Nat) : Below N a (w.drewN q) := ⟨h.os, h.tape, h.output, h.size, h.block⟩
theorem bcell {W w1 : World} (hb : Below W.heap.size W w1) : (∀ b o, b < W.heap.size → w1.cell? ⟨b, o, none⟩ = W.cell? ⟨b, o, none⟩) ∧ (∀ b o, b < W.heap.size → w1.frozen? ⟨b, o, none⟩ = W.frozen? ⟨b, o, none⟩) :=
  ⟨fun b o h => hb.cell (p := ⟨b, o, none⟩) h, fun b o h => hb.frozen (p := ⟨b, o, none⟩) h⟩
theorem ret_int {k : IntKind} {a b : Int} (h : a = b) : Ending.returned (.int k a) = .returned (.int k b) := by rw [h]
theorem ret_bool {a b : Bool} (h : a = b) : Ending.returned (.bool a) = .returned (.bool b) := by rw [h]
/-- What changes lies in blocks of its own. -/
structure Fro (O : Nat → Prop) (w w' : World) : Prop where
  os : w'.os = w.os
  tape : w'.tape = w.tape
  output : w'.output = w.output
  size : w.heap.size ≤ w'.heap.size
  block : ∀ k, k < w.heap.size → ¬ O k → w'.heap[k]? = w.heap[k]?
theorem Fro.refl (O : Nat → Prop) (w : World) : Fro O w w := ⟨rfl, rfl, rfl, Nat.le_refl _, fun _ _ _ => rfl⟩
theorem Fro.trans {O : Nat → Prop} {a b c : World} (h : Fro O a b) (k : Fro O b c) : Fro O a c :=
  ⟨k.os.trans h.os, k.tape.trans h.tape, k.output.trans h.output, Nat.le_trans h.size k.size, fun i hi hn => (k.block i (Nat.lt_of_lt_of_le hi h.size) hn).trans (h.block i hi hn)⟩
/-- What is new since may change too. -/
theorem Fro.trans' {O O' : Nat → Prop} {a b c : World} (h : Fro O a b) (k : Fro O' b c) (ho : ∀ i, i < a.heap.size → O' i → O i) : Fro O a c :=
  ⟨k.os.trans h.os, k.tape.trans h.tape, k.output.trans h.output, Nat.le_trans h.size k.size, fun i hi hn => (k.block i (Nat.lt_of_lt_of_le hi h.size) (fun q => hn (ho i hi q))).trans (h.block i hi hn)⟩
theorem Fro.mono {O O' : Nat → Prop} {a b : World} (h : Fro O a b) (ho : ∀ i, i < a.heap.size → O i → O' i) : Fro O' a b :=
  ⟨h.os, h.tape, h.output, h.size, fun i hi hn => h.block i hi (fun q => hn (ho i hi q))⟩
theorem Fro.below {O : Nat → Prop} {a b : World} (h : Below a.heap.size a b) : Fro O a b := ⟨h.os, h.tape, h.output, h.size, fun i hi _ => h.block i hi⟩
theorem Fro.toBelow {O : Nat → Prop} {a b : World} {N : Nat} (h : Fro O a b) (hN : N ≤ a.heap.size) (ho : ∀ i, i < N → ¬ O i) : Below N a b := ⟨h.os, h.tape, h.output, h.size, fun i hi => h.block i (Nat.lt_of_lt_of_le hi hN) (ho i hi)⟩
theorem Fro.drewN {O : Nat → Prop} {a b : World} (h : Fro O a b) (q : Nat) : Fro O a (b.drewN q) := ⟨h.os, h.tape, h.output, h.size, h.block⟩
theorem Fro.alloc {O : Nat → Prop} {a b : World} (h : Fro O a b) (o : Obj) : Fro O a (b.alloc o) := h.trans' (Fro.below (O := fun _ => False) ((Below.refl _ _).alloc (Nat.le_refl _) o)) (fun _ _ q => q.elim)
theorem Fro.set {O : Nat → Prop} {a b : World} (h : Fro O a b) {X i : Nat} (hX : O X ∨ a.heap.size ≤ X) (u : Value) : Fro O a (b.setCell ⟨X, i, none⟩ u) :=
  h.trans' (O' := fun k => k = X) ⟨rfl, rfl, rfl, by simp [World.setCell], fun k _ hk => Below.heap_setCell _ _ _ _ hk⟩ (fun k hk e => by
    rcases hX with q | q
    · rw [e]; exact q
    · omega)
theorem Fro.at {O : Nat → Prop} {a b : World} (h : Fro O a b) {X : Nat} {o : Obj} (hX : a.heap[X]? = some o) (hO : ¬ O X) : b.heap[X]? = some o := (h.block X (lt_of hX) hO).trans hX
theorem Fro.grown {O : Nat → Prop} {a b : World} {o : Option Nat} (h : a.grownBy b o) (ho : ∀ k, o = some k → O k) : Fro O a b := by
  obtain ⟨h1, h2, h3, h4, h5⟩ := h
  exact ⟨h1, h2, h3, h4, fun i hi hn => h5 i hi (fun q => hn (ho i q.symm))⟩
theorem row_fro {O : Nat → Prop} {w w' : World} {base n size : Nat} {e : TypeId} {v : Value} {xs : List Value} (h : w.ownsRow base e size v n xs) (hf : Fro O w w') (hO : ∀ k, v.ownBlock = some k → ¬ O k) : w'.ownsRow base e size v n xs := by
  obtain ⟨h1, h2⟩ := h
  refine ⟨h1, ?_⟩
  rcases h2 with h | ⟨g, cap, cur, rfl, h3, h4, h5, h6, h7, h8⟩
  · exact .inl h
  · exact .inr ⟨g, cap, cur, rfl, h3, (hf.block g (Array.getElem?_eq_some_iff.1 h4).1 (hO g rfl)).trans h4, h5, h6, h7, h8⟩
theorem row_below {w w' : World} {base n size : Nat} {e : TypeId} {v : Value} {xs : List Value} (h : w.ownsRow base e size v n xs) (hf : Below w.heap.size w w') : w'.ownsRow base e size v n xs := by
  obtain ⟨h1, h2⟩ := h
  refine ⟨h1, ?_⟩
  rcases h2 with h | ⟨g, cap, cur, rfl, h3, h4, h5, h6, h7, h8⟩
  · exact .inl h
  · exact .inr ⟨g, cap, cur, rfl, h3, (hf.block g (Array.getElem?_eq_some_iff.1 h4).1).trans h4, h5, h6, h7, h8⟩
theorem row_base {w : World} {base n size : Nat} {e : TypeId} {v : Value} {xs : List Value} (h : w.ownsRow base e size v n xs) : ∀ k, v.ownBlock = some k → base ≤ k ∧ k < w.heap.size := by
  obtain ⟨h1, h2⟩ := h
  rcases h2 with ⟨rfl, _⟩ | ⟨g, cap, cur, rfl, h3, h4, h5, h6, h7, h8⟩
  · simp [Value.ownBlock]
  · intro k q
    simp [Value.ownBlock] at q
    subst q
    exact ⟨h3, (Array.getElem?_eq_some_iff.1 h4).1⟩
theorem row_form {w : World} {base n size : Nat} {e : TypeId} {v : Value} {xs : List Value} (h : w.ownsRow base e size v n xs) : ∃ a c, v = .slice a n c := by
  rcases h.2 with ⟨h, h0⟩ | ⟨g, cap, cur, rfl, _⟩
  · exact ⟨none, 0, by rw [h, h0]⟩
  · exact ⟨_, _, rfl⟩
theorem run_app0 {P : Program} (w : World) (t ty e : TypeId) (i : TypeInfo) (ht : P.underlying t = some (.slice e)) (hi : P.info? e = some i) (base : Option Addr) (sLen sCap : Nat) (hle : sLen ≤ sCap) (a : Option Addr) (c : Nat) :
    (Builtin.append_ #[t, t] ty #[.slice base sLen sCap, .slice a 0 c]).run P w = .ok (.slice base sLen sCap) w := by
  cases base <;> cases a <;> simp [Builtin.append_, run_underlying ht, sizeOf, typeInfo, hi, hle, storeCells, Builtin.lenOf, Builtin.firstCells, loadCells, loadCellsFrom]
theorem run_app {P : Program} (w : World) (base : Nat) (t ty e : TypeId) (i : TypeInfo) (z : Value) (size bytes : Nat) (ht : P.underlying t = some (.slice e)) (hi : P.info? e = some i) (hz : i.zero = some z)
    (hsize : i.size = size) (hby : i.bytes = bytes) (hzs : z.cells.size = size) (hsz : 0 < size)
    (v : Value) (n : Nat) (xs : List Value) (hown : w.ownsRow base e size v n xs)
    (a : Option Addr) (m c : Nat) (news : List Value) (hl : news.length = m * size) (hsrc : m = 0 ∨ ∃ ad, a = some ad ∧ ∀ j u, news[j]? = some u → w.cell? (ad.add j) = some u) (h1 : ∀ u ∈ news, u.oneCell' = true)
    (h63 : n + m ≤ maxLen) (hbytes : (n + m) * bytes ≤ 140737488355328) (hbase : base ≤ w.heap.size) :
    ∃ v' w', (Builtin.append_ #[t, t] ty #[v, .slice a m c]).run P w = .ok v' w' ∧ w'.ownsRow base e size v' (n + m) (xs ++ news) ∧ w.grownBy w' v.ownBlock ∧ (v'.ownBlock = v.ownBlock ∨ v'.ownBlock = some w.heap.size) := by
  rcases hsrc with rfl | ⟨ad, rfl, hnews⟩
  · have hn0 : news = [] := List.eq_nil_of_length_eq_zero (by omega)
    subst hn0
    obtain ⟨va, vc, rfl⟩ := row_form hown
    have hle : n ≤ vc := by
      rcases hown.2 with ⟨q, q0⟩ | ⟨g, cap, cur, q, _, _, hq, _⟩
      · simp at q; omega
      · simp at q; omega
    refine ⟨_, w, run_app0 w t ty e i ht hi va n vc hle a c, by rw [List.append_nil]; exact hown, ?_, .inl rfl⟩
    exact ⟨rfl, rfl, rfl, Nat.le_refl _, fun _ _ _ => rfl⟩
  · obtain ⟨v', w', hr, h2, h3, _, h5⟩ := run_append_own_at (P := P) w base t ty e i z size bytes ht hi hz hsize hby hzs hsz v n xs hown ad m c news hl hnews h1 h63 hbytes hbase
    exact ⟨v', w', hr, h2, h3, h5⟩
theorem wp_app {P : Program} (w : World) {o : Oper} {a : Act} {K : Act → World → Prop} {Q : Exit → Act → World → Prop} (s x : Operand) (t : TypeId)
    (ho : o.op = .call { callee := .builtin .append, args := #[s, x], argTypes := #[t, t] })
    (base : Nat) (e : TypeId) (i : TypeInfo) (z : Value) (size bytes : Nat) (ht : P.underlying t = some (.slice e)) (hi : P.info? e = some i) (hz : i.zero = some z)
    (hsize : i.size = size) (hby : i.bytes = bytes) (hzs : z.cells.size = size) (hsz : 0 < size)
    (v : Value) (n : Nat) (xs : List Value) (hs : a.eval s = v) (hown : w.ownsRow base e size v n xs)
    (ad : Option Addr) (m c : Nat) (news : List Value) (hx : a.eval x = .slice ad m c) (hl : news.length = m * size) (hsrc : m = 0 ∨ ∃ ad', ad = some ad' ∧ ∀ j u, news[j]? = some u → w.cell? (ad'.add j) = some u) (h1 : ∀ u ∈ news, u.oneCell' = true)
    (h63 : n + m ≤ maxLen) (hbytes : (n + m) * bytes ≤ 140737488355328) (hbase : base ≤ w.heap.size)
    (h : ∀ v' w', w'.ownsRow base e size v' (n + m) (xs ++ news) → w.grownBy w' v.ownBlock → (v'.ownBlock = v.ownBlock ∨ v'.ownBlock = some w.heap.size) → K (a.put o.dst v') w') : o.wp P a w K Q := by
  obtain ⟨v', w', hr, h2, h3, h4⟩ := run_app (P := P) w base t o.type e i z size bytes ht hi hz hsize hby hzs hsz v n xs hown ad m c news hl hsrc h1 h63 hbytes hbase
  unfold Oper.wp execOp
  simp only [ho, resolve, invoke, builtin, Sem.run_bind, Sem.run_pure, Result.andThen_ok, List.map_toArray, List.map_cons, List.map_nil, hs, hx, hr]
  exact h v' w' h2 h3 h4
theorem wpList_app {P : Program} (w : World) {ops : Array Oper} {rest : List Oper} {o : Oper} {a : Act} {Q : Exit → Act → World → Prop} (hgd : o.guard = none) (s x : Operand) (t : TypeId)
    (ho : o.op = .call { callee := .builtin .append, args := #[s, x], argTypes := #[t, t] })
    (base : Nat) (e : TypeId) (i : TypeInfo) (z : Value) (size bytes : Nat) (ht : P.underlying t = some (.slice e)) (hi : P.info? e = some i) (hz : i.zero = some z)
    (hsize : i.size = size) (hby : i.bytes = bytes) (hzs : z.cells.size = size) (hsz : 0 < size)
    (v : Value) (n : Nat) (xs : List Value) (hs : a.eval s = v) (hown : w.ownsRow base e size v n xs)
    (ad : Option Addr) (m c : Nat) (news : List Value) (hx : a.eval x = .slice ad m c) (hl : news.length = m * size) (hsrc : m = 0 ∨ ∃ ad', ad = some ad' ∧ ∀ j u, news[j]? = some u → w.cell? (ad'.add j) = some u) (h1 : ∀ u ∈ news, u.oneCell' = true)
    (h63 : n + m ≤ maxLen) (hbytes : (n + m) * bytes ≤ 140737488355328) (hbase : base ≤ w.heap.size)
    (h : ∀ v' w', w'.ownsRow base e size v' (n + m) (xs ++ news) → w.grownBy w' v.ownBlock → (v'.ownBlock = v.ownBlock ∨ v'.ownBlock = some w.heap.size) → wpList P ops Q rest (a.put o.dst v') w') : wpList P ops Q (o :: rest) a w :=
  wpList_plain hgd fun _ hK => wp_app w s x t ho base e i z size bytes ht hi hz hsize hby hzs hsz v n xs hs hown ad m c news hx hl hsrc h1 h63 hbytes hbase fun v' w' h2 h3 h4 => hK _ _ (h v' w' h2 h3 h4)

theorem take_snoc {α : Type} {l : List α} {k : Nat} (h : k < l.length) : l.take (k + 1) = l.take k ++ [l[k]] := List.take_succ_eq_append_getElem h
theorem cell_of {w w' : World} {g i : Nat} {v : Value} (hb : w'.heap[g]? = w.heap[g]?) (h : w.cell? ⟨g, i, none⟩ = some v) : w'.cell? ⟨g, i, none⟩ = some v := by
  simp only [World.cell?] at h ⊢
  rw [hb]
  exact h
theorem blk1 {U : World} {X : Nat} {a : Value} {t : TypeId} (hx : U.heap[X]? = some (.cells #[a] t (0, 0))) : U.cell? ⟨X, 0, none⟩ = some a ∧ U.frozen? ⟨X, 0, none⟩ = false := by
  refine ⟨?_, ?_⟩ <;> simp [World.cell?, World.frozen?, hx]
theorem blk2 {U : World} {X : Nat} {a b : Value} {t : TypeId} (hx : U.heap[X]? = some (.cells #[a, b] t (0, 0))) : (U.cell? ⟨X, 0, none⟩ = some a ∧ U.cell? ⟨X, 1, none⟩ = some b) ∧ U.frozen? ⟨X, 0, none⟩ = false ∧ U.frozen? ⟨X, 1, none⟩ = false := by
  refine ⟨⟨?_, ?_⟩, ?_, ?_⟩ <;> simp [World.cell?, World.frozen?, hx]
end Go.Proofs.YtgaegajcejpmdaaGreatDoor.M
namespace Go.Proofs
open Go.Shelf
def Tryz.lays156_ren : Go.Shelf.Ren := ⟨fun | 156 => 86 | 165 => 129 | 166 => 130 | 169 => 131 | 240 => 169 | 241 => 170 | 276 => 200 | 277 => 201 | n => n, fun | 31 => 62 | 9 => 9 | 3 => 3 | 4 => 4 | 0 => 0 | 20 => 20 | 72 => 149 | 76 => 151 | 70 => 147 | 37 => 32 | 75 => 132 | 127 => 174 | 164 => 190 | 5 => 5 | 80 => 64 | n => n, fun | n => n⟩
theorem Tryz.lays156 : Go.Proofs.Lays.n156 Tryz.prog Tryz.lays156_ren := {
  mixed := by kernel_rfl
  f156 := Tryz.func86.trans (congrArg some (by kernel_rfl))
  f165 := Tryz.func129.trans (congrArg some (by kernel_rfl))
  f166 := Tryz.func130.trans (congrArg some (by kernel_rfl))
  f169 := Tryz.func131.trans (congrArg some (by kernel_rfl))
  f240 := Tryz.func169.trans (congrArg some (by kernel_rfl))
  f241 := Tryz.func170.trans (congrArg some (by kernel_rfl))
  f276 := Tryz.func200.trans (congrArg some (by kernel_rfl))
  f277 := Tryz.func201.trans (congrArg some (by kernel_rfl))
  t0 := Tryz.underlying0
  a0 := Tryz.isAgg0
  z0 := Tryz.sizeOf0
  v0 := Tryz.zeroValue0
  t3 := Tryz.underlying3
  a3 := Tryz.isAgg3
  z3 := Tryz.sizeOf3
  v3 := Tryz.zeroValue3
  t4 := Tryz.underlying4
  a4 := Tryz.isAgg4
  z4 := Tryz.sizeOf4
  v4 := Tryz.zeroValue4
  t9 := Tryz.underlying9
  a9 := Tryz.isAgg9
  z9 := Tryz.sizeOf9
  v9 := Tryz.zeroValue9
  t20 := Tryz.underlying20
  a20 := Tryz.isAgg20
  z20 := Tryz.sizeOf20
  v20 := Tryz.zeroValue20
  t31 := Tryz.underlying62
  a31 := Tryz.isAgg62
  z31 := Tryz.sizeOf62
  v31 := Tryz.zeroValue62
  t37 := Tryz.underlying32
  a37 := Tryz.isAgg32
  z37 := Tryz.sizeOf32
  v37 := Tryz.zeroValue32
  t70 := Tryz.underlying147
  a70 := Tryz.isAgg147
  z70 := Tryz.sizeOf147
  v70 := Tryz.zeroValue147
  t72 := Tryz.underlying149
  a72 := Tryz.isAgg149
  z72 := Tryz.sizeOf149
  v72 := Tryz.zeroValue149
  t75 := Tryz.underlying132
  a75 := Tryz.isAgg132
  z75 := Tryz.sizeOf132
  v75 := Tryz.zeroValue132
  t76 := Tryz.underlying151
  a76 := Tryz.isAgg151
  z76 := Tryz.sizeOf151
  v76 := Tryz.zeroValue151
  t127 := Tryz.underlying174
  a127 := Tryz.isAgg174
  z127 := Tryz.sizeOf174
  v127 := Tryz.zeroValue174
  t164 := Tryz.underlying190
  a164 := Tryz.isAgg190
  z164 := Tryz.sizeOf190
  v164 := Tryz.zeroValue190 }
theorem Tryz.Builder_Extra_156 : Builder.Extra Tryz.prog Tryz.lays156_ren := {
  sizeBuilder := by kernel_rfl
  liesBuilder := by kernel_rfl
  t5 := Tryz.underlying5
  a5 := Tryz.isAgg5
  z5 := Tryz.sizeOf5
  v5 := Tryz.zeroValue5
  infoByte := by kernel_rfl
  cellsByte := by kernel_rfl
  sizeByte := by kernel_rfl
  neB5 := by decide }
open Go.RowKit in
/-- No element: the empty string; the world is as it was. (Whatever the slice's address and capacity: a nil slice too.) (LAID: no walk: one application.) -/
theorem Tryz.strings_Join_none (a : Option Addr) (c : Nat) (sep : ByteArray) (w : World) :
    Calls Tryz.prog 86 #[.slice a 0 c, .string sep] w fun e w' => e = .returned (.string ⟨#[]⟩) ∧ w' = w := Any.strings_Join_none Tryz.lays156 Tryz.Builder_Extra_156 a c sep w
open Go.RowKit in
/-- strings.Join: "Join concatenates the elements of its first argument to create a single string. The separator string sep is placed between elements in the resulting string.": HOWEVER MANY ELEMENTS. Below the heap's end the world is as it was. (LAID: no walk: one application.) -/
theorem Tryz.strings_Join (bk o c : Nat) (xs : List ByteArray) (sep : ByteArray) (w : World) (hcells : ∀ (j : Nat) x, xs[j]? = some x → w.cell? ⟨bk, o + j, none⟩ = some (.string x)) (hbk : bk < w.heap.size) (hN : xs.length ≤ 140737488355328) (hcap : xs.length ≤ c) (hlen : (Lib.join (xs.map (·.data.toList)) sep.data.toList).length ≤ 140737488355328) :
    Calls Tryz.prog 86 #[.slice (some ⟨bk, o, none⟩) xs.length c, .string sep] w fun e w' => e = .returned (.string ⟨(Lib.join (xs.map (·.data.toList)) sep.data.toList).toArray⟩) ∧ Below w.heap.size w w' := Any.strings_Join Tryz.lays156 Tryz.Builder_Extra_156 bk o c xs sep w hcells hbk hN hcap hlen
end Go.Proofs
namespace Go.Proofs.YtgaegajcejpmdaaGreatDoor
open Go.RowKit
set_option linter.unusedVariables false

theorem join_p (bk o c : Nat) (xs : List ByteArray) (w : World) (hcells : ∀ (j : Nat) x, xs[j]? = some x → w.cell? ⟨bk, o + j, none⟩ = some (.string x)) (hbk : bk < w.heap.size) (hN : xs.length ≤ 20) (hcap : xs.length ≤ c) (hlen : (Lib.join (xs.map (·.data.toList)) [32]).length ≤ 100000) :
    Calls Tryz.prog 86 #[.slice (some ⟨bk, o, none⟩) xs.length c, .string ⟨#[32]⟩] w fun e w' => e = .returned (.string ⟨(Lib.join (xs.map (·.data.toList)) [32]).toArray⟩) ∧ Below w.heap.size w w' := by
  exact Tryz.strings_Join bk o c xs ⟨#[32]⟩ w hcells hbk (by omega) hcap (Nat.le_trans hlen (by decide))
end Go.Proofs.YtgaegajcejpmdaaGreatDoor
namespace Go.Proofs.YtgaegajcejpmdaaGreatDoor
open Go.RowKit
set_option linter.unusedVariables false
set_option linter.unusedSimpArgs false

def itT (n : Int) : ByteArray := ⟨(Lib.itoa n).toArray⟩
def rowL (k : Int) (l : List Int) : List ByteArray := nmS k :: l.map itT
def rowT (k : Int) (l : List Int) : ByteArray := ⟨(Lib.join ((rowL k l).map (·.data.toList)) [32]).toArray⟩
def I64 (n : Int) : Prop := -9223372036854775808 ≤ n ∧ n ≤ 9223372036854775807
theorem it_size {n : Int} (h : I64 n) : (itT n).size ≤ 4096 := by
  have h1 := Dc.par_ok (Dc.par_itoa n h.1 h.2)
  have h2 := h1.2.2.2
  have : (itT n).size = ((Lib.itoa n).map fun c => (c.toNat : Int)).length := by simp [itT, ByteArray.size]
  omega
theorem nm_size (k : Int) : (nmS k).size ≤ 100 := by
  unfold nmS
  split
  · have h : ∀ x ∈ nmL, x.size ≤ 100 := by decide
    rw [List.getD_eq_getElem?_getD]
    cases hg : nmL[k.toNat]? with
    | none => exact Nat.zero_le _
    | some x => exact h x (List.mem_of_getElem? hg)
  · exact Nat.zero_le _
theorem lens_le (L : List (List UInt8)) (m : Nat) (h : ∀ x ∈ L, x.length ≤ m) : Lib.lens L ≤ L.length * m := by
  induction L with
  | nil => simp [Lib.lens]
  | cons a L ih =>
    have h1 := ih (fun x hx => h x (by simp [hx]))
    have h2 := h a (by simp)
    simp only [Lib.lens, List.map_cons, List.sum_cons, List.length_cons, Nat.add_mul, Nat.one_mul] at h1 ⊢
    omega
theorem row_len {k : Int} {l : List Int} (hl : l.length ≤ 10) (hI : ∀ n ∈ l, I64 n) : (Lib.join ((rowL k l).map (·.data.toList)) [32]).length ≤ 100000 := by
  unfold rowL
  rw [List.map_cons, Lib.join_length]
  have h := lens_le ((nmS k).data.toList :: (l.map itT).map (·.data.toList)) 4096 (fun x hx => by
    simp only [List.mem_cons, List.mem_map] at hx
    rcases hx with rfl | ⟨y, ⟨n, hn, rfl⟩, rfl⟩
    · have := nm_size k
      show (nmS k).size ≤ 4096
      omega
    · exact it_size (hI n hn))
  simp only [List.length_cons, List.length_map, List.length_nil] at h ⊢
  omega
theorem info_s : ∃ i, Tryz.prog.info? 9 = some i ∧ i.zero = some (.string ⟨#[]⟩) ∧ i.size = 1 ∧ i.bytes = 16 := by
  have := Ch.info9
  cases h : Tryz.prog.info? 9 with
  | none => rw [h] at this; simp at this
  | some i =>
    rw [h] at this
    simp at this
    exact ⟨i, rfl, this.1, this.2.1, this.2.2⟩
def strV (l : List ByteArray) : List Value := l.map Value.string
def RowI (k : Int) (l : List Int) (w : World) (j : Nat) (v : Value) (wr : World) : Prop :=
  wr.ownsRow w.heap.size 9 1 v (j + 1) (strV (rowL k (l.take j))) ∧ Below w.heap.size w wr
set_option maxRecDepth 8000 in
set_option maxHeartbeats 1000000 in
theorem row_p (k : Int) (l : List Int) (b c : Nat) (w : World) (hw : Lw w) (hl : l.length ≤ 10) (hI : ∀ n ∈ l, I64 n) (hb : b < w.heap.size) (hcell : ∀ (j : Nat) (hj : j < l.length), w.cell? ⟨b, j, none⟩ = some (.int .i64 l[j])) :
    Calls Tryz.prog 46 #[.int .i64 k, .slice (some ⟨b, 0, none⟩) l.length c] w fun e w' => e = .returned (.string (rowT k l)) ∧ Below w.heap.size w w' := by
  obtain ⟨i0, hi, hz, hzs, hby⟩ := info_s
  have h0 : RowI k l w 0 (.slice (some ⟨w.heap.size, 0, none⟩) 1 1) (w.alloc (.cells #[.string (nmS k)] 9)) := by
    refine ⟨⟨rfl, .inr ⟨w.heap.size, 1, #[.string (nmS k)], rfl, Nat.le_refl _, M.nw_heap _ _, Nat.le_refl _, by decide, rfl, by simp [strV, rowL]⟩⟩, (Below.refl _ _).alloc (Nat.le_refl _) _⟩
  have HX : Hid _ := And.intro h0 (And.intro hcell (And.intro hI (And.intro hw hl)))
  clear h0 hcell hI hl
  go_enter Tryz.func46, Tryz.ntmps46
  go_wp2_with (go_at_call 11; refine (name_k k _ hw.nm).mono ?_; rintro e w' ⟨rfl, hw2⟩; have hw3 := hw2.symm; clear hw2; subst hw3)
  clear hw
  go_loopg [5, 13] l.length (fun g v5 v13 wr => ∃ j : Nat, j + g = l.length ∧ v13 = .int .i64 (j : Int) ∧ RowI k l w j v5 wr)
  case atStart => exact ⟨0, by omega, rfl, HX.out.1⟩
  case round =>
    obtain ⟨j, hjg, rfl, hown, hbel⟩ := hrel
    by_cases hlt : j < l.length
    · obtain ⟨q, rfl⟩ : ∃ q, gk = q + 1 := ⟨gk - 1, by omega⟩
      have hc := (hbel.cell (p := ⟨b, j, none⟩) hb).trans (HX.out.2.1 j hlt)
      have hn := HX.out.2.2.1 l[j] (List.getElem_mem hlt)
      have hit := Dc.itoa_p l[j] hn.1 hn.2 wr ((HX.out.2.2.2.1.below hbel).tab)
      have hl10 := HX.out.2.2.2.2
      have et : rowL k (l.take (j + 1)) = rowL k (l.take j) ++ [itT l[j]] := by
        unfold rowL
        rw [M.take_snoc hlt, List.map_append]
        rfl
      have HO : Hid _ := And.intro hown (And.intro hbel (And.intro hit et))
      clear hown hbel hn hit et
      generalize l[j] = n at *
      obtain ⟨g, vc, rfl⟩ : ∃ g c, u5 = .slice (some ⟨g, 0, none⟩) (j + 1) c := by
        rcases HO.out.1.2 with ⟨_, h0⟩ | ⟨g, cap, cur, rfl, _⟩
        · omega
        · exact ⟨g, cap, rfl⟩
      have e1 : (j : Int) < (l.length : Int) := by omega
      have e2 : (0 : Int) ≤ (j : Int) := by omega
      go_wp2_with (first | (go_at_call 85; refine Calls.mono HO.out.2.2.1 ?_; rintro e w5 ⟨rfl, hb5⟩; have H5 : Hid _ := hb5; clear hb5) | (at_builtin; go_loud (refine wpList_append_own _ rfl _ _ 62 rfl w.heap.size 9 i0 (.string ⟨#[]⟩) 1 16 Tryz.underlying62 hi hz hzs hby rfl (by decide) _ _ _ rfl (M.row_below (M.row_below HO.out.1 H5.out) ((Below.refl _ _).alloc (Nat.le_refl _) _)) ⟨_, 0, none⟩ 1 1 [.string (itT n)] rfl rfl (cell_one_new _ _ _) (by simp [Value.oneCell']) (by unfold maxLen; omega) (by omega) (by have := HO.out.2.1.size; have := H5.out.size; simp; omega) ?_); intro v' w7 hown7 hgr7 _))
      go_roundg q
      case measure => omega
      case rel =>
        have hrb := M.row_base HO.out.1
        refine ⟨j + 1, by omega, by go_num, ?_, ?_⟩
        · rw [HO.out.2.2.2]
          unfold strV at hown7 ⊢
          rw [List.map_append]
          exact hown7
        · have hb6 := (HO.out.2.1.trans (H5.out.mono HO.out.2.1.size))
          have hb7 := hb6.trans (((Below.refl _ _).alloc (Nat.le_refl _) (.cells #[.string (itT n)] 9)).mono hb6.size)
          exact hb7.trans ((M.Fro.grown (O := fun i => (Value.slice (some ⟨g, 0, none⟩) (j + 1) vc).ownBlock = some i) hgr7 (fun i hi => hi)).toBelow hb7.size (fun i hi hq => by have := (hrb i hq).1; omega))
    · have hj : j = l.length := by omega
      subst hj
      have hr : (rowL k l).length = l.length + 1 := by simp [rowL]
      obtain ⟨h1, h2⟩ := hown
      rw [List.take_length] at h1 h2
      rcases h2 with ⟨_, h0⟩ | ⟨g, cap, cur, rfl, h3, h4, h5, h6, h7, h8⟩
      · omega
      · have hcs : ∀ (i : Nat) x, (rowL k l)[i]? = some x → wr.cell? ⟨g, 0 + i, none⟩ = some (.string x) := fun i x hx => by
          have hown : wr.ownsRow w.heap.size 9 1 (.slice (some ⟨g, 0, none⟩) (l.length + 1) cap) (l.length + 1) (strV (rowL k l)) := ⟨h1, .inr ⟨g, cap, cur, rfl, h3, h4, h5, h6, h7, h8⟩⟩
          have := World.ownsRow.cells (g := g) hown rfl i (.string x) (by simp [strV, hx])
          rw [Addr.add_lit] at this
          exact this
        have hjn := join_p g 0 cap (rowL k l) wr hcs (M.lt_of h4) (by rw [hr]; have := HX.out.2.2.2.2; omega) (by rw [hr]; exact h5) (row_len HX.out.2.2.2.2 HX.out.2.2.1)
        rw [hr] at hjn
        have HJ : Hid _ := And.intro hjn hbel
        clear hjn hbel hcs h1 h3 h4 h5 h6 h7 h8 hr
        go_wp2_with (go_at_call 86; refine Calls.mono HJ.out.1 ?_; rintro e w8 ⟨rfl, hb8⟩; have H8 : Hid _ := hb8; clear hb8)
        go_ret
        exact ⟨rfl, HJ.out.2.trans (H8.out.mono HJ.out.2.size)⟩
end Go.Proofs.YtgaegajcejpmdaaGreatDoor
