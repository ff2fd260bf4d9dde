/- Joined: HDcB0, HDcD1, HDcD2, HDcD4, HDcD5, HDcL0, HDcD6, HDcD3, HDcD7, HDcC2, HDcC1, HDcC3, HDcC7, HDcC6t, HDcC4. -/
import Derived.Test.YtgaegajcejpmdaaGreatDoorHJ5
import Derived.Test.YtgaegajcejpmdaaGreatDoorHJ6
import Derived.Deep.RegionHeld3
import Derived.Lib.Bytealg
namespace Go.Proofs.YtgaegajcejpmdaaGreatDoor.Dc
open Go.RowKit
set_option linter.unusedVariables false

/-- A number in memory: its value. -/
abbrev nmV (neg : Bool) (v : Value) (sc : Int) : Value := .agg #[.bool neg, v, .int .i64 sc]
/-- The digit of a place. -/
def dgS (l : List Int) (sc p : Int) : Int := if (l.length : Int) - sc - 1 - p < 0 ∨ (l.length : Int) ≤ (l.length : Int) - sc - 1 - p then 0 else l.getD ((l.length : Int) - sc - 1 - p).toNat 0
theorem dg_ext {l : List Int} {sc X s j : Nat} (h1 : sc ≤ l.length) (h2 : l.length - sc ≤ X) (h3 : sc ≤ s) (hj : j < X + 1 + s) : dgS l sc ((X : Int) - j) = (ext l sc (X + 1) s).getD j 0 := by
  unfold dgS ext
  simp only [List.getD_eq_getElem?_getD]
  by_cases c1 : j < X + 1 - (l.length - sc)
  · rw [if_pos (.inl (by omega)), List.getElem?_append_left (by simpa using c1), List.getElem?_replicate, if_pos c1]
    rfl
  · rw [List.getElem?_append_right (by simp; omega)]
    simp only [List.length_replicate]
    by_cases c2 : j - (X + 1 - (l.length - sc)) < l.length
    · rw [if_neg (by omega), List.getElem?_append_left c2]
      have e : ((l.length : Int) - sc - 1 - ((X : Int) - j)).toNat = j - (X + 1 - (l.length - sc)) := by omega
      rw [e]
    · rw [if_pos (.inr (by omega)), List.getElem?_append_right (by omega), List.getElem?_replicate]
      split <;> rfl
/-- A number that is read alone. -/
structure NmR (w : World) (v : Value) (n : Nm) : Prop where
  bt : BtR w v n.2.1
  cn : CN n
  le : n.2.1.length ≤ 4096
theorem NmR.below {w w' : World} {v : Value} {n : Nm} (h : NmR w v n) (hb : Below w.heap.size w w') : NmR w' v n := ⟨h.bt.below hb, h.cn, h.le⟩
theorem lex_drop {a b : List Int} {j : Nat} (ha : j < a.length) (hb : j < b.length) : lexS (a.drop j) (b.drop j) = if a.getD j 0 = b.getD j 0 then lexS (a.drop (j + 1)) (b.drop (j + 1)) else if a.getD j 0 < b.getD j 0 then -1 else 1 := by
  rw [List.drop_eq_getElem_cons ha, List.drop_eq_getElem_cons hb, lexS, List.getD_eq_getElem?_getD, List.getD_eq_getElem?_getD, List.getElem?_eq_getElem ha, List.getElem?_eq_getElem hb]
  rfl
theorem drop_all {a : List Int} {j : Nat} (h : a.length ≤ j) : a.drop j = [] := List.drop_eq_nil_of_le h
/-- Two numbers' boxes. -/
theorem box2 (w : World) (x0 x1 x2 y0 y1 y2 : Value) : (((w.alloc (.cells #[x0, x1, x2] 43)).alloc (.cells #[y0, y1, y2] 43)).heap[w.heap.size]? = some (.cells #[x0, x1, x2] 43 (0, 0))) ∧ (((w.alloc (.cells #[x0, x1, x2] 43)).alloc (.cells #[y0, y1, y2] 43)).heap[w.heap.size + 1]? = some (.cells #[y0, y1, y2] 43 (0, 0))) ∧ Below w.heap.size w ((w.alloc (.cells #[x0, x1, x2] 43)).alloc (.cells #[y0, y1, y2] 43)) := by
  refine ⟨xa2 _ _ _, ?_, ((Below.refl _ _).alloc (Nat.le_refl _) _).alloc (by simp) _⟩
  have := nw_heap (w.alloc (.cells #[x0, x1, x2] 43)) (.cells #[y0, y1, y2] 43)
  rwa [sza] at this
theorem own1 (wr : World) (t : TypeId) (x : Value) (hx : x.oneCell' = true) : (wr.alloc (.cells #[x] t)).ownsRow wr.heap.size t 1 (.slice (some ⟨wr.heap.size, 0, none⟩) 1 1) 1 [x] := ⟨rfl, .inr ⟨wr.heap.size, 1, #[x], rfl, Nat.le_refl _, nw_heap wr _, Nat.le_refl _, by unfold maxLen; omega, rfl, rfl⟩⟩
theorem BtR.cell {w : World} {a : Option Addr} {cap : Nat} {l : List Int} (h : BtR w (.slice a l.length cap) l) (hn : l ≠ []) : ∃ g o, a = some ⟨g, o, none⟩ ∧ g < w.heap.size ∧ ∀ i (hi : i < l.length), w.cell? ⟨g, o + i, none⟩ = some (.int .u8 (l[i]'hi)) := by
  obtain ⟨a', cap', e, h1, h2, h3, h4⟩ := h
  simp only [Value.slice.injEq] at e
  obtain ⟨rfl, _, rfl⟩ := e
  rcases h4 with h4 | h4
  · exact absurd h4 hn
  · exact h4
theorem BtR.byte {w : World} {v : Value} {l : List Int} (h : BtR w v l) : ∀ d ∈ l, 0 ≤ d ∧ d < 256 := by
  obtain ⟨_, _, _, _, _, h3, _⟩ := h
  exact h3
theorem BtR.lim {w : World} {a : Option Addr} {cap n : Nat} {l : List Int} (h : BtR w (.slice a n cap) l) : n = l.length ∧ l.length ≤ cap ∧ cap ≤ maxLen := by
  obtain ⟨a', cap', e, h1, h2, _⟩ := h
  simp only [Value.slice.injEq] at e
  obtain ⟨_, e2, rfl⟩ := e
  exact ⟨e2, h1, h2⟩
theorem BtR.tail {w : World} {g o cap : Nat} {l : List Int} {d : Int} (h : BtR w (.slice (some ⟨g, o, none⟩) (l.length + 1) cap) (d :: l)) : BtR w (.slice (some ⟨g, o + 1, none⟩) l.length (cap - 1)) l := h.rest
theorem one8 (l : List Int) : ∀ u ∈ l.map (Value.int .u8), u.oneCell' = true := by
  intro u hu
  obtain ⟨d, _, rfl⟩ := List.mem_map.1 hu
  rfl
theorem cT_last {s : Nat} {l m : List Int} {d : Int} (e : l = m ++ [d]) : cT (s + 1) l = if d = 0 then cT s m else (l, s + 1) := by
  rw [cT, e]
  by_cases h : d = 0
  · rw [if_pos h, if_pos (by simp [h])]; simp
  · rw [if_neg h, if_neg (by simp [h])]
theorem cP_one {s : Nat} {l : List Int} (h : l.length = s) : cP s l = 0 :: l := by
  unfold cP
  have : s + 1 - l.length = 1 := by omega
  rw [this]; rfl
theorem cP_none {s : Nat} {l : List Int} (h : s + 1 ≤ l.length) : cP s l = l := by
  unfold cP
  have : s + 1 - l.length = 0 := by omega
  rw [this]; rfl
theorem bl3f {w2 : World} {X : Nat} {x y z : Value} {t : TypeId} (hblk : w2.heap[X]? = some (.cells #[x, y, z] t (0, 0))) : w2.frozen? ⟨X, 0, none⟩ = false ∧ w2.frozen? ⟨X, 1, none⟩ = false ∧ w2.frozen? ⟨X, 2, none⟩ = false := by
  refine ⟨?_, ?_, ?_⟩ <;> simp [World.frozen?, hblk]
theorem set3 {N X : Nat} {w w2 : World} {x y z : Value} {t : TypeId} (hb : Below N w w2) (hX : N ≤ X) (h : w2.heap[X]? = some (.cells #[x, y, z] t (0, 0))) (a b c : Value) :
    (((w2.setCell ⟨X, 0, none⟩ a).setCell ⟨X, 1, none⟩ b).setCell ⟨X, 2, none⟩ c).heap[X]? = some (.cells #[a, b, c] t (0, 0)) ∧ Below N w (((w2.setCell ⟨X, 0, none⟩ a).setCell ⟨X, 1, none⟩ b).setCell ⟨X, 2, none⟩ c) ∧ (∀ k, k ≠ X → (((w2.setCell ⟨X, 0, none⟩ a).setCell ⟨X, 1, none⟩ b).setCell ⟨X, 2, none⟩ c).heap[k]? = w2.heap[k]?) ∧ (((w2.setCell ⟨X, 0, none⟩ a).setCell ⟨X, 1, none⟩ b).setCell ⟨X, 2, none⟩ c).heap.size = w2.heap.size := by
  have h2 := bset (i := 2) (bset (i := 1) (bset (i := 0) h a) b) c
  refine ⟨h2, ((hb.setCell (p := ⟨X, 0, none⟩) hX a).setCell (p := ⟨X, 1, none⟩) hX b).setCell (p := ⟨X, 2, none⟩) hX c, fun k hk => ?_, by simp [World.setCell]⟩
  rw [Below.heap_setCell _ _ _ _ hk, Below.heap_setCell _ _ _ _ hk, Below.heap_setCell _ _ _ _ hk]
/-- A row that lies where nothing was written. -/
theorem BtR.kept {w w' : World} {v : Value} {l : List Int} {X : Nat} (h : BtR w v l) (hz : w.heap.size ≤ w'.heap.size) (hk : ∀ k, k ≠ X → w'.heap[k]? = w.heap[k]?) (hX : ∀ k, v.ownBlock = some k → l ≠ [] → k ≠ X) : BtR w' v l := by
  obtain ⟨a, cap, rfl, h1, h2, h3, h4⟩ := h
  refine ⟨a, cap, rfl, h1, h2, h3, ?_⟩
  by_cases hn : l = []
  · exact .inl hn
  · rcases h4 with h4 | ⟨g, o, rfl, h5, h6⟩
    · exact .inl h4
    · refine .inr ⟨g, o, rfl, Nat.lt_of_lt_of_le h5 hz, fun i hi => ?_⟩
      have e := hk g (hX g rfl hn)
      rw [← h6 i hi]
      simp only [World.cell?, e]
abbrev zD : Obj := .cells #[.bool false, .slice none 0 0, .int .i64 0] 43
/-- A text's bytes, as numbers. -/
def bl (s : ByteArray) : List Int := s.data.toList.map fun c => (c.toNat : Int)
theorem bl_len (s : ByteArray) : (bl s).length = s.size := by simp [bl]
theorem bl_drop (s : ByteArray) (i : Nat) (hi : i < s.size) : (bl s).drop i = ((s[i]'hi).toNat : Int) :: (bl s).drop (i + 1) := by
  rw [List.drop_eq_getElem_cons (by rw [bl_len]; exact hi)]
  congr 1
  simp [bl]
  rfl
theorem bl_cons (s : ByteArray) (h : 0 < s.size) : bl s = ((s[0]'h).toNat : Int) :: (bl s).drop 1 := by
  have := bl_drop s 0 h
  simpa using this
theorem bl_ext (s : ByteArray) : bl (s.extract 1 s.size) = (bl s).drop 1 := by
  unfold bl
  rw [ByteArray.data_extract, Array.toList_extract, List.extract_eq_take_drop, List.map_drop.symm]
  congr 1
  rw [List.take_of_length_le]
  rw [List.length_drop]
  exact Nat.le_refl _
theorem bl_nil {s : ByteArray} (h : s.size = 0) : bl s = [] := List.eq_nil_of_length_eq_zero (by rw [bl_len]; exact h)
theorem tl_nn {s : ByteArray} (h : 0 < s.size) : (s.toList == []) = false := by
  have : ¬ s.toList = [] := fun q => by
    rw [Lib.toList_data] at q
    have e : s.data.toList.length = 0 := by rw [q]; rfl
    rw [Array.length_toList] at e
    have e2 : s.size = 0 := e
    omega
  simpa using this
theorem tl_ee {s : ByteArray} (h : s.size = 0) : (s.toList == []) = true := by
  have : s.toList = [] := by rw [Lib.toList_data]; exact List.eq_nil_of_length_eq_zero (by rw [Array.length_toList]; exact h)
  simp [this]
theorem ext_size (s : ByteArray) : (s.extract 1 s.size).size ≤ s.size := by
  rw [ByteArray.size_extract]; omega
/-- What Parse gives. -/
def PaP (l : List Int) (w : World) (e : Ending) (w' : World) : Prop :=
  Below w.heap.size w w' ∧ match parS l with
  | .error x => e = .returned (.tuple #[nmV false (.slice none 0 0) 0, .int .i64 x])
  | .ok n => ∃ rv, e = .returned (.tuple #[nmV n.1 rv n.2.2, .int .i64 0]) ∧ BtR w' rv n.2.1
theorem PaP.bad {l : List Int} {w w' : World} {x : Int} (h : parS l = .error x) (hb : Below w.heap.size w w') : PaP l w (.returned (.tuple #[nmV false (.slice none 0 0) 0, .int .i64 x])) w' := by
  refine ⟨hb, ?_⟩
  rw [h]
theorem PaP.good {l : List Int} {w w' : World} {n : Nm} {rv : Value} (h : parS l = .ok n) (hb : Below w.heap.size w w') (ht : BtR w' rv n.2.1) : PaP l w (.returned (.tuple #[nmV n.1 rv n.2.2, .int .i64 0])) w' := by
  refine ⟨hb, ?_⟩
  rw [h]
  exact ⟨rv, rfl, ht⟩
/-- Where Parse's loop stands. -/
structure PI1 (w : World) (l : List Int) (i : Nat) (b : List Int) (sc : Nat) (p : Bool) (v : Value) (wr : World) : Prop where
  z : wr.heap[w.heap.size]? = some (.cells #[.bool false, .slice none 0 0, .int .i64 0] 43 (0, 0))
  row : wr.ownsRow (w.heap.size + 1) 5 1 v b.length (b.map (Value.int .u8))
  bel : Below w.heap.size w wr
  eq : scS l [] 0 false = scS (l.drop i) b sc p
  len : b.length ≤ i
  sc' : sc ≤ b.length
  dg : Dg b
theorem PI1.more {w wr w5 : World} {l b : List Int} {i sc sc2 : Nat} {p : Bool} {d : Int} {v v5 : Value} {o : Obj} (h : PI1 w l i b sc p v wr) (hg : (wr.alloc o).grownBy w5 v.ownBlock)
    (ho : w5.ownsRow (w.heap.size + 1) 5 1 v5 (b.length + 1) (b.map (Value.int .u8) ++ [.int .u8 d])) (he : scS l [] 0 false = scS (l.drop (i + 1)) (b ++ [d]) sc2 p) (hs : sc2 ≤ b.length + 1) (hd : 0 ≤ d ∧ d ≤ 9) : PI1 w l (i + 1) (b ++ [d]) sc2 p v5 w5 := by
  have hba : Below wr.heap.size wr (wr.alloc o) := (Below.refl _ _).alloc (Nat.le_refl _) _
  have hlt : ∀ k, v.ownBlock = some k → w.heap.size + 1 ≤ k := fun k q => (row_base h.row k q).1
  refine ⟨grown_o hg ((hba.block _ (lt_of h.z)).trans h.z) (fun e => by have := hlt _ e; omega), ?_, ?_, he, ?_, by simpa using hs, h.dg.app (fun x hx => by simp at hx; omega)⟩
  · rw [List.length_append, List.map_append]
    exact ho
  · exact (h.bel.alloc h.bel.size o).grown hg (by have := h.bel.size; have := hba.size; omega) (fun k q => by have := hlt k q; omega)
  · have := h.len
    simp
    omega
/-- Bytes as a text. -/
def sb (l : List Int) : ByteArray := ⟨(l.map fun d => UInt8.ofNat d.toNat).toArray⟩
theorem sb_bl (s : ByteArray) : sb (bl s) = s := by
  unfold bl sb
  rw [List.map_map]
  have : (fun n : Int => UInt8.ofNat n.toNat) ∘ (fun c : UInt8 => (c.toNat : Int)) = id := by
    funext c; simp
  rw [this, List.map_id]
theorem bl_sb {l : List Int} (h : ∀ d ∈ l, 0 ≤ d ∧ d < 256) : bl (sb l) = l := by
  unfold bl sb
  rw [List.map_map]
  conv => rhs; rw [← List.map_id l]
  apply List.map_congr_left
  intro d hd
  have := h d hd
  simp
  omega
theorem push_fold (l : List Int) : ∀ acc : ByteArray, l.foldl (fun acc n => acc.push (UInt8.ofNat n.toNat)) acc = ⟨acc.data ++ (l.map fun d => UInt8.ofNat d.toNat).toArray⟩ := by
  induction l with
  | nil => intro acc; simp
  | cons d l ih =>
    intro acc
    rw [List.foldl_cons, ih]
    simp [ByteArray.push]
theorem conv_str {w : World} {v : Value} {l : List Int} (h : BtR w v l) : (convert 32 9 v).run Tryz.prog w = .ok (.string (sb l)) w := by
  obtain ⟨a, cap, rfl, h1, h2, h3, h4⟩ := h
  rw [run_convert_bytes_string w 32 9 5 _ _ _ Tryz.underlying32 Tryz.underlying5 Tryz.underlying9]
  rcases h4 with rfl | ⟨g, o, rfl, h5, h6⟩
  · cases a <;> rfl
  · have hl := run_loadCells_list (P := Tryz.prog) (w := w) ⟨g, o, none⟩ (l.map (Value.int .u8)) (fun j v hj => by
      rw [List.getElem?_map] at hj
      obtain ⟨d, hd, rfl⟩ := Option.map_eq_some_iff.1 hj
      obtain ⟨hjl, rfl⟩ := List.getElem?_eq_some_iff.1 hd
      rw [addr_add]
      exact h6 j hjl)
    rw [List.length_map] at hl
    rw [run_bytesToString w ⟨g, o, none⟩ l.length cap l hl, push_fold]
    have e : ByteArray.empty.data = #[] := rfl
    rw [e, Array.empty_append]
    rfl
/-- Digits with a point among them. -/
def ptI : List Int → Int → List Int
  | [], _ => []
  | d :: l, k => (if k = 0 then [46] else []) ++ (48 + d) :: ptI l (k - 1)
theorem pt_neg : ∀ (l : List Int) (k : Int), k < 0 → ptI l k = l.map (· + 48)
  | [], k, _ => rfl
  | d :: l, k, hk => by
    rw [ptI, if_neg (by omega), pt_neg l (k - 1) (by omega), List.map_cons]
    have : 48 + d = d + 48 := by omega
    rw [this]; rfl
theorem pt_pos : ∀ (l : List Int) (k : Nat), k ≤ l.length → ptI l k = (l.take k).map (· + 48) ++ (if k = l.length then [] else 46 :: (l.drop k).map (· + 48))
  | [], k, hk => by
    have : k = 0 := by simpa using hk
    subst this
    simp [ptI]
  | d :: l, 0, hk => by
    rw [ptI, if_pos (by simp), pt_neg l _ (by omega)]
    have : 48 + d = d + 48 := by omega
    simp [this]
  | d :: l, k + 1, hk => by
    have e : ((k + 1 : Nat) : Int) - 1 = (k : Int) := by omega
    rw [ptI, if_neg (by omega), e, pt_pos l k (by simpa using hk)]
    have : 48 + d = d + 48 := by omega
    simp [this]
theorem tx_pt (n : Nm) (h : n.2.2 ≤ n.2.1.length) : txS n = (if n.1 = true then [45] else []) ++ ptI n.2.1 ((n.2.1.length : Int) - n.2.2) := by
  unfold txS
  have e : (n.2.1.length : Int) - n.2.2 = ((n.2.1.length - n.2.2 : Nat) : Int) := by omega
  rw [e, pt_pos _ _ (by omega)]
  have hc : (n.2.1.length - n.2.2 = n.2.1.length) ↔ n.2.2 = 0 := by
    have := h
    generalize n.2.1.length = L at *
    omega
  simp only [hc]
theorem tx_byte {n : Nm} (h : Dg n.2.1) : ∀ d ∈ txS n, 0 ≤ d ∧ d < 256 := by
  intro d hd
  unfold txS at hd
  have key : ∀ l : List Int, Dg l → ∀ d ∈ l.map (· + 48), 0 ≤ d ∧ d < 256 := by
    intro l hl d hd
    obtain ⟨x, hx, rfl⟩ := List.mem_map.1 hd
    have := hl x hx
    omega
  rcases List.mem_append.1 hd with q | q
  · split at q
    · simp at q; omega
    · simp at q
  · rcases List.mem_append.1 q with q | q
    · exact key _ (fun x hx => h x (List.mem_of_mem_take hx)) d q
    · split at q
      · simp at q
      · rcases List.mem_cons.1 q with q | q
        · omega
        · exact key _ (fun x hx => h x (List.mem_of_mem_drop hx)) d q
/-- Where Text's loop stands. -/
structure TI1 (w : World) (box : Obj) (T l : List Int) (k : Int) (i : Nat) (out : List Int) (v : Value) (wr : World) : Prop where
  z : wr.heap[w.heap.size]? = some box
  row : wr.ownsRow (w.heap.size + 1) 5 1 v out.length (out.map (Value.int .u8))
  bel : Below w.heap.size w wr
  eq : T = out ++ ptI (l.drop i) (k - i)
  len : out.length ≤ 2 * i + 1
theorem tgrow {w wr w5 : World} {box : Obj} {out : List Int} {d : Int} {v v5 : Value} {o : Obj} (h : wr.heap[w.heap.size]? = some box ∧ wr.ownsRow (w.heap.size + 1) 5 1 v out.length (out.map (Value.int .u8)) ∧ Below w.heap.size w wr) (hg : (wr.alloc o).grownBy w5 v.ownBlock)
    (ho : w5.ownsRow (w.heap.size + 1) 5 1 v5 (out.length + 1) (out.map (Value.int .u8) ++ [.int .u8 d])) : w5.heap[w.heap.size]? = some box ∧ w5.ownsRow (w.heap.size + 1) 5 1 v5 (out ++ [d]).length ((out ++ [d]).map (Value.int .u8)) ∧ Below w.heap.size w w5 := by
  have hba : Below wr.heap.size wr (wr.alloc o) := (Below.refl _ _).alloc (Nat.le_refl _) _
  have hlt : ∀ k, v.ownBlock = some k → w.heap.size + 1 ≤ k := fun k q => (row_base h.2.1 k q).1
  refine ⟨grown_o hg ((hba.block _ (lt_of h.1)).trans h.1) (fun e => by have := hlt _ e; omega), ?_, ?_⟩
  · rw [List.length_append, List.map_append]
    exact ho
  · exact (h.2.2.alloc h.2.2.size o).grown hg (by have := h.2.2.size; have := hba.size; omega) (fun k q => by have := hlt k q; omega)
/-- A new number. -/
def NewN (w : World) (n : Nm) (rv : Value) (w' : World) : Prop := BtR w' rv n.2.1 ∧ (∀ k, rv.ownBlock = some k → w.heap.size < k) ∧ Below w.heap.size w w'
/-- Three boxes. -/
theorem box3 (w : World) (x0 x1 x2 y0 y1 y2 : Value) : (((w.alloc (.cells #[x0, x1, x2] 43)).alloc (.cells #[y0, y1, y2] 43)).alloc zD).heap[w.heap.size]? = some (.cells #[x0, x1, x2] 43 (0, 0)) ∧ (((w.alloc (.cells #[x0, x1, x2] 43)).alloc (.cells #[y0, y1, y2] 43)).alloc zD).heap[w.heap.size + 1]? = some (.cells #[y0, y1, y2] 43 (0, 0)) ∧ (((w.alloc (.cells #[x0, x1, x2] 43)).alloc (.cells #[y0, y1, y2] 43)).alloc zD).heap[w.heap.size + 1 + 1]? = some zD ∧ Below w.heap.size w (((w.alloc (.cells #[x0, x1, x2] 43)).alloc (.cells #[y0, y1, y2] 43)).alloc zD) := by
  refine ⟨xa3 _ _ _ _, ?_, ?_, (((Below.refl _ _).alloc (Nat.le_refl _) _).alloc (by simp) _).alloc (by simp; omega) _⟩
  · have := xa2 (w.alloc (.cells #[x0, x1, x2] 43)) (.cells #[y0, y1, y2] 43) zD
    rwa [sza] at this
  · have := nw_heap ((w.alloc (.cells #[x0, x1, x2] 43)).alloc (.cells #[y0, y1, y2] 43)) zD
    rwa [sza, sza] at this
theorem made8 (n : Nat) : madeCells (Value.int .u8 0).cells (n * 1) = ((List.replicate n (0 : Int)).map (Value.int .u8)).toArray := by
  unfold madeCells
  apply Array.ext
  · simp
  · intro i h1 h2
    simp [Value.cells, Nat.mod_one]
theorem setO {W : World} {T i : Nat} {ol : List Int} {d : Int} (h : W.heap[T]? = some (.cells (ol.map (Value.int .u8)).toArray 5 (0, 0))) : (W.setCell ⟨T, i, none⟩ (.int .u8 d)).heap[T]? = some (.cells ((ol.set i d).map (Value.int .u8)).toArray 5 (0, 0)) := by
  have := bset (i := i) h (.int .u8 d)
  rw [this, List.map_set]
  simp
theorem cellO {W : World} {T i : Nat} {ol : List Int} (h : W.heap[T]? = some (.cells (ol.map (Value.int .u8)).toArray 5 (0, 0))) (hi : i < ol.length) : W.cell? ⟨T, i, none⟩ = some (.int .u8 (ol[i]'hi)) ∧ W.frozen? ⟨T, i, none⟩ = false := by
  constructor
  · simp [World.cell?, h, hi]
  · simp [World.frozen?, h]
theorem btr_out {W : World} {T : Nat} {ol : List Int} (h : W.heap[T]? = some (.cells (ol.map (Value.int .u8)).toArray 5 (0, 0))) (hd : Dg ol) (hl : ol.length ≤ 20000) : BtR W (.slice (some ⟨T, 0, none⟩) ol.length ol.length) ol :=
  ⟨_, _, rfl, Nat.le_refl _, by unfold maxLen; omega, fun d q => by have := hd d q; omega, .inr ⟨T, 0, rfl, lt_of h, fun i hi => by rw [Nat.zero_add]; exact (cellO h hi).1⟩⟩
end Go.Proofs.YtgaegajcejpmdaaGreatDoor.Dc
namespace Go.Proofs.YtgaegajcejpmdaaGreatDoor.Dc
open Go.RowKit
set_option linter.unusedVariables false

theorem ahead_p {w : World} {v : Value} {l : List Int} (h : BtR w v l) (neg : Bool) (sc : Int) (h0 : 0 ≤ sc) (h1 : sc ≤ 100000) : Calls Tryz.prog 56 #[nmV neg v sc] w fun e w' => e = .returned (.int .i64 ((l.length : Int) - sc)) ∧ Below w.heap.size w w' := by
  obtain ⟨a, cap, rfl, hc1, hc2⟩ := h.form
  unfold maxLen at hc2
  have hb0 : Below w.heap.size w (w.alloc (.cells #[.bool neg, .slice a l.length cap, .int .i64 sc] 34)) := (Below.refl _ _).alloc (Nat.le_refl _) _
  have HB : Hid _ := hb0
  clear hb0
  go_enter Tryz.func56, Tryz.ntmps56
  go_wp2_with fail
  go_ret
  exact ⟨rfl, HB.out⟩
def noS (l : List Int) : Bool := decide (l.length = 1) && (l.head? == some 0)
theorem nought_p {w : World} {v : Value} {l : List Int} (h : BtR w v l) (neg : Bool) (sc : Int) : Calls Tryz.prog 97 #[nmV neg v sc] w fun e w' => e = .returned (.bool (noS l)) ∧ Below w.heap.size w w' := by
  obtain ⟨a, cap, rfl, hc1, hc2, h3, h4⟩ := h
  have hb0 : Below w.heap.size w (w.alloc (.cells #[.bool neg, .slice a l.length cap, .int .i64 sc] 34)) := (Below.refl _ _).alloc (Nat.le_refl _) _
  have hn : noS l = (decide (l.length = 1) && (l.head? == some 0)) := rfl
  generalize noS l = N at *
  by_cases h1 : l.length = 1
  · obtain ⟨d, rfl⟩ := List.length_eq_one_iff.1 h1
    rcases h4 with h4 | ⟨g, o, rfl, h5, h6⟩
    · simp at h4
    have x0 := (hb0.cell (p := ⟨g, o, none⟩) h5).trans (h6 0 (by simp))
    simp only [List.getElem_cons_zero] at x0
    have hbd := h3 d (by simp)
    have hN : N = (d == 0) := by rw [hn]; simp
    have HB : Hid _ := And.intro hb0 hN
    clear hb0 hn h3 h6 hN h1
    simp only [List.length_cons, List.length_nil, Nat.zero_add] at *
    go_enter Tryz.func97, Tryz.ntmps97
    go_wp2_with fail
    go_ret
    exact ⟨by rw [HB.out.2]; rfl, HB.out.1⟩
  · have hN : N = false := by rw [hn]; simp [h1]
    have hg : (((l.length : Nat) : Int) == 1) = false := by simp; omega
    have HB : Hid _ := And.intro hb0 hN
    clear hb0 hn h3 h4 hN h1
    go_enter Tryz.func97, Tryz.ntmps97
    go_wp2_with fail
    go_ret
    exact ⟨by rw [HB.out.2]; rfl, HB.out.1⟩
/-- The greatest byte. -/
def mxS (l : List Int) : Int := l.foldl max 0
theorem mx_fold : ∀ (l : List Int) (a : Int), l.foldl max a ≤ 9 ↔ a ≤ 9 ∧ ∀ d ∈ l, d ≤ 9
  | [], a => by simp
  | d :: l, a => by
    rw [List.foldl_cons, mx_fold l]
    simp only [List.mem_cons, forall_eq_or_imp]
    constructor
    · rintro ⟨q1, q2⟩; exact ⟨by omega, by omega, q2⟩
    · rintro ⟨q1, q2, q3⟩; exact ⟨by omega, q3⟩
theorem mx_nine (l : List Int) : decide (mxS l ≤ 9) = l.all (fun d => decide (d ≤ 9)) := by
  rw [Bool.eq_iff_iff]
  simp only [decide_eq_true_eq, List.all_eq_true]
  unfold mxS
  rw [mx_fold]
  simp
theorem mx_bd : ∀ (l : List Int) (a : Int), 0 ≤ a → a < 256 → (∀ d ∈ l, 0 ≤ d ∧ d < 256) → 0 ≤ l.foldl max a ∧ l.foldl max a < 256
  | [], a, h0, h1, _ => ⟨h0, h1⟩
  | d :: l, a, h0, h1, h => by
    have := h d (by simp)
    rw [List.foldl_cons]
    exact mx_bd l _ (by omega) (by omega) (fun x hx => h x (by simp [hx]))
set_option maxRecDepth 100000 in
set_option maxHeartbeats 1600000 in
theorem max_p {w : World} {v : Value} {l : List Int} (h : BtR w v l) (hn : l ≠ []) : Calls Tryz.prog 96 #[v] w fun e w' => e = .returned (.int .u8 (mxS l)) ∧ Below w.heap.size w w' := by
  obtain ⟨a, cap, rfl, hc1, hc2, h3, h4⟩ := h
  unfold maxLen at hc2
  rcases h4 with h4 | ⟨g, o, rfl, h5, h6⟩
  · exact absurd h4 hn
  have hpos : 0 < l.length := List.length_pos_iff.2 hn
  have x0 := h6 0 hpos
  rw [Nat.add_zero] at x0
  have hb0 := h3 _ (List.getElem_mem hpos)
  have hM : mxS l = (l.drop 1).foldl max (l[0]'hpos) := by
    unfold mxS
    cases l with
    | nil => exact absurd rfl hn
    | cons d l =>
      simp only [List.foldl_cons, List.drop_succ_cons, List.drop_zero, List.getElem_cons_zero]
      simp only [List.getElem_cons_zero] at hb0
      have : max (0 : Int) d = d := by omega
      rw [this]
  generalize mxS l = M at *
  generalize hd0 : (l[0]'hpos) = d0 at *
  have HM : Hid _ := And.intro hM (And.intro h3 h6)
  have hp1 : ¬ (((l.length : Nat) : Int) < 1) := by omega
  clear hM h3 h6 hd0
  go_enter Tryz.func96, Tryz.ntmps96
  go_wp2_with fail
  go_loopg [3, 4] (l.length - 1) (fun m v3 v4 wr => ∃ (i : Nat) (x : Int), v3 = .int .u8 x ∧ v4 = .int .i64 i ∧ i + m = l.length ∧ wr = w ∧ 0 ≤ x ∧ x < 256 ∧ Hid (M = (l.drop i).foldl max x))
  case atStart => exact ⟨1, d0, rfl, rfl, by omega, rfl, hb0.1, hb0.2, HM.out.1⟩
  case round =>
    obtain ⟨i, x, rfl, rfl, him, hwr, hx0, hx1, hf⟩ := hrel
    subst hwr
    by_cases hi : i < l.length
    · obtain ⟨m, rfl⟩ : ∃ m, gk = m + 1 := ⟨gk - 1, by omega⟩
      have y0 := HM.out.2.2 i hi
      have hbd := HM.out.2.1 _ (List.getElem_mem hi)
      have hfd : (l.drop i).foldl max x = (l.drop (i + 1)).foldl max (max x (l[i]'hi)) := by rw [List.drop_eq_getElem_cons hi, List.foldl_cons]
      generalize (l[i]'hi) = d at *
      have hmd : (d ≤ x ∧ max x d = x) ∨ (x < d ∧ max x d = d) := by omega
      rcases hmd with ⟨q1, q2⟩ | ⟨q1, q2⟩
      all_goals
        rw [q2] at hfd
        have HF : Hid _ := And.intro hf hfd
        clear hf hfd q2
        go_wp2_with fail
        go_roundg m
        case measure => omega
        case rel => exact ⟨i + 1, _, rfl, by simp, by omega, rfl, by omega, by omega, by show _ = _; rw [HF.out.1.out, HF.out.2]⟩
    · have hil : i = l.length := by omega
      have hM2 : M = x := by rw [hf.out, hil, List.drop_length]; rfl
      have HF : Hid _ := hM2
      clear hf hM2
      go_wp2_with fail
      go_ret
      exact ⟨by rw [HF.out]; rfl, Below.refl _ _⟩
theorem eq_sn (w : World) (ad : Addr) (n c : Nat) : (binOp BinOp.eql 32 (.slice (some ad) n c) (.slice none 0 0)).run Tryz.prog w = .ok (.bool false) w := by kernel_rfl
set_option maxRecDepth 100000 in
set_option maxHeartbeats 1600000 in
theorem clone_p {w : World} {v : Value} {l : List Int} (h : BtR w v l) (hn : l ≠ []) (hl : l.length ≤ 20000) : Calls Tryz.prog 149 #[v] w fun e w' => ∃ a c, e = .returned (.slice a l.length c) ∧ BtR w' (.slice a l.length c) l ∧ (∀ k, (Value.slice a l.length c).ownBlock = some k → w.heap.size ≤ k ∧ k < w'.heap.size) ∧ Below w.heap.size w w' := by
  obtain ⟨i5, z5, hi5, hz0, hzc, hz1, hz3⟩ := info5p
  obtain ⟨a, cap, rfl, hc1, hc2⟩ := h.form
  unfold maxLen at hc2
  obtain ⟨g, o, rfl, hg, _⟩ := h.cell hn
  have HH : Hid _ := And.intro h h
  have hq := eq_sn w ⟨g, o, none⟩ l.length cap
  clear h
  go_enter Tryz.func149, Tryz.ntmps149
  go_wp2_with (first | (at_builtin; refine wpList_app _ rfl (.tmp 5) (.tmp 6) 32 rfl w.heap.size 5 i5 z5 1 1 Tryz.underlying32 hi5 hz0 hz1 hz3 hzc (by decide) (.slice (some ⟨w.heap.size, 0, none⟩) 0 0) 0 [] rfl (emp w 5) (some ⟨g, o, none⟩) l.length cap (l.map (Value.int .u8)) rfl (by simp) (src_below HH.out.1.src ((Below.refl _ _).alloc (Nat.le_refl _) _)) (one8 l) (by unfold maxLen; omega) (by omega) (by simp) ?_; intro v5 w5 hown5 hg5 hat5; obtain ⟨a5, c5, rfl⟩ := row_form hown5; have hb5 : Below w.heap.size w w5 := ((Below.refl w.heap.size w).alloc (Nat.le_refl _) _).grown hg5 (by simp) (fun b hb => by simp [Value.ownBlock] at hb; omega); have H5 : Hid _ := And.intro hown5 hb5; clear hown5 hg5 hat5 hb5))
  have hown5 : w5.ownsRow w.heap.size 5 1 (.slice a5 l.length c5) l.length (l.map (Value.int .u8)) := by simpa only [Nat.zero_add, List.nil_append] using H5.out.1
  have hbt5 : BtR w5 (.slice a5 l.length c5) l := btr_own hown5 rfl HH.out.1.byte
  have HF : Hid _ := And.intro hbt5 (fun k hk => row_base hown5 k hk)
  clear hown5 hbt5
  go_ret
  exact ⟨a5, c5, by simp, HF.out.1, HF.out.2, H5.out.2⟩
end Go.Proofs.YtgaegajcejpmdaaGreatDoor.Dc
namespace Go.Proofs.YtgaegajcejpmdaaGreatDoor.Dc
open Go.RowKit
set_option linter.unusedVariables false

abbrev zP : Obj := .cells #[.bool false, .slice none 0 0, .int .i64 0] 34
set_option maxRecDepth 100000 in
set_option maxHeartbeats 6400000 in
theorem canon_p {w : World} {v : Value} {l : List Int} (h : BtR w v l) (hdg : Dg l) (neg : Bool) (s : Nat) (hs : s + 1 ≤ l.length) (hl : l.length ≤ 20000) : Calls Tryz.prog 107 #[.bool neg, v, .int .i64 s] w fun e w' => ∃ rv, e = .returned (nmV (canS neg l s).1 rv (canS neg l s).2.2) ∧ BtR w' rv (canS neg l s).2.1 ∧ (∀ k, rv.ownBlock = some k → w.heap.size < k) ∧ Below w.heap.size w w' := by
  obtain ⟨va, vc, rfl, _, _⟩ := h.form
  have hc := can_pr neg hdg hs
  generalize canS neg l s = C at *
  have hb0 : Below w.heap.size w (w.alloc zP) := (Below.refl _ _).alloc (Nat.le_refl _) _
  have HH : Hid _ := And.intro h (And.intro hc hb0)
  clear h hc hb0 hdg
  go_enter Tryz.func107, Tryz.ntmps107
  go_wp2_with fail
  go_loopg [1, 2] s (fun m v1 v2 wr => ∃ (l1 : List Int) (a : Option Addr) (c : Nat), v1 = .slice a l1.length c ∧ v2 = .int .i64 m ∧ wr = w.alloc zP ∧ BtR w (.slice a l1.length c) l1 ∧ m + 1 ≤ l1.length ∧ l1.length ≤ 20000 ∧ Hid (cT s l = cT m l1))
  case atStart => exact ⟨l, va, vc, rfl, rfl, rfl, HH.out.1, hs, hl, rfl⟩
  case round =>
    obtain ⟨l1, a, c, rfl, rfl, hwr, hb1, hm1, hl1, hct⟩ := hrel
    have HW : Hid _ := hwr
    have hwb : Below w.heap.size w wr := by rw [hwr]; exact HH.out.2.2
    clear hwr
    obtain ⟨_, hcl, hcm⟩ := hb1.lim
    unfold maxLen at hcm
    have HB : Hid _ := And.intro hb1 (And.intro hct hwb)
    clear hb1 hct hwb
    by_cases hgo : ∃ (k : Nat) (m : List Int), gk = k + 1 ∧ l1 = m ++ [0]
    · obtain ⟨k, m, rfl, rfl⟩ := hgo
      obtain ⟨g, o, rfl, hg, hcell⟩ := HB.out.1.cell (by simp)
      have x0 := (HB.out.2.2.cell (p := ⟨g, o + m.length, none⟩) hg).trans (hcell m.length (by simp))
      simp only [List.getElem_concat_length] at x0
      simp only [List.length_append, List.length_cons, List.length_nil, Nat.zero_add] at *
      have e1 : ((m.length + 1 : Nat) : Int) - 1 = m.length := by omega
      have hbi := HB.out.1
      have HB2 : Hid _ := hbi.init
      clear hcell hbi
      go_wp2_with fail
      go_roundg k
      case measure => omega
      case rel => exact ⟨m, _, c, by simp, by simp, HW.out, HB2.out, by omega, by omega, by show _ = _; rw [HB.out.2.1.out, cT_last rfl, if_pos rfl]⟩
    · obtain ⟨t, ht⟩ : ∃ t, t = gk := ⟨_, rfl⟩
      subst ht
      have hcase : ((¬ (0 : Int) < (t : Int)) ∧ cT t l1 = (l1, t)) ∨ ((0 : Int) < (t : Int) ∧ cT t l1 = (l1, t) ∧ ∃ m d, l1 = m ++ [d] ∧ d ≠ 0) := by
        rcases t with _ | k
        · exact .inl ⟨by omega, rfl⟩
        · obtain ⟨m, d, hm, _, _⟩ := last_mod (l := l1) (fun e => by rw [e] at hm1; simp at hm1)
          have hd : d ≠ 0 := fun e => hgo ⟨k, m, rfl, by rw [hm, e]⟩
          exact .inr ⟨by omega, by rw [cT_last hm, if_neg hd], m, d, hm, hd⟩
      clear hgo
      obtain ⟨wo, hwo⟩ : ∃ wo, wo = wr := ⟨_, rfl⟩
      subst hwo
      rcases hcase with ⟨hgp, hex⟩ | ⟨hgp, hex, m, d, hlm, hd0⟩
      case' inl =>
        have HX : Hid _ := hex
        clear hex
        go_wp2_with fail
      case' inr =>
        have HX : Hid _ := hex
        clear hex
        obtain ⟨g, o, rfl, hg, hcell⟩ := HB.out.1.cell (by rw [hlm]; simp)
        have hl2 : l1.length = m.length + 1 := by rw [hlm]; simp
        have x0 := (HB.out.2.2.cell (p := ⟨g, o + m.length, none⟩) hg).trans (hcell m.length (by omega))
        have hd1 : l1[m.length]'(by omega) = d := by
          subst hlm
          simp
        rw [hd1] at x0
        have hbd := HB.out.1.byte d (by rw [hlm]; simp)
        have e1 : ((l1.length : Nat) : Int) - 1 = m.length := by omega
        have hdz : (d == 0) = false := by simpa using hd0
        have hml : m.length < l1.length := by omega
        have HM : Hid _ := hlm
        clear hlm hl2 hcell hd1
        go_wp2_with fail
      all_goals
        go_loopg [1] l1.length (fun m2 v1 wr => ∃ (l2 : List Int) (a2 : Option Addr) (c2 : Nat), v1 = .slice a2 l2.length c2 ∧ Hid (l2.length = m2) ∧ wr = wo ∧ BtR w (.slice a2 l2.length c2) l2 ∧ Hid (cH t l1 = cH t l2) ∧ t + 1 ≤ l2.length ∧ l2.length ≤ 20000)
        case atStart => exact ⟨l1, _, c, rfl, rfl, rfl, HB.out.1, rfl, hm1, hl1⟩
        case round =>
          obtain ⟨l2, a2, c2, rfl, hg2, hwr2, hbt2, hh2, ht2, hl2⟩ := hrel
          subst hwr2
          obtain ⟨_, hcl2, hcm2⟩ := hbt2.lim
          unfold maxLen at hcm2
          have HB2 : Hid _ := And.intro hbt2 (And.intro hh2 hg2)
          clear hbt2 hh2 hg2
          by_cases hgo2 : ∃ r, l2 = 0 :: r ∧ t < r.length
          · obtain ⟨r, rfl, htr⟩ := hgo2
            obtain ⟨g2, o2, rfl, hg2, hcell2⟩ := HB2.out.1.cell (by simp)
            have y0 := (HB.out.2.2.cell (p := ⟨g2, o2, none⟩) hg2).trans (hcell2 0 (by simp))
            simp only [List.getElem_cons_zero] at y0
            have hgk := HB2.out.2.2.out
            simp only [List.length_cons] at *
            obtain ⟨k, rfl⟩ : ∃ k, gk = k + 1 := ⟨gk - 1, by omega⟩
            have hc2 : (t : Int) + 1 < ((r.length + 1 : Nat) : Int) := by omega
            have HR : Hid _ := And.intro HB2.out.1.rest hgk
            clear hcell2 hgk
            go_wp2_with fail
            go_roundg k
            case measure => omega
            case rel => exact ⟨r, _, _, by simp, by have := HR.out.2; show _ = _; omega, rfl, HR.out.1, by show _ = _; rw [HB2.out.2.1.out, cH, if_pos ⟨rfl, htr⟩], by omega, by omega⟩
          · have hcase2 : ((¬ (t : Int) + 1 < (l2.length : Int)) ∧ cH t l2 = l2) ∨ ((t : Int) + 1 < (l2.length : Int) ∧ cH t l2 = l2 ∧ ∃ d r, l2 = d :: r ∧ d ≠ 0) := by
              cases l2 with
              | nil => exact .inl ⟨by simp; omega, rfl⟩
              | cons d r =>
                by_cases hd : d = 0
                · refine .inl ⟨fun q => hgo2 ⟨r, by rw [hd], by simp only [List.length_cons] at q; omega⟩, ?_⟩
                  rw [cH, if_neg (fun q => hgo2 ⟨r, by rw [hd], q.2⟩)]
                · by_cases hq : (t : Int) + 1 < (((d :: r).length : Nat) : Int)
                  · exact .inr ⟨hq, by rw [cH, if_neg (fun q => hd q.1)], d, r, rfl, hd⟩
                  · exact .inl ⟨hq, by rw [cH, if_neg (fun q => hd q.1)]⟩
            clear hgo2
            have hl2n : l2 ≠ [] := fun e => by rw [e] at ht2; simp at ht2
            obtain ⟨wo, hwo⟩ : ∃ wo, wo = wr := ⟨_, rfl⟩
            subst hwo
            have hcl := clone_p (HB2.out.1.below HB.out.2.2) hl2n hl2
            have HCL : Hid _ := And.intro hcl trivial
            clear hcl
            rcases hcase2 with ⟨hgq, hex⟩ | ⟨hgq, hex, d2, r2, hlm2, hd2⟩
            case' inl =>
              have HX2 : Hid _ := hex
              clear hex
              go_wp2_with fail
            case' inr =>
              have HX2 : Hid _ := hex
              clear hex
              obtain ⟨g2, o2, rfl, hg2, hcell2⟩ := HB2.out.1.cell (by rw [hlm2]; simp)
              have hlp2 : 0 < l2.length := by rw [hlm2]; simp
              have y0 := (HB.out.2.2.cell (p := ⟨g2, o2, none⟩) hg2).trans (hcell2 0 hlp2)
              have hd3 : l2[0]'hlp2 = d2 := by subst hlm2; rfl
              rw [hd3] at y0
              have hbd2 := HB2.out.1.byte d2 (by rw [hlm2]; simp)
              have hdz2 : (d2 == 0) = false := by simpa using hd2
              have HM2 : Hid _ := hlm2
              clear hlm2 hcell2 hd3
              go_wp2_with fail
            all_goals
              refine Calls.mono HCL.out.1 ?_
              rintro e w5 ⟨a5, c5, rfl, hbt5, hbl5, hb5⟩
              have hbA : Below w5.heap.size w5 (w5.alloc (.cells #[.bool false, .slice a5 l2.length c5, .int .i64 t] 34)) := (Below.refl _ _).alloc (Nat.le_refl _) _
              have hT7 := nw_heap w5 (.cells #[.bool false, .slice a5 l2.length c5, .int .i64 t] 34)
              have hR0 : w.heap.size < wo.heap.size := by rw [HW.out]; simp
              have hRo : wo.heap[w.heap.size]? = some (.cells #[.bool false, .slice none 0 0, .int .i64 0] 34 (0, 0)) := by rw [HW.out]; exact nw_heap _ _
              have hsz5 := hb5.size
              have hR5 := (hb5.block _ hR0).trans hRo
              have hRA := (hbA.block _ (lt_of hR5)).trans hR5
              have hbw5 := HB.out.2.2.trans (hb5.mono HB.out.2.2.size)
              have hbwA := hbw5.trans (hbA.mono hbw5.size)
              have hzr := nought_p (hbt5.below hbA) false t
              have hCC : C = (neg && !(noS l2), l2, t) := by
                have e := HH.out.2.1
                rw [HB.out.2.1.out, HX.out] at e
                dsimp only at e
                rw [HB2.out.2.1.out, HX2.out] at e
                exact e
              subst hCC
              obtain ⟨az, haz⟩ : ∃ az, noS l2 = az := ⟨_, rfl⟩
              rw [haz] at hzr
              have HAZ : Hid _ := haz
              clear haz
              have H6 : Hid _ := And.intro hbt5 (And.intro hbl5 (And.intro hbA (And.intro hT7 (And.intro (And.intro hR5 hRA) (And.intro (And.intro hbw5 hbwA) hzr)))))
              clear hbt5 hbl5 hbA hT7 hRo hR5 hRA hbw5 hbwA hzr hb5
              have hne6 : w.heap.size ≠ w5.heap.size := by omega
              have hlt6 : w.heap.size < w5.heap.size := by omega
              cases neg
              case' false =>
                obtain ⟨r0, r1, r2⟩ := bl3 H6.out.2.2.2.2.1.1
                obtain ⟨rf0, rf1, rf2⟩ := bl3f H6.out.2.2.2.2.1.1
                go_wp2_with fail
                obtain ⟨q1, q2, q3, q4⟩ := set3 H6.out.2.2.2.2.2.1.1 (Nat.le_refl _) H6.out.2.2.2.2.1.1 (.bool false) (.slice a5 l2.length c5) (.int .i64 t)
                have hbt9 := H6.out.1.kept (Nat.le_of_eq q4.symm) q3 (fun k hk hn e => by have := (H6.out.2.1 k hk).1; omega)
                generalize (((w5.setCell ⟨w.heap.size, 0, none⟩ (.bool false)).setCell ⟨w.heap.size, 1, none⟩ (.slice a5 l2.length c5)).setCell ⟨w.heap.size, 2, none⟩ (.int .i64 t)) = W9 at *
                have hbX : Below W9.heap.size W9 (W9.alloc (.cells #[.bool false, .slice a5 l2.length c5, .int .i64 t] 34)) := (Below.refl _ _).alloc (Nat.le_refl _) _
                obtain ⟨y0, y1, y2⟩ := bl3 ((hbX.block _ (lt_of q1)).trans q1)
                have hbt10 := hbt9.below hbX
                have hb10 := q2.trans (hbX.mono q2.size)
                generalize (W9.alloc (.cells #[.bool false, .slice a5 l2.length c5, .int .i64 t] 34)) = W10 at *
                exact bodyPost_ret (v := nmV false (.slice a5 l2.length c5) t) (by simp [results, Tryz.results107, go_sem, y0, y1, y2]) rfl ⟨.slice a5 l2.length c5, rfl, hbt10, fun k hk => by have := (H6.out.2.1 k hk).1; omega, hb10⟩
              case' true =>
                go_wp2_with fail
                refine Calls.mono H6.out.2.2.2.2.2.2 ?_
                rintro e w6 ⟨rfl, hb6⟩
                have hsz6 := hb6.size
                simp only [sza] at hsz6
                have hT6 := (hb6.block _ (lt_of H6.out.2.2.2.1)).trans H6.out.2.2.2.1
                have hR6 := (hb6.block _ (lt_of H6.out.2.2.2.2.1.2)).trans H6.out.2.2.2.2.1.2
                have hbw6 := H6.out.2.2.2.2.2.1.2.trans (hb6.mono H6.out.2.2.2.2.2.1.2.size)
                have hbt6 := (H6.out.1.below H6.out.2.2.1).below hb6
                obtain ⟨k0, k1, k2⟩ := bl3 hT6
                obtain ⟨kf0, _, _⟩ := bl3f hT6
                obtain ⟨r0, r1, r2⟩ := bl3 hR6
                obtain ⟨rf0, rf1, rf2⟩ := bl3f hR6
                have H7 : Hid _ := And.intro hT6 (And.intro hR6 (And.intro hbw6 (And.intro hbt6 H6.out.2.1)))
                clear hT6 hR6 hbw6 hbt6 hb6 H6
                obtain ⟨g8, t8⟩ := setC (i := 0) (.bool (!az)) H7.out.1
                have hR8 := grown_at g8 H7.out.2.1 (fun e => hne6 e.symm)
                have hb8 : Below w.heap.size w (w6.setCell ⟨w5.heap.size, 0, none⟩ (.bool (!az))) := H7.out.2.2.1.setCell (p := ⟨w5.heap.size, 0, none⟩) (by show w.heap.size ≤ w5.heap.size; omega) _
                have hbt8 : BtR (w6.setCell ⟨w5.heap.size, 0, none⟩ (.bool (!az))) (.slice a5 l2.length c5) l2 := by
                  refine H7.out.2.2.2.1.kept (X := w5.heap.size) (by simp [World.setCell]) (fun k hk => Below.heap_setCell _ _ _ _ hk) (fun k hk hn e => ?_)
                  have := (H7.out.2.2.2.2 k hk).2
                  omega
                have H8 : Hid _ := And.intro hR8 (And.intro hb8 hbt8)
                clear g8 t8 hR8 hb8 hbt8
                go_wp2_with fail
                obtain ⟨q1, q2, q3, q4⟩ := set3 H8.out.2.1 (Nat.le_refl _) H8.out.1 (.bool (!az)) (.slice a5 l2.length c5) (.int .i64 t)
                have hbt9 := H8.out.2.2.kept (Nat.le_of_eq q4.symm) q3 (fun k hk hn e => by have := (H7.out.2.2.2.2 k hk).1; omega)
                generalize ((((w6.setCell ⟨w5.heap.size, 0, none⟩ (.bool (!az))).setCell ⟨w.heap.size, 0, none⟩ (.bool (!az))).setCell ⟨w.heap.size, 1, none⟩ (.slice a5 l2.length c5)).setCell ⟨w.heap.size, 2, none⟩ (.int .i64 t)) = W9 at *
                obtain ⟨y0, y1, y2⟩ := bl3 q1
                exact bodyPost_ret (v := nmV (!az) (.slice a5 l2.length c5) t) (by simp [results, Tryz.results107, go_sem, y0, y1, y2]) rfl ⟨.slice a5 l2.length c5, by rw [HAZ.out], hbt9, fun k hk => by have := (H7.out.2.2.2.2 k hk).1; omega, q2⟩
end Go.Proofs.YtgaegajcejpmdaaGreatDoor.Dc
namespace Go.Proofs.YtgaegajcejpmdaaGreatDoor.Dc
open Go.RowKit
set_option linter.unusedVariables false

/-- What digits gives. -/
def DgP (l : List Int) (w : World) (e : Ending) (w' : World) : Prop :=
  Below w.heap.size w w' ∧ if dgs l = true then ∃ a c, e = .returned (.tuple #[.slice a l.length c, .bool true]) ∧ BtR w' (.slice a l.length c) (l.map (· - 48)) else e = .returned (.tuple #[.slice none 0 0, .bool false])
theorem DgP.bad {l : List Int} {w w' : World} (h : dgs l = false) (hb : Below w.heap.size w w') : DgP l w (.returned (.tuple #[.slice none 0 0, .bool false])) w' := by
  refine ⟨hb, ?_⟩
  rw [if_neg (by simp [h])]
theorem DgP.good {l ol : List Int} {w w' : World} {T n : Nat} (h : dgs l = true) (hb : Below w.heap.size w w') (hO : w'.heap[T]? = some (.cells (ol.map (Value.int .u8)).toArray 5 (0, 0))) (ho : ol = l.map (· - 48)) (hl : n = l.length) (hm : l.length ≤ 20000) : DgP l w (.returned (.tuple #[.slice (some ⟨T, 0, none⟩) n n, .bool true])) w' := by
  refine ⟨hb, ?_⟩
  rw [if_pos h]
  have hd := dgs_dg h
  rw [← ho] at hd
  have e : ol.length = l.length := by rw [ho]; simp
  refine ⟨_, _, by rw [hl], ?_⟩
  have := btr_out hO hd (by omega)
  rw [e, ho] at this
  exact this
theorem dgs_take {l : List Int} {i : Nat} (h : i < l.length) : dgs (l.take (i + 1)) = (dgs (l.take i) && decide (48 ≤ l[i]'h ∧ l[i]'h ≤ 57)) := by
  rw [List.take_succ_eq_append_getElem h, dgs_app]
  simp [dgs]
theorem dgs_no {l : List Int} {i : Nat} (h : i < l.length) (hn : ¬ (48 ≤ l[i]'h ∧ l[i]'h ≤ 57)) : dgs l = false := by
  unfold dgs
  rw [List.all_eq_false]
  exact ⟨_, List.getElem_mem h, by simpa using hn⟩
theorem bl_at (s : ByteArray) (i : Nat) (h : i < s.size) : (bl s)[i]'(by rw [bl_len]; exact h) = ((s[i]'h).toNat : Int) := by
  simp [bl]
  rfl
theorem take_set {ol : List Int} {i : Nat} {d : Int} (hi : i < ol.length) : (ol.set i d).take (i + 1) = ol.take i ++ [d] := by
  rw [List.take_succ_eq_append_getElem (by simpa using hi), List.take_set_of_le (Nat.le_refl _)]
  simp
set_option maxRecDepth 100000 in
set_option maxHeartbeats 3200000 in
theorem digits_p (s : ByteArray) (w : World) (hs : s.size ≤ 20000) : Calls Tryz.prog 106 #[.string s] w (DgP (bl s) w) := by
  obtain ⟨i5, z5, hi5, hz0, hzc, hz1, hz3⟩ := info5p
  have hz5 : z5 = .int .u8 0 := by
    have hh : (Tryz.prog.info? 5).bind (fun i => i.zero) = some (.int .u8 0) := by kernel_rfl
    rw [hi5] at hh
    simp at hh
    rw [hz0] at hh
    simpa using hh
  have hmk := run_makeSlice (P := Tryz.prog) w 32 5 i5 z5 Tryz.underlying32 hi5 hz0 .i64 .i64 (s.size : Int) (s.size : Int) (by omega) (by omega) (by rw [hz1]; omega) (by rw [hz3]; omega) (by omega)
  have htn : ((s.size : Int)).toNat = s.size := by omega
  rw [htn, hz1, hz5, made8] at hmk
  have hbA : Below w.heap.size w (w.alloc (.cells ((List.replicate s.size (0 : Int)).map (Value.int .u8)).toArray 5)) := (Below.refl _ _).alloc (Nat.le_refl _) _
  have hO := nw_heap w (.cells ((List.replicate s.size (0 : Int)).map (Value.int .u8)).toArray 5)
  generalize (w.alloc (.cells ((List.replicate s.size (0 : Int)).map (Value.int .u8)).toArray 5)) = W3 at *
  have HA : Hid _ := And.intro hbA hO
  clear hbA hO htn
  have hlen := bl_len s
  have HLN : Hid _ := hlen
  clear hlen
  go_enter Tryz.func106, Tryz.ntmps106
  go_wp2_with fail
  go_loopg [11] s.size (fun m v11 wr => ∃ (i : Nat) (ol : List Int), v11 = .int .i64 i ∧ i + m = s.size ∧ Hid (Below w.heap.size w wr) ∧ Hid (ol.length = s.size) ∧ wr.heap[w.heap.size]? = some (.cells (ol.map (Value.int .u8)).toArray 5 (0, 0)) ∧ Hid (ol.take i = ((bl s).take i).map (· - 48)) ∧ Hid (dgs ((bl s).take i) = true))
  case atStart => exact ⟨0, List.replicate s.size 0, rfl, by omega, HA.out.1, by show _ = _; simp, HA.out.2, by show _ = _; simp, rfl⟩
  case round =>
    obtain ⟨i, ol, rfl, him, hbr, hol, hO, htk, hdg⟩ := hrel
    by_cases hi : i < s.size
    · obtain ⟨m, rfl⟩ : ∃ m, gk = m + 1 := ⟨gk - 1, by omega⟩
      have hil : i < ol.length := by rw [hol.out]; exact hi
      have hib : i < (bl s).length := by rw [HLN.out]; exact hi
      obtain ⟨y0, yf⟩ := cellO hO hil
      have hcb : ((s[i]'hi).toNat : Int) < 256 := by have := (s[i]'hi).toNat_lt; omega
      have hat := bl_at s i hi
      have HO : Hid _ := And.intro hO (And.intro hat (And.intro hil hib))
      clear hO hat
      by_cases hd : 48 ≤ ((s[i]'hi).toNat : Int) ∧ ((s[i]'hi).toNat : Int) ≤ 57
      · obtain ⟨hd1, hd2⟩ := hd
        have s1 := setO (i := i) (d := ((s[i]'hi).toNat : Int) - 48) HO.out.1
        have s2 : Below w.heap.size w (wr.setCell ⟨w.heap.size, i, none⟩ (.int .u8 (((s[i]'hi).toNat : Int) - 48))) := hbr.out.setCell (p := ⟨w.heap.size, i, none⟩) (Nat.le_refl _) _
        have s3 : (ol.set i (((s[i]'hi).toNat : Int) - 48)).take (i + 1) = ((bl s).take (i + 1)).map (· - 48) := by
          rw [take_set HO.out.2.2.1, htk.out, List.take_succ_eq_append_getElem HO.out.2.2.2, List.map_append, HO.out.2.1]
          rfl
        have s4 : dgs ((bl s).take (i + 1)) = true := by
          rw [dgs_take HO.out.2.2.2, hdg.out, HO.out.2.1]
          simp [hd1, hd2]
        have HS : Hid _ := And.intro s1 (And.intro s2 (And.intro s3 s4))
        clear s1 s2 s3 s4
        go_wp2_with fail
        go_roundg m
        case measure => omega
        case rel => exact ⟨i + 1, _, by simp, by omega, HS.out.2.1, by show _ = _; rw [List.length_set]; exact hol.out, HS.out.1, HS.out.2.2.1, HS.out.2.2.2⟩
      · have hno : dgs (bl s) = false := dgs_no HO.out.2.2.2 (by rw [HO.out.2.1]; exact hd)
        have HN : Hid _ := hno
        clear hno
        by_cases hd1 : ((s[i]'hi).toNat : Int) < 48
        · clear hd
          go_wp2_with fail
          go_ret2
          exact DgP.bad HN.out hbr.out
        · have hd2 : 57 < ((s[i]'hi).toNat : Int) := by omega
          clear hd
          go_wp2_with fail
          go_ret2
          exact DgP.bad HN.out hbr.out
    · obtain rfl : i = s.size := by omega
      have e1 : ol = (bl s).map (· - 48) := by
        have := htk.out
        rw [List.take_of_length_le (by rw [hol.out]; omega), List.take_of_length_le (by rw [HLN.out]; omega)] at this
        exact this
      have e2 : dgs (bl s) = true := by
        have := hdg.out
        rwa [List.take_of_length_le (by rw [HLN.out]; omega)] at this
      have HF : Hid _ := And.intro hO (And.intro e1 e2)
      clear hO e1 e2
      go_wp2_with fail
      go_ret2
      exact DgP.good HF.out.2.2 hbr.out HF.out.1 HF.out.2.1 HLN.out.symm (by rw [HLN.out]; exact hs)
end Go.Proofs.YtgaegajcejpmdaaGreatDoor.Dc
namespace Go.Proofs.YtgaegajcejpmdaaGreatDoor.Dc
open Go.RowKit
set_option linter.unusedVariables false

theorem ret_int {k : IntKind} {a b : Int} (h : a = b) : Ending.returned (.int k a) = .returned (.int k b) := by rw [h]
theorem ret_bool {a b : Bool} (h : a = b) : Ending.returned (.bool a) = .returned (.bool b) := by rw [h]
/-- Where the first point stands; -1: nowhere. -/
def ix : List Int → Int
  | [] => -1
  | b :: l => if b = 46 then 0 else if ix l = -1 then -1 else ix l + 1
theorem ix_lib (l : List UInt8) : Lib.indexByte l 46 = ix (l.map fun c => (c.toNat : Int)) := by
  induction l with
  | nil => rfl
  | cons b l ih =>
    simp only [Lib.indexByte, List.map_cons, ix, ih]
    have e : (b == 46) = decide ((b.toNat : Int) = 46) := by
      rw [Bool.eq_iff_iff]; simp
      constructor
      · rintro rfl; rfl
      · intro h; exact UInt8.toNat_inj.1 (by simpa using (by omega : b.toNat = 46))
    rw [e]
    simp
theorem ix_bd (l : List Int) : ix l = -1 ∨ (0 ≤ ix l ∧ ix l < l.length) := by
  induction l with
  | nil => simp [ix]
  | cons b l ih =>
    have : ((b :: l).length : Int) = l.length + 1 := by simp
    rw [this]
    simp only [ix]
    by_cases h1 : b = 46
    · rw [if_pos h1]; omega
    · rw [if_neg h1]
      by_cases h2 : ix l = -1
      · rw [if_pos h2]; omega
      · rw [if_neg h2]; omega
theorem ct_ix : ∀ (l : List Int), (ix l = -1 → ctS l = (l, [])) ∧ (∀ k : Nat, ix l = k → ctS l = (l.take k, l.drop (k + 1)))
  | [] => ⟨fun _ => rfl, fun k h => by simp [ix] at h⟩
  | c :: l => by
    have ih := ct_ix l
    rw [ix, ctS]
    by_cases h1 : c = 46
    · rw [if_pos h1, if_pos h1]
      refine ⟨fun h => by omega, fun k h => ?_⟩
      have : k = 0 := by omega
      rw [this]; simp
    · rw [if_neg h1, if_neg h1]
      by_cases h2 : ix l = -1
      · rw [if_pos h2, ih.1 h2]
        exact ⟨fun _ => rfl, fun k h => by omega⟩
      · rw [if_neg h2]
        refine ⟨fun h => by have := ix_bd l; omega, fun k h => ?_⟩
        obtain ⟨j, rfl⟩ : ∃ j, k = j + 1 := ⟨k - 1, by have := ix_bd l; omega⟩
        rw [ih.2 j (by omega)]
        simp
theorem bl_pre (s : ByteArray) (k : Nat) (h : k ≤ s.size) : bl (s.extract 0 k) = (bl s).take k := by
  unfold bl
  rw [ByteArray.data_extract, Array.toList_extract, List.extract_eq_take_drop, ← List.map_take]
  simp
theorem bl_suf (s : ByteArray) (k : Nat) : bl (s.extract k s.size) = (bl s).drop k := by
  unfold bl
  rw [ByteArray.data_extract, Array.toList_extract, List.extract_eq_take_drop, List.map_drop.symm]
  congr 1
  rw [List.take_of_length_le]
  rw [List.length_drop]
  exact Nat.le_refl _
theorem point_run (s : ByteArray) (c : Int) (w : World) : (callFunc 215 #[.string s, .int .u8 c]).run Tryz.prog w = .ok (.value (.int .i64 (Lib.indexByte s.data.toList c.toNat.toUInt8))) w := by
  rw [run_callFunc_extern Tryz.func215 (by kernel_rfl) (by kernel_rfl) (by kernel_rfl) (e := Extern.BytealgIndexByte.indexByte) (by kernel_rfl), Lib.run_indexByteString]
  rfl
set_option maxHeartbeats 400000 in
theorem index_any (s : ByteArray) (w : World) :
    Calls Tryz.prog 176 #[.string s, .string ⟨#[46]⟩] w fun e w' => e = .returned (.int .i64 (ix (bl s))) ∧ w' = w := by
  have hr := point_run s
  go_enter Tryz.func176, Tryz.ntmps176
  go_wp2
  · go_ret
    refine ⟨ret_int ?_, rfl⟩
    have h : s.toList = [46] := (beq_iff_eq.1 ‹_›).symm
    have : bl s = [46] := by unfold bl; rw [← Lib.toList_data, h]; rfl
    rw [this]; rfl
  · go_ret
    refine ⟨ret_int ?_, rfl⟩
    exact ix_lib s.data.toList
set_option maxHeartbeats 400000 in
theorem lcut_no (s : ByteArray) (w : World) (h : ix (bl s) = -1) :
    Calls Tryz.prog 148 #[.string s, .string ⟨#[46]⟩] w fun e w' => e = .returned (.tuple #[.string s, .string ⟨#[]⟩, .bool false]) ∧ w' = w := by
  go_enter Tryz.func148, Tryz.ntmps148
  go_wp2_with (go_at_call 176; refine (index_any _ _).mono ?_; rintro e w' ⟨rfl, rfl⟩)
  go_ret3
  exact ⟨rfl, rfl⟩
set_option maxHeartbeats 400000 in
theorem cut_no (s : ByteArray) (w : World) (h : ix (bl s) = -1) :
    Calls Tryz.prog 105 #[.string s, .string ⟨#[46]⟩] w fun e w' => e = .returned (.tuple #[.string s, .string ⟨#[]⟩, .bool false]) ∧ w' = w := by
  go_enter Tryz.func105, Tryz.ntmps105
  go_wp2_with (go_at_call 148; refine (lcut_no _ _ h).mono ?_; rintro e w' ⟨rfl, rfl⟩)
  go_ret3
  exact ⟨rfl, rfl⟩
set_option maxHeartbeats 400000 in
theorem lcut_yes (s : ByteArray) (k : Nat) (w : World) (hs : s.size ≤ maxLen) (h : ix (bl s) = (k : Int)) :
    Calls Tryz.prog 148 #[.string s, .string ⟨#[46]⟩] w fun e w' => e = .returned (.tuple #[.string (s.extract 0 k), .string (s.extract (k + 1) s.size), .bool true]) ∧ Below w.heap.size w w' := by
  have hk : k < s.size := by
    have := ix_bd (bl s)
    rw [h, bl_len] at this
    omega
  unfold maxLen at hs
  go_enter Tryz.func148, Tryz.ntmps148
  go_wp2_with (go_at_call 176; refine (index_any _ _).mono ?_; rintro e w' ⟨rfl, rfl⟩)
  go_region
  all_goals
    go_wp2
    go_ret3
    exact ⟨rfl, (Below.refl _ _).drew⟩
set_option maxHeartbeats 400000 in
theorem cut_yes (s : ByteArray) (k : Nat) (w : World) (hs : s.size ≤ maxLen) (h : ix (bl s) = (k : Int)) :
    Calls Tryz.prog 105 #[.string s, .string ⟨#[46]⟩] w fun e w' => e = .returned (.tuple #[.string (s.extract 0 k), .string (s.extract (k + 1) s.size), .bool true]) ∧ Below w.heap.size w w' := by
  go_enter Tryz.func105, Tryz.ntmps105
  go_wp2_with (go_at_call 148; refine (lcut_yes _ _ _ hs h).mono ?_; rintro e w' ⟨rfl, hb⟩)
  go_ret3
  exact ⟨rfl, hb⟩
/-- Cut, both ways. -/
theorem cut_p (s : ByteArray) (w : World) (hs : s.size ≤ maxLen) :
    Calls Tryz.prog 105 #[.string s, .string ⟨#[46]⟩] w fun e w' => ∃ (x y : ByteArray) (b : Bool), e = .returned (.tuple #[.string x, .string y, .bool b]) ∧ (bl x, bl y) = ctS (bl s) ∧ x.size + y.size ≤ s.size ∧ Below w.heap.size w w' := by
  rcases ix_bd (bl s) with h | ⟨h0, h1⟩
  · refine Calls.mono (cut_no s w h) ?_
    rintro e w' ⟨rfl, rfl⟩
    exact ⟨_, _, _, rfl, ((ct_ix (bl s)).1 h).symm, Nat.le_refl _, Below.refl _ _⟩
  · obtain ⟨k, hk⟩ := Int.eq_ofNat_of_zero_le h0
    rw [bl_len] at h1
    refine Calls.mono (cut_yes s k w hs hk) ?_
    rintro e w' ⟨rfl, hb⟩
    refine ⟨_, _, _, rfl, ?_, ?_, hb⟩
    · rw [bl_pre s k (by omega), bl_suf]
      exact ((ct_ix (bl s)).2 k hk).symm
    · rw [ByteArray.size_extract, ByteArray.size_extract]; omega
theorem ext_one (s : ByteArray) (h : 0 < s.size) : (s.extract 0 1).toList = [s[0]'h] := by
  rw [Lib.toList_data, ByteArray.data_extract, Array.toList_extract, List.extract_eq_take_drop]
  rw [List.drop_zero]
  have h' : 0 < s.data.toList.length := by rw [Array.length_toList]; exact h
  rw [List.take_succ_eq_append_getElem h']
  simp
  rfl
theorem pre_aux (s : ByteArray) (h : 0 < s.size) (c : UInt8) : ((s.extract 0 1).toList == [c]) = decide ((bl s).head? = some (c.toNat : Int)) := by
  rw [ext_one s h, bl_cons s h, Bool.eq_iff_iff]
  simp
  constructor
  · rintro rfl; rfl
  · intro q; exact UInt8.toNat_inj.1 (by omega)
set_option maxHeartbeats 400000 in
theorem pre_p (s : ByteArray) (c : UInt8) (w : World) (hs : s.size ≤ maxLen) :
    Calls Tryz.prog 104 #[.string s, .string ⟨#[c]⟩] w fun e w' => e = .returned (.bool (decide ((bl s).head? = some (c.toNat : Int)))) ∧ w' = w := by
  unfold maxLen at hs
  by_cases h : 0 < s.size
  · have ha := pre_aux s h c
    generalize (decide ((bl s).head? = some (c.toNat : Int))) = B at *
    have h1 : (1 : Int) ≤ s.size := by omega
    go_enter Tryz.func104, Tryz.ntmps104
    go_wp2
    go_ret
    exact ⟨by rw [← ha]; rfl, rfl⟩
  · have hb : bl s = [] := bl_nil (by omega)
    have hB : (decide ((bl s).head? = some (c.toNat : Int))) = false := by rw [hb]; simp
    have h1 : ¬ (1 : Int) ≤ s.size := by omega
    rw [hB]
    go_enter Tryz.func104, Tryz.ntmps104
    go_wp2
    go_ret
    exact ⟨rfl, rfl⟩
end Go.Proofs.YtgaegajcejpmdaaGreatDoor.Dc
namespace Go.Proofs.YtgaegajcejpmdaaGreatDoor.Dc
open Go.RowKit
set_option linter.unusedVariables false

/-- What the program's Parse gives. -/
def PrP (l : List Int) (w : World) (e : Ending) (w' : World) : Prop :=
  Below w.heap.size w w' ∧ match parS l with
  | .error x => ∃ v0, e = .returned (.tuple #[nmV false v0 0, .int .i64 x]) ∧ BtR w' v0 []
  | .ok n => ∃ rv, e = .returned (.tuple #[nmV n.1 rv n.2.2, .int .i64 0]) ∧ BtR w' rv n.2.1
/-- A number's box stands. -/
theorem boxK {w : World} {T : Nat} {x y z : Value} {t : TypeId} (h : w.heap[T]? = some (.cells #[x, y, z] t (0, 0))) : ∀ W, Below w.heap.size w W → W.cell? ⟨T, 0, none⟩ = some x ∧ W.cell? ⟨T, 1, none⟩ = some y ∧ W.cell? ⟨T, 2, none⟩ = some z := fun W hb => bl3 ((hb.block _ (lt_of h)).trans h)
def kA : List Int := [45, 48, 48, 55, 46, 53, 48]
def kB : List Int := [43, 46, 53]
end Go.Proofs.YtgaegajcejpmdaaGreatDoor.Dc
namespace Go.Proofs.YtgaegajcejpmdaaGreatDoor.Dc
open Go.RowKit
set_option linter.unusedVariables false

theorem PrP.bad {l : List Int} {w w' : World} {x : Int} (h : parS l = .error x) (hb : Below w.heap.size w w') : PrP l w (.returned (.tuple #[nmV false (.slice none 0 0) 0, .int .i64 x])) w' := by
  refine ⟨hb, ?_⟩
  rw [h]
  exact ⟨_, rfl, none, 0, rfl, Nat.le_refl _, Nat.zero_le _, fun d hd => by simp at hd, .inl rfl⟩
theorem PrP.good {l : List Int} {w w' : World} {n : Nm} {rv : Value} (h : parS l = .ok n) (hb : Below w.heap.size w w') (ht : BtR w' rv n.2.1) : PrP l w (.returned (.tuple #[nmV n.1 rv n.2.2, .int .i64 0])) w' := by
  refine ⟨hb, ?_⟩
  rw [h]
  exact ⟨rv, rfl, ht⟩
/-- Its sign, and what follows it. -/
theorem sg_cases (s : ByteArray) : ((bl s).head? = some 45 ∧ 0 < s.size ∧ sgS (bl s) = (true, bl (s.extract 1 s.size))) ∨ ((bl s).head? ≠ some 45 ∧ (bl s).head? = some 43 ∧ 0 < s.size ∧ sgS (bl s) = (false, bl (s.extract 1 s.size))) ∨ ((bl s).head? ≠ some 45 ∧ (bl s).head? ≠ some 43 ∧ sgS (bl s) = (false, bl s)) := by
  rw [bl_ext]
  by_cases h0 : 0 < s.size
  · have hc := bl_cons s h0
    generalize ((s[0]'h0).toNat : Int) = c at *
    rw [hc]
    simp only [List.head?_cons, Option.some.injEq, sgS, List.drop_succ_cons, List.drop_zero]
    by_cases h1 : c = 45
    · exact .inl ⟨h1, h0, by rw [if_neg (by omega), if_pos h1]⟩
    · by_cases h2 : c = 43
      · exact .inr (.inl ⟨by simpa using h1, h2, h0, by rw [if_pos h2]⟩)
      · exact .inr (.inr ⟨by simpa using h1, by simpa using h2, by rw [if_neg h2, if_neg h1]⟩)
  · rw [bl_nil (by omega)]
    exact .inr (.inr ⟨by simp, by simp, rfl⟩)
theorem bl_app (a b : ByteArray) : bl (a ++ b) = bl a ++ bl b := by
  unfold bl
  rw [← List.map_append]
  congr 1
theorem bl_e0 {s : ByteArray} : bl s = [] ↔ s.size = 0 := ⟨fun h => by rw [← bl_len, h]; rfl, bl_nil⟩
set_option maxRecDepth 100000 in
set_option maxHeartbeats 6400000 in
theorem parse_p (s : ByteArray) (w : World) (hsm : s.size ≤ maxLen) : Calls Tryz.prog 59 #[.string s] w (PrP (bl s) w) := by
  have hpm := fun c W => pre_p s c W hsm
  unfold maxLen at hsm
  have hb0 : Below w.heap.size w (w.alloc zP) := (Below.refl _ _).alloc (Nat.le_refl _) _
  have hR0 := nw_heap w zP
  have hpl := par_cut (bl s)
  rw [bl_len] at hpl
  have HP : Hid _ := And.intro hpl (And.intro hb0 (And.intro hR0 hpm))
  clear hpl hb0 hR0 hpm
  by_cases hbig : (4096 : Int) < s.size
  · go_enter Tryz.func59, Tryz.ntmps59
    go_wp2_with fail
    exact bodyPost_ret (v := .tuple #[nmV false (.slice none 0 0) 0, .int .i64 3]) (by simp [results, Tryz.results59, go_sem]) rfl (PrP.bad (by rw [HP.out.1, if_pos (by omega)]) HP.out.2.1)
  have hpl2 := HP.out.1
  rw [if_neg (show ¬ 4096 < s.size by omega)] at hpl2
  have hpm := HP.out.2.2.2
  have hsg := sg_cases s
  generalize hL : bl s = L at *
  have HP2 : Hid _ := And.intro hpl2 (And.intro HP.out.2.1 (And.intro HP.out.2.2.1 (And.intro (hpm 45) (hpm 43))))
  have HL : Hid _ := hL
  clear hpl2 HP hL hpm
  go_enter Tryz.func59, Tryz.ntmps59
  rcases hsg with ⟨h1, hp, hs1⟩ | ⟨h1, h2, hp, hs1⟩ | ⟨h1, h2, hs1⟩
  case' inl =>
    have hd1 : decide (L.head? = some ((45 : UInt8).toNat : Int)) = true := decide_eq_true h1
    have HS : Hid _ := hs1
    have HD : Hid _ := hd1
    clear hd1 h1 hs1
    go_wp2_with fail
    refine Calls.mono (HP2.out.2.2.2.1 _) ?_
    rintro e w' ⟨rfl, rfl⟩
    rw [HD.out]
    go_wp2_with fail
    have hs' : (s.extract 1 s.size).size ≤ 4096 := by have := ext_size s; omega
    generalize s.extract 1 s.size = s' at *
  case' inr.inl =>
    have hd1 : decide (L.head? = some ((45 : UInt8).toNat : Int)) = false := decide_eq_false h1
    have hd2 : decide (L.head? = some ((43 : UInt8).toNat : Int)) = true := decide_eq_true h2
    have HS : Hid _ := hs1
    have HD : Hid _ := And.intro hd1 hd2
    clear hd1 hd2 h1 h2 hs1
    go_wp2_with fail
    refine Calls.mono (HP2.out.2.2.2.1 _) ?_
    rintro e w' ⟨rfl, rfl⟩
    rw [HD.out.1]
    go_wp2_with fail
    refine Calls.mono (HP2.out.2.2.2.2 _) ?_
    rintro e w' ⟨rfl, rfl⟩
    rw [HD.out.2]
    go_wp2_with fail
    have hs' : (s.extract 1 s.size).size ≤ 4096 := by have := ext_size s; omega
    generalize s.extract 1 s.size = s' at *
  case' inr.inr =>
    have hd1 : decide (L.head? = some ((45 : UInt8).toNat : Int)) = false := decide_eq_false h1
    have hd2 : decide (L.head? = some ((43 : UInt8).toNat : Int)) = false := decide_eq_false h2
    have hs2 : sgS L = (false, bl s) := by rw [HL.out]; exact hs1
    have HS : Hid _ := hs2
    clear hs2
    have HD : Hid _ := And.intro hd1 hd2
    clear hd1 hd2 h1 h2 hs1
    go_wp2_with fail
    refine Calls.mono (HP2.out.2.2.2.1 _) ?_
    rintro e w' ⟨rfl, rfl⟩
    rw [HD.out.1]
    go_wp2_with fail
    refine Calls.mono (HP2.out.2.2.2.2 _) ?_
    rintro e w' ⟨rfl, rfl⟩
    rw [HD.out.2]
    go_wp2_with fail
    have hs' : s.size ≤ 4096 := by omega
    clear HL
    rename ByteArray => s'
  all_goals
    have hc := cut_p s' (w.alloc zP) (by unfold maxLen; omega)
    refine Calls.mono hc ?_
    rintro e w1 ⟨x, y, bb, rfl, hct, hxy, hb1⟩
    have hct1 : (ctS (bl s')).1 = bl x := by rw [← hct]
    have hct2 : (ctS (bl s')).2 = bl y := by rw [← hct]
    have hpl := HP2.out.1
    rw [HS.out] at hpl
    dsimp only at hpl
    rw [hct1, hct2] at hpl
    have hbw1 := HP2.out.2.1.trans (hb1.mono HP2.out.2.1.size)
    have hz1 := (hb1.block _ (lt_of HP2.out.2.2.1)).trans HP2.out.2.2.1
    obtain ⟨r0, r1, r2⟩ := bl3 hz1
    obtain ⟨rf0, rf1, rf2⟩ := bl3f hz1
    have H1 : Hid _ := And.intro hpl (And.intro hbw1 hz1)
    clear hc hct hct1 hct2 hpl hbw1 hz1 hb1 HP2
    have hcase : (x.size = 0 ∧ y.size = 0) ∨ (x.size = 0 ∧ 0 < y.size) ∨ 0 < x.size := by omega
    rcases hcase with ⟨hx, hy⟩ | ⟨hx, hy⟩ | hx
    case' inl =>
      have hpe : parS L = .error 2 := by rw [H1.out.1, if_pos ⟨bl_nil hx, bl_nil hy⟩]
      have e1 := tl_ee hx
      have e2 := tl_ee hy
      have HPE : Hid _ := hpe
      clear hpe
      go_wp2_with fail
      obtain ⟨k1, k2, k3, k4⟩ := set3 H1.out.2.1 (Nat.le_refl _) H1.out.2.2 (.bool false) (.slice none 0 0) (.int .i64 0)
      generalize (((w1.setCell ⟨w.heap.size, 0, none⟩ (.bool false)).setCell ⟨w.heap.size, 1, none⟩ (.slice none 0 0)).setCell ⟨w.heap.size, 2, none⟩ (.int .i64 0)) = W9 at *
      obtain ⟨y0, y1, y2⟩ := bl3 k1
      exact bodyPost_ret (v := .tuple #[nmV false (.slice none 0 0) 0, .int .i64 2]) (by simp [results, Tryz.results59, go_sem, y0, y1, y2]) rfl (PrP.bad HPE.out k2)
    case' inr.inl =>
      have hpe := H1.out.1
      rw [if_neg (fun q => by rw [bl_e0] at q; rw [bl_e0] at q; omega)] at hpe
      have e1 := tl_ee hx
      have e2 := tl_nn hy
      have HPE : Hid _ := hpe
      clear hpe
      go_wp2_with fail
    case' inr.inr =>
      have hpe := H1.out.1
      rw [if_neg (fun q => by rw [bl_e0] at q; omega)] at hpe
      have e1 := tl_nn hx
      have HPE : Hid _ := hpe
      clear hpe
      go_wp2_with fail
    all_goals
      have hzs : ((⟨#[48]⟩ : ByteArray) ++ x ++ y).size = 1 + x.size + y.size := by rw [ByteArray.size_append, ByteArray.size_append]; rfl
      have hbz : bl ((⟨#[48]⟩ : ByteArray) ++ x ++ y) = 48 :: (bl x ++ bl y) := by rw [bl_app, bl_app]; rfl
      have hdp := digits_p ((⟨#[48]⟩ : ByteArray) ++ x ++ y) w1 (by rw [hzs]; omega)
      rw [hbz] at hdp
      have hlx := bl_len x
      have hly := bl_len y
      refine Calls.mono hdp ?_
      rintro e w2 ⟨hb2, hdd⟩
      have hd48 : dgs (48 :: (bl x ++ bl y)) = dgs (bl x ++ bl y) := by simp [dgs]
      have hbw2 := H1.out.2.1.trans (hb2.mono H1.out.2.1.size)
      have hz2 := (hb2.block _ (lt_of H1.out.2.2)).trans H1.out.2.2
      rw [hd48] at hdd
      have hpe := HPE.out
      rw [hly] at hpe
      clear r0 r1 r2 rf0 rf1 rf2 hzs hbz hdp hd48 hb2 HPE
      obtain ⟨r0, r1, r2⟩ := bl3 hz2
      obtain ⟨rf0, rf1, rf2⟩ := bl3f hz2
      obtain ⟨ll, hll⟩ : ∃ ll, ll = 0 :: (bl x ++ bl y).map (· - 48) := ⟨_, rfl⟩
      have hln : (48 :: (bl x ++ bl y)).length = ll.length := by rw [hll]; simp
      have hln2 : ll.length = x.size + y.size + 1 := by rw [← hln, ← hlx, ← hly]; simp
      have hmp : (48 :: (bl x ++ bl y)).map (· - 48) = ll := by rw [hll]; rfl
      rw [hln, hmp] at hdd
      rw [← hll] at hpe
      by_cases hdg : dgs (bl x ++ bl y) = true
      · rw [if_pos hdg] at hdd hpe
        obtain ⟨ra, rc, rfl, hbt⟩ := hdd
        have hdl : Dg ll := by
          rw [hll]
          have := dgs_dg hdg
          intro d hd
          rcases List.mem_cons.1 hd with q | q
          · omega
          · exact this d q
        have hcn := fun ng => canon_p hbt hdl ng y.size (by omega) (by omega)
        have H2 : Hid _ := And.intro hpe (And.intro hbw2 (And.intro hz2 hcn))
        have HLN : Hid _ := hln2
        clear hpe hbw2 hz2 hcn hdl hbt hll hln hln2 hmp hdg hlx hly H1
        go_wp2_with fail
        refine Calls.mono (H2.out.2.2.2 _) ?_
        rintro e w3 ⟨rv, rfl, hbt3, hrv3, hb3⟩
        have hz3 := (hb3.block _ (lt_of H2.out.2.2.1)).trans H2.out.2.2.1
        have hbw3 := H2.out.2.1.trans (hb3.mono H2.out.2.1.size)
        have hszw := H2.out.2.1.size
        clear r0 r1 r2 rf0 rf1 rf2
        obtain ⟨y0, y1, y2⟩ := bl3 hz3
        obtain ⟨yf0, yf1, yf2⟩ := bl3f hz3
        obtain ⟨rb, rd, rfl, _⟩ := hbt3.form
        have H3 : Hid _ := And.intro hbt3 (And.intro hz3 (And.intro hbw3 hrv3))
        clear hbt3 hb3 hz3 hbw3 hrv3
        go_wp2_with fail
        have hpe := H2.out.1
        generalize canS _ ll y.size = C at *
        obtain ⟨c1, c2, c3⟩ := C
        dsimp only at *
        obtain ⟨k1, k2, k3, k4⟩ := set3 H3.out.2.2.1 (Nat.le_refl _) H3.out.2.1 (.bool c1) (.slice rb c2.length rd) (.int .i64 c3)
        have hbt9 := H3.out.1.kept (Nat.le_of_eq k4.symm) k3 (fun k hk hn e => by have := H3.out.2.2.2 k hk; omega)
        generalize (((w3.setCell ⟨w.heap.size, 0, none⟩ (.bool c1)).setCell ⟨w.heap.size, 1, none⟩ (.slice rb c2.length rd)).setCell ⟨w.heap.size, 2, none⟩ (.int .i64 c3)) = W9 at *
        obtain ⟨j0, j1, j2⟩ := bl3 k1
        exact bodyPost_ret (v := .tuple #[nmV c1 (.slice rb c2.length rd) c3, .int .i64 0]) (by simp [results, Tryz.results59, go_sem, j0, j1, j2]) rfl (PrP.good (n := (c1, c2, c3)) hpe k2 hbt9)
      · rw [if_neg hdg] at hdd hpe
        subst hdd
        have HPE : Hid _ := And.intro hpe (And.intro hbw2 hz2)
        clear hpe hbw2 hz2 hll hln hln2 hmp hdg hlx hly H1
        go_wp2_with fail
        obtain ⟨k1, k2, k3, k4⟩ := set3 HPE.out.2.1 (Nat.le_refl _) HPE.out.2.2 (.bool false) (.slice none 0 0) (.int .i64 0)
        generalize (((w2.setCell ⟨w.heap.size, 0, none⟩ (.bool false)).setCell ⟨w.heap.size, 1, none⟩ (.slice none 0 0)).setCell ⟨w.heap.size, 2, none⟩ (.int .i64 0)) = W9 at *
        obtain ⟨y0, y1, y2⟩ := bl3 k1
        exact bodyPost_ret (v := .tuple #[nmV false (.slice none 0 0) 0, .int .i64 2]) (by simp [results, Tryz.results59, go_sem, y0, y1, y2]) rfl (PrP.bad HPE.out.1 k2)
end Go.Proofs.YtgaegajcejpmdaaGreatDoor.Dc
namespace Go.Proofs.YtgaegajcejpmdaaGreatDoor.Dc
open Go.RowKit
set_option linter.unusedVariables false

/-- Right, by the program's way. -/
theorem rg_pr (neg : Bool) (l : List Int) (sc : Int) : rgS neg l sc = if 1 ≤ l.length ∧ l.length ≤ 4096 ∧ 0 ≤ sc ∧ sc ≤ l.length - 1 then
    (if 9 < mxS l then false else if 1 < (l.length : Int) - sc ∧ l.head? = some 0 then false else if 0 < sc ∧ l.getLast? = some 0 then false else (!neg || !(noS l))) else false := by
  unfold rgS
  by_cases h1 : 1 ≤ l.length ∧ l.length ≤ 4096 ∧ 0 ≤ sc ∧ sc ≤ (l.length : Int) - 1
  · rw [if_pos h1, decide_eq_true h1, Bool.true_and, ← mx_nine]
    by_cases h2 : 9 < mxS l
    · rw [if_pos h2, decide_eq_false (by omega)]; simp
    · rw [if_neg h2, decide_eq_true (by omega), Bool.true_and]
      by_cases h3 : 1 < (l.length : Int) - sc ∧ l.head? = some 0
      · rw [if_pos h3, decide_eq_false (by omega), h3.2]; simp
      · rw [if_neg h3]
        have e3 : (decide ((l.length : Int) - sc = 1) || !(l.head? == some 0)) = true := by
          by_cases q : (l.length : Int) - sc = 1
          · simp [q]
          · have : ¬ l.head? = some 0 := fun r => h3 ⟨by omega, r⟩
            simp [this]
        rw [e3, Bool.true_and]
        by_cases h4 : 0 < sc ∧ l.getLast? = some 0
        · rw [if_pos h4, decide_eq_false (by omega), h4.2]; simp
        · rw [if_neg h4]
          have e4 : (decide (sc = 0) || !(l.getLast? == some 0)) = true := by
            by_cases q : sc = 0
            · simp [q]
            · have : ¬ l.getLast? = some 0 := fun r => h4 ⟨by omega, r⟩
              simp [this]
          rw [e4, Bool.true_and]
          have e5 : l.all (· == 0) = noS l := by
            rw [Bool.eq_iff_iff]
            unfold noS
            constructor
            · intro ha
              have hz : ∀ d ∈ l, d = 0 := fun d hd => by simpa using List.all_eq_true.1 ha d hd
              have hne : l ≠ [] := fun e => by rw [e] at h1; simp at h1
              have hh : l.head? = some 0 := by
                cases l with
                | nil => exact absurd rfl hne
                | cons d l => rw [hz d (by simp)]; rfl
              have hl : l.getLast? = some 0 := by
                obtain ⟨m, d, e, _, hg⟩ := last_mod hne
                rw [hg, hz d (by rw [e]; simp)]
              have q1 : ¬ 1 < (l.length : Int) - sc := fun q => h3 ⟨q, hh⟩
              have q2 : ¬ 0 < sc := fun q => h4 ⟨q, hl⟩
              have : l.length = 1 := by omega
              simp [this, hh]
            · intro hb
              simp only [Bool.and_eq_true, decide_eq_true_eq, beq_iff_eq] at hb
              obtain ⟨q1, q2⟩ := hb
              obtain ⟨d, rfl⟩ := List.length_eq_one_iff.1 q1
              simp at q2
              simp [q2]
          rw [e5]
          cases noS l <;> cases neg <;> rfl
  · rw [if_neg h1, decide_eq_false h1]; simp
set_option maxRecDepth 100000 in
set_option maxHeartbeats 3200000 in
theorem right_p {w : World} {v : Value} {l : List Int} (h : BtR w v l) (neg : Bool) (sc : Int) (hs0 : -9223372036854775808 ≤ sc) (hs1 : sc ≤ 9223372036854775807) : Calls Tryz.prog 54 #[nmV neg v sc] w fun e w' => e = .returned (.bool (rgS neg l sc)) ∧ Below w.heap.size w w' := by
  have hbx : Below w.heap.size w (w.alloc (.cells #[.bool neg, v, .int .i64 sc] 34)) := (Below.refl _ _).alloc (Nat.le_refl _) _
  have hbk := nw_heap w (.cells #[.bool neg, v, .int .i64 sc] 34)
  have hN := fun W (hW : Below w.heap.size w W) => nought_p (h.below hW) neg sc
  have hM := fun W (hW : Below w.heap.size w W) (hn : l ≠ []) => max_p (h.below hW) hn
  have hA := fun W (hW : Below w.heap.size w W) q1 q2 => ahead_p (h.below hW) neg sc q1 q2
  obtain ⟨a, cap, rfl, h1, h2, h3, h4⟩ := h
  unfold maxLen at h2
  have hR := rg_pr neg l sc
  generalize rgS neg l sc = R at *
  have HH : Hid _ := And.intro h3 (And.intro h4 (And.intro hbx (And.intro hbk (And.intro hR (And.intro hN (And.intro hM hA))))))
  clear h3 h4 hbx hbk hR hN hM hA
  have hbad : ¬ (1 ≤ l.length ∧ l.length ≤ 4096 ∧ 0 ≤ sc ∧ sc ≤ (l.length : Int) - 1) → R = false := fun q => by
    rw [HH.out.2.2.2.2.1, if_neg q]
  by_cases g1 : (l.length : Int) < 1
  · have : R = false := hbad (by omega)
    subst this
    clear hbad
    go_enter Tryz.func54, Tryz.ntmps54
    go_wp2_with fail
    go_ret
    exact ⟨rfl, HH.out.2.2.1⟩
  by_cases g2 : 4096 < (l.length : Int)
  · have : R = false := hbad (by omega)
    subst this
    clear hbad
    go_enter Tryz.func54, Tryz.ntmps54
    go_wp2_with fail
    go_ret
    exact ⟨rfl, HH.out.2.2.1⟩
  by_cases g3 : sc < 0
  · have : R = false := hbad (by omega)
    subst this
    clear hbad
    go_enter Tryz.func54, Tryz.ntmps54
    go_wp2_with fail
    go_ret
    exact ⟨rfl, HH.out.2.2.1⟩
  by_cases g4 : (l.length : Int) - 1 < sc
  · have : R = false := hbad (by omega)
    subst this
    clear hbad
    go_enter Tryz.func54, Tryz.ntmps54
    go_wp2_with fail
    go_ret
    exact ⟨rfl, HH.out.2.2.1⟩
  have hR2 : R = (if 9 < mxS l then false else if 1 < (l.length : Int) - sc ∧ l.head? = some 0 then false else if 0 < sc ∧ l.getLast? = some 0 then false else (!neg || !(noS l))) := by rw [HH.out.2.2.2.2.1, if_pos (by omega)]
  have hn : 0 < l.length := by omega
  have hne : l ≠ [] := fun e => by rw [e] at hn; simp at hn
  rcases HH.out.2.1 with he | ⟨g, o, rfl, hg, hc⟩
  · exact absurd he hne
  have hMX := HH.out.2.2.2.2.2.2.1 _ HH.out.2.2.1 hne
  have hmb := mx_bd l 0 (by omega) (by omega) HH.out.1
  have hh : l.head? = some (l[0]'hn) := by rw [List.head?_eq_getElem?, List.getElem?_eq_getElem]
  have hla : l.getLast? = some (l[l.length - 1]'(by omega)) := by rw [List.getLast?_eq_getElem?, List.getElem?_eq_getElem]
  rw [hh, hla] at hR2
  have hc0 := hc 0 hn
  rw [Nat.add_zero] at hc0
  have hc1 := hc (l.length - 1) (by omega)
  have b0 := HH.out.1 _ (List.getElem_mem hn)
  have b1 := HH.out.1 _ (List.getElem_mem (show l.length - 1 < l.length by omega))
  generalize (l[0]'hn) = d0 at *
  generalize (l[l.length - 1]'(by omega)) = d1 at *
  have e1 : ((l.length : Nat) : Int) - 1 = ((l.length - 1 : Nat) : Int) := by omega
  have hk : l.length - 1 < l.length := by omega
  have hm0 : 0 ≤ mxS l ∧ mxS l < 256 := hmb
  generalize mxS l = M at *
  generalize noS l = N at *
  have HR : Hid _ := And.intro hR2 (And.intro hMX (And.intro hc0 hc1))
  clear hbad hR2 hMX hmb hc hc0 hc1 hh hla
  obtain ⟨c0, c1, c2⟩ := bl3 HH.out.2.2.2.1
  go_enter Tryz.func54, Tryz.ntmps54
  go_wp2_with fail
  refine Calls.mono HR.out.2.1 ?_
  rintro e w1 ⟨rfl, hb1⟩
  have hbw1 := HH.out.2.2.1.trans (hb1.mono HH.out.2.2.1.size)
  have hT1 := (hb1.block _ (lt_of HH.out.2.2.2.1)).trans HH.out.2.2.2.1
  have hA1 := HH.out.2.2.2.2.2.2.2 _ hbw1 (by omega) (by omega)
  clear c0 c1 c2
  obtain ⟨c0, c1, c2⟩ := bl3 hT1
  have H1 : Hid _ := And.intro hbw1 (And.intro hT1 hA1)
  clear hb1 hbw1 hT1 hA1
  by_cases h9 : 9 < M
  · have : R = false := by rw [HR.out.1, if_pos h9]
    subst this
    go_wp2_with fail
    go_ret
    exact ⟨rfl, H1.out.1⟩
  have hR3 : R = (if 1 < (l.length : Int) - sc ∧ some d0 = some 0 then false else if 0 < sc ∧ some d1 = some 0 then false else (!neg || !N)) := by rw [HR.out.1, if_neg h9]
  have HR3 : Hid _ := hR3
  clear hR3
  go_wp2_with fail
  refine Calls.mono H1.out.2.2 ?_
  rintro e w2 ⟨rfl, hb2⟩
  have hbw2 := H1.out.1.trans (hb2.mono H1.out.1.size)
  have hT2 := (hb2.block _ (lt_of H1.out.2.1)).trans H1.out.2.1
  have hN2 := HH.out.2.2.2.2.2.1 _ hbw2
  have x0 := (hbw2.cell (p := ⟨g, o, none⟩) hg).trans HR.out.2.2.1
  have x1 := (hbw2.cell (p := ⟨g, o + (l.length - 1), none⟩) hg).trans HR.out.2.2.2
  clear c0 c1 c2
  obtain ⟨c0, c1, c2⟩ := bl3 hT2
  have H2 : Hid _ := And.intro hbw2 (And.intro hT2 hN2)
  clear hb2 hbw2 hT2 hN2
  have hsl : ¬ 1 < (l.length : Int) - sc ∨ (1 < (l.length : Int) - sc ∧ d0 ≠ 0) ∨ (1 < (l.length : Int) - sc ∧ d0 = 0) := by omega
  have hlz : ¬ 0 < sc ∨ (0 < sc ∧ d1 ≠ 0) ∨ (0 < sc ∧ d1 = 0) := by omega
  rcases hsl with p1 | ⟨p1, p2⟩ | ⟨p1, p2⟩
  case' inr.inr =>
    have : R = false := by rw [HR3.out, if_pos ⟨p1, by rw [p2]⟩]
    subst this
    subst p2
    go_wp2_with fail
    go_ret
    exact ⟨rfl, H2.out.1⟩
  case' inl =>
    have hR4 : R = (if 0 < sc ∧ some d1 = some 0 then false else (!neg || !N)) := by rw [HR3.out, if_neg (fun q => p1 q.1)]
  case' inr.inl =>
    have hR4 : R = (if 0 < sc ∧ some d1 = some 0 then false else (!neg || !N)) := by rw [HR3.out, if_neg (fun q => p2 (by simpa using q.2))]
    have p2b : (d0 == 0) = false := by simpa using p2
    clear p2
  all_goals
    have HR4 : Hid _ := hR4
    clear hR4
    rcases hlz with q1 | ⟨q1, q2⟩ | ⟨q1, q2⟩
    case' inr.inr =>
      have : R = false := by rw [HR4.out, if_pos ⟨q1, by rw [q2]⟩]
      subst this
      subst q2
      go_wp2_with fail
      go_ret
      exact ⟨rfl, H2.out.1⟩
    case' inl =>
      have hR5 : R = (!neg || !N) := by rw [HR4.out, if_neg (fun r => q1 r.1)]
    case' inr.inl =>
      have hR5 : R = (!neg || !N) := by rw [HR4.out, if_neg (fun r => q2 (by simpa using r.2))]
      have q2b : (d1 == 0) = false := by simpa using q2
      clear q2
    all_goals
      subst hR5
      cases neg
      · go_wp2_with fail
        go_ret
        exact ⟨rfl, H2.out.1⟩
      · go_wp2_with fail
        refine Calls.mono H2.out.2.2 ?_
        rintro e w3 ⟨rfl, hb3⟩
        have H3 : Hid _ := H2.out.1.trans (hb3.mono H2.out.1.size)
        clear hb3
        go_wp2_with fail
        go_ret
        exact ⟨rfl, H3.out⟩
theorem right_nm {w : World} {v : Value} {n : Nm} (h : NmR w v n) : Calls Tryz.prog 54 #[nmV n.1 v n.2.2] w fun e w' => e = .returned (.bool true) ∧ Below w.heap.size w w' := by
  have := right_p h.bt n.1 n.2.2 (by omega) (by have := h.cn.1.len; have := h.le; omega)
  rwa [rg_ok h.cn h.le] at this
end Go.Proofs.YtgaegajcejpmdaaGreatDoor.Dc
namespace Go.Proofs.YtgaegajcejpmdaaGreatDoor.Dc
open Go.RowKit
set_option linter.unusedVariables false

theorem TI1.below {w wr w2 : World} {box : Obj} {T l out : List Int} {k : Int} {i : Nat} {v : Value} (h : TI1 w box T l k i out v wr) (hb : Below wr.heap.size wr w2) : TI1 w box T l k i out v w2 :=
  ⟨(hb.block _ (lt_of h.z)).trans h.z, row_below h.row hb, h.bel.trans (hb.mono h.bel.size), h.eq, h.len⟩
set_option maxRecDepth 100000 in
set_option maxHeartbeats 3200000 in
theorem text_p {w : World} {v : Value} {n : Nm} (h : NmR w v n) : Calls Tryz.prog 32 #[nmV n.1 v n.2.2] w fun e w' => e = .returned (.string (sb (txS n))) ∧ Below w.heap.size w w' := by
  obtain ⟨i5, z5, hi5, hz0, hzc, hz1, hz3⟩ := info5p
  have hlen := h.cn.1.len
  have hle := h.le
  have hdg := h.cn.1.dg
  have htx := tx_pt n (by omega)
  have htb := tx_byte hdg
  have hbt := h.bt
  have hb0 : Below w.heap.size w (w.alloc (.cells #[.bool n.1, v, .int .i64 n.2.2] 34)) := (Below.refl _ _).alloc (Nat.le_refl _) _
  have hR := right_nm (h.below hb0)
  have hA := fun W (hW : Below w.heap.size w W) => ahead_p (h.bt.below hW) n.1 n.2.2 (by omega) (by omega)
  obtain ⟨neg, l, sc⟩ := n
  dsimp only at *
  obtain ⟨a, cap, rfl, h1, h2, h3, h4⟩ := hbt
  unfold maxLen at h2
  rcases h4 with he | ⟨g, o, rfl, hg, hc⟩
  · rw [he] at hlen; simp at hlen
  generalize txS (neg, l, sc) = T at *
  have hbk := nw_heap w (.cells #[.bool neg, .slice (some ⟨g, o, none⟩) l.length cap, .int .i64 sc] 34)
  have HH : Hid _ := And.intro hc (And.intro hdg (And.intro htx (And.intro htb (And.intro hb0 (And.intro hbk (And.intro hR hA))))))
  clear hc hdg htx htb hb0 hbk h h3 hR hA
  obtain ⟨box, hbox⟩ : ∃ box : Obj, box = .cells #[.bool neg, .slice (some ⟨g, o, none⟩) l.length cap, .int .i64 sc] 34 (0, 0) := ⟨_, rfl⟩
  have HX : Hid _ := hbox
  clear hbox
  go_enter Tryz.func32, Tryz.ntmps32
  go_wp2_with fail
  refine Calls.mono HH.out.2.2.2.2.2.2.1 ?_
  rintro e w1 ⟨rfl, hb1⟩
  have hbw1 := HH.out.2.2.2.2.1.trans (hb1.mono HH.out.2.2.2.2.1.size)
  have hz1' := (hb1.block _ (lt_of HH.out.2.2.2.2.2.1)).trans HH.out.2.2.2.2.2.1
  obtain ⟨c0, c1, c2⟩ := bl3 hz1'
  have hzl := lt_of hz1'
  have H1 : Hid _ := And.intro hbw1 hz1'
  clear hb1 hbw1 hz1'
  cases neg
  case' false =>
    have HS : Hid (TI1 w box T l ((l.length : Int) - sc) 0 [] (.slice none 0 0) w1) := ⟨by rw [HX.out]; exact H1.out.2, ⟨rfl, .inl ⟨rfl, rfl⟩⟩, H1.out.1, by rw [HH.out.2.2.1]; simp, by simp⟩
    go_wp2_with fail
    clear c0 c1 c2
  case' true =>
    go_wp2_with (first | (at_builtin; refine wpList_app _ rfl (.tmp 11) (.tmp 12) 32 rfl (w.heap.size + 1) 5 i5 z5 1 1 Tryz.underlying32 hi5 hz0 hz1 hz3 hzc (by decide) (.slice none 0 0) 0 [] rfl ⟨rfl, .inl ⟨rfl, rfl⟩⟩ (some ⟨w1.heap.size, 0, none⟩) 1 1 [.int .u8 45] rfl rfl (.inr ⟨_, rfl, World.news_of_block (nw_heap w1 _)⟩) (by intro u hu; simp at hu; subst hu; rfl) (by unfold maxLen; omega) (by omega) (by simp only [sza]; omega) ?_; intro v5 w5 hown5 hg5 hat5; have h5 := tgrow (out := []) (d := 45) ⟨H1.out.2, ⟨rfl, .inl ⟨rfl, rfl⟩⟩, H1.out.1⟩ hg5 hown5; have hz5 := h5.1; obtain ⟨e0, e1, e2⟩ := bl3 hz5; have hz5l := lt_of hz5; have H5 : Hid _ := h5; clear hown5 hg5 hat5 h5 hz5))
    have HS : Hid (TI1 w box T l ((l.length : Int) - sc) 0 [45] v5 w5) := ⟨by rw [HX.out]; exact H5.out.1, H5.out.2.1, H5.out.2.2, by rw [HH.out.2.2.1]; simp, by simp⟩
    clear c0 c1 c2 e0 e1 e2 H5
  all_goals
    go_loopg [3, 17] l.length (fun m v3 v17 wr => ∃ (i : Nat) (out : List Int), v17 = .int .i64 i ∧ i + m = l.length ∧ TI1 w box T l ((l.length : Int) - sc) i out v3 wr)
    case atStart => exact ⟨0, _, rfl, by omega, HS.out⟩
    case round =>
      obtain ⟨i, out, rfl, him, hI⟩ := hrel
      by_cases hi : i < l.length
      · obtain ⟨m, rfl⟩ : ∃ m, gk = m + 1 := ⟨gk - 1, by omega⟩
        have x0w := HH.out.1 i hi
        have x0 := (hI.bel.cell (p := ⟨g, o + i, none⟩) hg).trans x0w
        have hz := hI.z
        rw [HX.out] at hz
        obtain ⟨q0, q1, q2⟩ := bl3 hz
        have hzlt := lt_of hz
        have hd9 := HH.out.2.1 _ (List.getElem_mem hi)
        have hdr : l.drop i = (l[i]'hi) :: l.drop (i + 1) := List.drop_eq_getElem_cons hi
        generalize (l[i]'hi) = d at *
        obtain ⟨hd0, hd1⟩ := hd9
        have ek : (l.length : Int) - sc - ((i + 1 : Nat) : Int) = (l.length : Int) - sc - i - 1 := by omega
        have HI : Hid _ := And.intro hI (And.intro ek hdr)
        clear hI hz ek hdr
        go_wp2_with fail
        refine Calls.mono (HH.out.2.2.2.2.2.2.2 _ HI.out.1.bel) ?_
        rintro e w2 ⟨rfl, hb2⟩
        have hI2 := HI.out.1.below hb2
        obtain ⟨va, vc, rfl⟩ := row_form hI2.row
        clear q0 q1 q2 hzlt x0 hb2
        have hz := hI2.z
        rw [HX.out] at hz
        obtain ⟨q0, q1, q2⟩ := bl3 hz
        have hol := hI2.len
        have hzlt := lt_of hz
        have heq := hI2.eq
        rw [HI.out.2.2, ptI] at heq
        by_cases hp : (i : Int) = (l.length : Int) - sc
        · have hpb : ((i : Int) == (l.length : Int) - sc) = true := by simpa using hp
          rw [if_pos (by omega)] at heq
          have HJ : Hid _ := And.intro hI2 (And.intro heq HI.out.2.1)
          clear hI2 heq hz hp HI
          go_wp2_with (first | (at_builtin; refine wpList_app _ rfl (.tmp 26) (.tmp 27) 32 rfl (w.heap.size + 1) 5 i5 z5 1 1 Tryz.underlying32 hi5 hz0 hz1 hz3 hzc (by decide) (.slice va out.length vc) out.length (out.map (Value.int .u8)) rfl (World.ownsRow.alloc HJ.out.1.row _) (some ⟨w2.heap.size, 0, none⟩) 1 1 [.int .u8 46] rfl rfl (.inr ⟨_, rfl, World.news_of_block (nw_heap w2 _)⟩) (by intro u hu; simp at hu; subst hu; rfl) (by unfold maxLen; omega) (by omega) (by simp only [sza]; omega) ?_; intro v5' w6 hown5 hg5 hat5; have h6 := tgrow ⟨HJ.out.1.z, HJ.out.1.row, HJ.out.1.bel⟩ hg5 hown5; clear hown5 hg5 hat5; have hl6 : (out ++ [46]).length = out.length + 1 := (by simp); rw [hl6] at h6; obtain ⟨va6, vc6, rfl⟩ := row_form h6.2.1; have hz6 := h6.1; rw [HX.out] at hz6; obtain ⟨t0, t1, t2⟩ := bl3 hz6; have hz6lt := lt_of hz6; have H6 : Hid _ := h6; clear h6 hz6 hl6) | (at_builtin; refine wpList_app _ rfl (.tmp 29) (.tmp 32) 32 rfl (w.heap.size + 1) 5 i5 z5 1 1 Tryz.underlying32 hi5 hz0 hz1 hz3 hzc (by decide) (.slice va6 (out.length + 1) vc6) (out.length + 1) ((out ++ [46]).map (Value.int .u8)) rfl (World.ownsRow.alloc H6.out.2.1 _) (some ⟨w6.heap.size, 0, none⟩) 1 1 [.int .u8 (48 + d)] rfl rfl (.inr ⟨_, rfl, World.news_of_block (nw_heap w6 _)⟩) (by intro u hu; simp at hu; subst hu; rfl) (by unfold maxLen; omega) (by omega) (by simp only [sza]; omega) ?_; intro v7 w7 hown7 hg7 hat7; have H7 : Hid _ := And.intro hown7 hg7; clear hown7 hg7 hat7))
          go_roundg m
          case measure => omega
          case rel =>
            have hl6 : (out ++ [46]).length = out.length + 1 := by simp
            have h6 := H6.out
            rw [← hl6] at h6
            have h7 := tgrow h6 (by rw [hl6]; exact H7.out.2) (by rw [hl6]; exact H7.out.1)
            exact ⟨i + 1, out ++ [46] ++ [48 + d], by simp, by omega, h7.1, h7.2.1, h7.2.2, by rw [HJ.out.2.1, HJ.out.2.2]; simp, by simp; omega⟩
        · have hpb : ((i : Int) == (l.length : Int) - sc) = false := by simpa using hp
          rw [if_neg (by omega), List.nil_append] at heq
          have HJ : Hid _ := And.intro hI2 (And.intro heq HI.out.2.1)
          clear hI2 heq hz hp HI
          go_wp2_with (first | (at_builtin; refine wpList_app _ rfl (.tmp 29) (.tmp 32) 32 rfl (w.heap.size + 1) 5 i5 z5 1 1 Tryz.underlying32 hi5 hz0 hz1 hz3 hzc (by decide) (.slice va out.length vc) out.length (out.map (Value.int .u8)) rfl (World.ownsRow.alloc HJ.out.1.row _) (some ⟨w2.heap.size, 0, none⟩) 1 1 [.int .u8 (48 + d)] rfl rfl (.inr ⟨_, rfl, World.news_of_block (nw_heap w2 _)⟩) (by intro u hu; simp at hu; subst hu; rfl) (by unfold maxLen; omega) (by omega) (by simp only [sza]; omega) ?_; intro v5' w5' hown5 hg5 hat5; have h6 := tgrow ⟨HJ.out.1.z, HJ.out.1.row, HJ.out.1.bel⟩ hg5 hown5; have H6 : Hid _ := h6; clear hown5 hg5 hat5 h6))
          go_roundg m
          case measure => omega
          case rel => exact ⟨i + 1, out ++ [48 + d], by simp, by omega, H6.out.1, H6.out.2.1, H6.out.2.2, by rw [HJ.out.2.1, HJ.out.2.2]; simp, by simp; omega⟩
      · obtain rfl : i = l.length := by omega
        obtain ⟨va, vc, rfl⟩ := row_form hI.row
        have hT : T = out := by rw [hI.eq, List.drop_length]; simp [ptI]
        subst hT
        have hbt : BtR wr (.slice va T.length vc) T := btr_own hI.row rfl HH.out.2.2.2.1
        have cv := conv_str hbt
        have HB : Hid _ := hI.bel
        clear hI hbt
        go_wp2_with fail
        go_ret
        exact ⟨rfl, HB.out⟩
end Go.Proofs.YtgaegajcejpmdaaGreatDoor.Dc
namespace Go.Proofs.YtgaegajcejpmdaaGreatDoor.Dc
open Go.RowKit
set_option linter.unusedVariables false

theorem digit_r {w : World} {v : Value} {l : List Int} (h : BtR w v l) (neg : Bool) (sc p : Int) (hs0 : 0 ≤ sc) (hs1 : sc ≤ 10000) (hp0 : -10000 ≤ p) (hp1 : p ≤ 10000) (hl : l.length ≤ 10000) : Calls Tryz.prog 141 #[nmV neg v sc, .int .i64 p] w fun e w' => e = .returned (.int .i64 (dgS l sc p)) ∧ Below w.heap.size w w' := by
  have hb0 : ∀ o, Below w.heap.size w (w.alloc o) := fun o => (Below.refl _ _).alloc (Nat.le_refl _) _
  obtain ⟨a, cap, rfl, h1, h2, h3, h4⟩ := h
  unfold maxLen at h2
  have HL : Hid _ := And.intro h3 (And.intro h4 hb0)
  clear h3 h4 hb0
  have cb := bl3 (nw_heap w (.cells #[.bool neg, .slice a l.length cap, .int .i64 sc] 43))
  have HD : Hid (dgS l sc p = if (l.length : Int) - sc - 1 - p < 0 ∨ (l.length : Int) ≤ (l.length : Int) - sc - 1 - p then 0 else l.getD ((l.length : Int) - sc - 1 - p).toNat 0) := rfl
  generalize dgS l sc p = R at *
  by_cases c1 : (l.length : Int) - sc - 1 - p < 0
  · have hR : R = 0 := by rw [HD.out, if_pos (.inl c1)]
    subst hR
    go_enter Tryz.func141, Tryz.ntmps141
    go_wp2_with fail
    go_ret
    exact ⟨rfl, HL.out.2.2 _⟩
  · by_cases c2 : (l.length : Int) ≤ (l.length : Int) - sc - 1 - p
    · have hR : R = 0 := by rw [HD.out, if_pos (.inr c2)]
      subst hR
      go_enter Tryz.func141, Tryz.ntmps141
      go_wp2_with fail
      go_ret
      exact ⟨rfl, HL.out.2.2 _⟩
    · have hR : R = l.getD ((l.length : Int) - sc - 1 - p).toNat 0 := by rw [HD.out, if_neg (by omega)]
      have hk : ((l.length : Int) - sc - 1 - p).toNat < l.length := by omega
      rcases HL.out.2.1 with he | ⟨g, o, rfl, hg, hc⟩
      · rw [he] at hk; simp at hk
      have q0 := hc _ hk
      have x0 := ((HL.out.2.2 (.cells #[.bool neg, .slice (some ⟨g, o, none⟩) l.length cap, .int .i64 sc] 43)).cell (p := ⟨g, o + ((l.length : Int) - sc - 1 - p).toNat, none⟩) hg).trans q0
      have hbd := HL.out.1 _ (List.getElem_mem hk)
      have hR2 : R = l[((l.length : Int) - sc - 1 - p).toNat]'hk := by rw [hR, List.getD_eq_getElem?_getD, List.getElem?_eq_getElem hk]; rfl
      rw [← hR2] at x0 hbd
      clear hR hR2 hc q0 HD
      obtain ⟨hbd1, hbd2⟩ := hbd
      go_enter Tryz.func141, Tryz.ntmps141
      go_wp2_with fail
      go_ret
      exact ⟨rfl, HL.out.2.2 _⟩
theorem high_r {w : World} {v v' : Value} {l l' : List Int} (h : BtR w v l) (h' : BtR w v' l') (neg neg' : Bool) (sc sc' : Nat) (hs : sc ≤ l.length) (hs' : sc' ≤ l'.length) (hl : l.length ≤ 10000) (hl' : l'.length ≤ 10000) :
    Calls Tryz.prog 140 #[nmV neg v sc, nmV neg' v' sc'] w fun e w' => e = .returned (.tuple #[.int .i64 (max (l.length - sc) (l'.length - sc') : Nat), .int .i64 (max sc sc' : Nat)]) ∧ Below w.heap.size w w' := by
  have hb0 : ∀ o o', Below w.heap.size w ((w.alloc o).alloc o') := fun o o' => ((Below.refl _ _).alloc (Nat.le_refl _) o).alloc (by simp) o'
  obtain ⟨a, cap, rfl, h1, h2, h3, h4⟩ := h
  obtain ⟨a', cap', rfl, h1', h2', h3', h4'⟩ := h'
  clear h3 h4 h3' h4'
  unfold maxLen at h2 h2'
  have x1 := bl3 (xa2 w (.cells #[.bool neg, .slice a l.length cap, .int .i64 sc] 43) (.cells #[.bool neg', .slice a' l'.length cap', .int .i64 sc'] 43))
  have x2 : ((w.alloc (.cells #[.bool neg, .slice a l.length cap, .int .i64 sc] 43)).alloc (.cells #[.bool neg', .slice a' l'.length cap', .int .i64 sc'] 43)).heap[w.heap.size + 1]? = some (.cells #[.bool neg', .slice a' l'.length cap', .int .i64 sc'] 43 (0, 0)) := by
    have := nw_heap (w.alloc (.cells #[.bool neg, .slice a l.length cap, .int .i64 sc] 43)) (.cells #[.bool neg', .slice a' l'.length cap', .int .i64 sc'] 43)
    rwa [sza] at this
  have x3 := bl3 x2
  have HB : Hid _ := hb0 (.cells #[.bool neg, .slice a l.length cap, .int .i64 sc] 43) (.cells #[.bool neg', .slice a' l'.length cap', .int .i64 sc'] 43)
  clear hb0 x2
  have e1 : ((max (l.length - sc) (l'.length - sc') : Nat) : Int) = if (l.length : Int) - sc < (l'.length : Int) - sc' then (l'.length : Int) - sc' else (l.length : Int) - sc := by split <;> omega
  have e2 : ((max sc sc' : Nat) : Int) = if (sc : Int) < sc' then (sc' : Int) else sc := by split <;> omega
  rw [e1, e2]
  clear e1 e2
  obtain ⟨_, x11, x12⟩ := x1
  obtain ⟨_, x31, x32⟩ := x3
  by_cases c1 : (l.length : Int) - sc < (l'.length : Int) - sc' <;> by_cases c2 : (sc : Int) < sc'
  all_goals
    have c1b := c1
    have c2b := c2
    first | rw [if_pos c1] | rw [if_neg c1]
    first | rw [if_pos c2] | rw [if_neg c2]
    clear c1b c2b
    go_enter Tryz.func140, Tryz.ntmps140
    go_wp2_with fail
    go_ret2
    exact ⟨rfl, HB.out⟩
theorem digit_n {w : World} {v : Value} {n : Nm} (h : NmR w v n) (p : Int) (hp0 : -10000 ≤ p) (hp1 : p ≤ 10000) : Calls Tryz.prog 141 #[nmV n.1 v n.2.2, .int .i64 p] w fun e w' => e = .returned (.int .i64 (dgS n.2.1 n.2.2 p)) ∧ Below w.heap.size w w' := by
  have h1 := h.cn.1.len
  have h2 := h.le
  exact digit_r h.bt n.1 n.2.2 p (by omega) (by omega) hp0 hp1 (by omega)
set_option maxRecDepth 100000 in
set_option maxHeartbeats 3200000 in
theorem size_r {w : World} {v v' : Value} {a b : Nm} (ha : NmR w v a) (hb : NmR w v' b) : Calls Tryz.prog 92 #[nmV a.1 v a.2.2, nmV b.1 v' b.2.2] w fun e w' => e = .returned (.int .i64 (szS a b)) ∧ Below w.heap.size w w' := by
  obtain ⟨x1, x2, x3⟩ := box2 w (.bool a.1) v (.int .i64 a.2.2) (.bool b.1) v' (.int .i64 b.2.2)
  obtain ⟨e1, e2, _⟩ := ex_ok ha.cn hb.cn
  have la := ha.cn.1.len
  have lb := hb.cn.1.len
  have za := ha.le
  have zb := hb.le
  obtain ⟨va, vc, rfl, _⟩ := ha.bt.form
  obtain ⟨va', vc', rfl, _⟩ := hb.bt.form
  have hH := fun W (hW : Below w.heap.size w W) => high_r (ha.bt.below hW) (hb.bt.below hW) a.1 b.1 a.2.2 b.2.2 (by omega) (by omega) (by omega) (by omega)
  have hX : hiX a b = max (a.2.1.length - a.2.2) (b.2.1.length - b.2.2) := rfl
  have hSs : hiS a b = max a.2.2 b.2.2 := rfl
  rw [← hX, ← hSs] at hH
  have dA : ∀ j, j < hiX a b + 1 + hiS a b → dgS a.2.1 a.2.2 ((hiX a b : Int) - j) = (exA a b).getD j 0 := fun j hj => dg_ext (by omega) (by rw [hX]; omega) (by rw [hSs]; omega) hj
  have dB : ∀ j, j < hiX a b + 1 + hiS a b → dgS b.2.1 b.2.2 ((hiX a b : Int) - j) = (exB a b).getD j 0 := fun j hj => dg_ext (by omega) (by rw [hX]; omega) (by rw [hSs]; omega) hj
  have hXl : hiX a b ≤ 4096 := by rw [hX]; omega
  have hSl : hiS a b ≤ 4096 := by rw [hSs]; omega
  have hDA := fun W (hW : Below w.heap.size w W) p (h0 : -10000 ≤ p) (h1 : p ≤ 10000) => digit_n (ha.below hW) p h0 h1
  have hDB := fun W (hW : Below w.heap.size w W) p (h0 : -10000 ≤ p) (h1 : p ≤ 10000) => digit_n (hb.below hW) p h0 h1
  have hsz : szS a b = lexS (exA a b) (exB a b) := rfl
  generalize hiX a b = X at *
  generalize hiS a b = s at *
  generalize exA a b = EA at *
  generalize exB a b = EB at *
  generalize szS a b = R at *
  have HH : Hid _ := And.intro dA (And.intro dB (And.intro hDA (And.intro hDB (And.intro hsz (And.intro x1 (And.intro x2 (And.intro x3 (And.intro e1 (And.intro e2 hH)))))))))
  obtain ⟨b10, b11, b12⟩ := bl3 x1
  obtain ⟨b20, b21, b22⟩ := bl3 x2
  clear dA dB hDA hDB hsz x1 x2 x3 e1 e2 hH hX hSs la lb za zb ha hb
  obtain ⟨an, al, asc⟩ := a
  obtain ⟨bn, bl', bsc⟩ := b
  dsimp only at *
  go_enter Tryz.func92, Tryz.ntmps92
  go_wp2_with fail
  refine Calls.mono (HH.out.2.2.2.2.2.2.2.2.2.2 _ HH.out.2.2.2.2.2.2.2.1) ?_
  rintro e w2 ⟨rfl, hb2⟩
  have hbw2 := HH.out.2.2.2.2.2.2.2.1.trans (hb2.mono (by simp only [sza]; omega))
  have y1 := (hb2.block _ (lt_of HH.out.2.2.2.2.2.1)).trans HH.out.2.2.2.2.2.1
  have y2 := (hb2.block _ (lt_of HH.out.2.2.2.2.2.2.1)).trans HH.out.2.2.2.2.2.2.1
  have H2 : Hid _ := And.intro hbw2 (And.intro y1 y2)
  clear hb2 hbw2 y1 y2 b10 b11 b12 b20 b21 b22
  go_wp2_with fail
  go_loopg [7] (X + 1 + s) (fun m v7 wr => ∃ j : Nat, v7 = .int .i64 ((X : Int) - j) ∧ j + m = X + 1 + s ∧ Hid (R = lexS (EA.drop j) (EB.drop j)) ∧ Below w2.heap.size w2 wr)
  case atStart => exact ⟨0, by simp, by omega, HH.out.2.2.2.2.1, Below.refl _ _⟩
  case round =>
    obtain ⟨j, rfl, hjm, hR, hbr⟩ := hrel
    have hbw := H2.out.1.trans (hbr.mono H2.out.1.size)
    by_cases hj : j < X + 1 + s
    · obtain ⟨m, rfl⟩ : ∃ m, gk = m + 1 := ⟨gk - 1, by omega⟩
      have hj1 : (0 : Int) - s ≤ (X : Int) - j := by omega
      obtain ⟨b10, b11, b12⟩ := bl3 ((hbr.block _ (lt_of H2.out.2.1)).trans H2.out.2.1)
      obtain ⟨b20, b21, b22⟩ := bl3 ((hbr.block _ (lt_of H2.out.2.2)).trans H2.out.2.2)
      have hlt1 := lt_of ((hbr.block _ (lt_of H2.out.2.1)).trans H2.out.2.1)
      have hlt2 := lt_of ((hbr.block _ (lt_of H2.out.2.2)).trans H2.out.2.2)
      have hlx := lex_drop (a := EA) (b := EB) (j := j) (by rw [HH.out.2.2.2.2.2.2.2.2.1]; exact hj) (by rw [HH.out.2.2.2.2.2.2.2.2.2.1]; exact hj)
      have gA := fun W (hW : Below w.heap.size w W) => HH.out.2.2.1 W hW ((X : Int) - j) (by omega) (by omega)
      have gB := fun W (hW : Below w.heap.size w W) => HH.out.2.2.2.1 W hW ((X : Int) - j) (by omega) (by omega)
      rw [HH.out.1 j hj] at gA
      rw [HH.out.2.1 j hj] at gB
      generalize EA.getD j 0 = p at *
      generalize EB.getD j 0 = q at *
      have hkeep : ∀ W', Below wr.heap.size wr W' → (W'.cell? ⟨w.heap.size, 0, none⟩ = some (.bool an) ∧ W'.cell? ⟨w.heap.size, 1, none⟩ = some (.slice va al.length vc) ∧ W'.cell? ⟨w.heap.size, 2, none⟩ = some (.int .i64 asc)) ∧ (W'.cell? ⟨w.heap.size + 1, 0, none⟩ = some (.bool bn) ∧ W'.cell? ⟨w.heap.size + 1, 1, none⟩ = some (.slice va' bl'.length vc') ∧ W'.cell? ⟨w.heap.size + 1, 2, none⟩ = some (.int .i64 bsc)) := fun W' hb => ⟨⟨(hb.cell (p := ⟨w.heap.size, 0, none⟩) hlt1).trans b10, (hb.cell (p := ⟨w.heap.size, 1, none⟩) hlt1).trans b11, (hb.cell (p := ⟨w.heap.size, 2, none⟩) hlt1).trans b12⟩, (hb.cell (p := ⟨w.heap.size + 1, 0, none⟩) hlt2).trans b20, (hb.cell (p := ⟨w.heap.size + 1, 1, none⟩) hlt2).trans b21, (hb.cell (p := ⟨w.heap.size + 1, 2, none⟩) hlt2).trans b22⟩
      have gA' := fun W (hW : Below wr.heap.size wr W) => gA W (hbw.trans (hW.mono hbw.size))
      have gB' := fun W (hW : Below wr.heap.size wr W) => gB W (hbw.trans (hW.mono hbw.size))
      have HI : Hid _ := And.intro gA' (And.intro gB' (And.intro hlx (And.intro hbw (And.intro hbr hR))))
      have HK : Hid _ := hkeep
      have HB0 : Hid (Below wr.heap.size wr wr.drew) := Below.drewN' 1
      clear gA gB gA' gB' hlx hbw hbr hkeep hR
      by_cases hpq : p = q
      · subst hpq
        go_wp2_with fail
        go_region_held3 (fun W => W.cell? ⟨w.heap.size, 0, none⟩ = some (.bool an) ∧ W.cell? ⟨w.heap.size, 1, none⟩ = some (.slice va al.length vc) ∧ W.cell? ⟨w.heap.size, 2, none⟩ = some (.int .i64 asc) ∧ W.cell? ⟨w.heap.size + 1, 0, none⟩ = some (.bool bn) ∧ W.cell? ⟨w.heap.size + 1, 1, none⟩ = some (.slice va' bl'.length vc') ∧ W.cell? ⟨w.heap.size + 1, 2, none⟩ = some (.int .i64 bsc)) (go_keep) (first
          | (go_at_call 141; (with_reducible refine Calls.mono (HI.out.1 _ (by first | exact HBB1.out | exact HB0.out)) ?_); rintro e wA1 ⟨rfl, hbA⟩; have hbb : Below wr.heap.size wr wA1 := Below.trans (by first | exact HBB1.out | exact HB0.out) (hbA.mono (Below.size (by first | exact HBB1.out | exact HB0.out))); obtain ⟨⟨g0, g1, g2⟩, g3, g4, g5⟩ := HK.out _ hbb; have HBA1 : Hid _ := hbb; clear hbb hbA)
          | (go_at_call 141; (with_reducible refine Calls.mono (HI.out.2.1 _ (by first | exact HBA1.out | exact HB0.out)) ?_); rintro e wB1 ⟨rfl, hbB⟩; have hbb : Below wr.heap.size wr wB1 := Below.trans (by first | exact HBA1.out | exact HB0.out) (hbB.mono (Below.size (by first | exact HBA1.out | exact HB0.out))); obtain ⟨⟨g0, g1, g2⟩, g3, g4, g5⟩ := HK.out _ hbb; have HBB1 : Hid _ := hbb; clear hbb hbB))
        all_goals
          go_wp2_with fail
          go_roundg m
          case measure => omega
          case rel => exact ⟨j + 1, by simp; omega, by omega, by show _ = _; rw [HI.out.2.2.2.2.2.out, HI.out.2.2.1]; simp, HI.out.2.2.2.2.1.trans (Below.mono (by first | exact HBA1.out | exact HBB1.out) HI.out.2.2.2.2.1.size)⟩
      · have hne : (p == q) = false := by simpa using hpq
        go_wp2_with fail
        go_region_held3 (fun W => W.cell? ⟨w.heap.size, 0, none⟩ = some (.bool an) ∧ W.cell? ⟨w.heap.size, 1, none⟩ = some (.slice va al.length vc) ∧ W.cell? ⟨w.heap.size, 2, none⟩ = some (.int .i64 asc) ∧ W.cell? ⟨w.heap.size + 1, 0, none⟩ = some (.bool bn) ∧ W.cell? ⟨w.heap.size + 1, 1, none⟩ = some (.slice va' bl'.length vc') ∧ W.cell? ⟨w.heap.size + 1, 2, none⟩ = some (.int .i64 bsc)) (go_keep) (first
          | (go_at_call 141; (with_reducible refine Calls.mono (HI.out.1 _ (by first | exact HBB1.out | exact HB0.out)) ?_); rintro e wA1 ⟨rfl, hbA⟩; have hbb : Below wr.heap.size wr wA1 := Below.trans (by first | exact HBB1.out | exact HB0.out) (hbA.mono (Below.size (by first | exact HBB1.out | exact HB0.out))); obtain ⟨⟨g0, g1, g2⟩, g3, g4, g5⟩ := HK.out _ hbb; have HBA1 : Hid _ := hbb; clear hbb hbA)
          | (go_at_call 141; (with_reducible refine Calls.mono (HI.out.2.1 _ (by first | exact HBA1.out | exact HB0.out)) ?_); rintro e wB1 ⟨rfl, hbB⟩; have hbb : Below wr.heap.size wr wB1 := Below.trans (by first | exact HBA1.out | exact HB0.out) (hbB.mono (Below.size (by first | exact HBA1.out | exact HB0.out))); obtain ⟨⟨g0, g1, g2⟩, g3, g4, g5⟩ := HK.out _ hbb; have HBB1 : Hid _ := hbb; clear hbb hbB))
        have HB9 : Hid (Below wr.heap.size wr wB1.drew) := HBB1.out.trans ((Below.drewN' 1).mono HBB1.out.size)
        have eR : Hid (R = if p < q then -1 else 1) := by
          show _ = _
          rw [HI.out.2.2.2.2.2.out, HI.out.2.2.1, if_neg hpq]
        by_cases hlt : p < q
        · go_wp2_with fail
          go_region_held3 (fun W => W.cell? ⟨w.heap.size, 0, none⟩ = some (.bool an) ∧ W.cell? ⟨w.heap.size, 1, none⟩ = some (.slice va al.length vc) ∧ W.cell? ⟨w.heap.size, 2, none⟩ = some (.int .i64 asc) ∧ W.cell? ⟨w.heap.size + 1, 0, none⟩ = some (.bool bn) ∧ W.cell? ⟨w.heap.size + 1, 1, none⟩ = some (.slice va' bl'.length vc') ∧ W.cell? ⟨w.heap.size + 1, 2, none⟩ = some (.int .i64 bsc)) (go_keep) (first
            | (go_at_call 141; (with_reducible refine Calls.mono (HI.out.1 _ (by first | exact HBB2.out | exact HB9.out)) ?_); rintro e wA2 ⟨rfl, hbA⟩; have hbb : Below wr.heap.size wr wA2 := Below.trans (by first | exact HBB2.out | exact HB9.out) (hbA.mono (Below.size (by first | exact HBB2.out | exact HB9.out))); obtain ⟨⟨g0, g1, g2⟩, g3, g4, g5⟩ := HK.out _ hbb; have HBA2 : Hid _ := hbb; clear hbb hbA)
            | (go_at_call 141; (with_reducible refine Calls.mono (HI.out.2.1 _ (by first | exact HBA2.out | exact HB9.out)) ?_); rintro e wB2 ⟨rfl, hbB⟩; have hbb : Below wr.heap.size wr wB2 := Below.trans (by first | exact HBA2.out | exact HB9.out) (hbB.mono (Below.size (by first | exact HBA2.out | exact HB9.out))); obtain ⟨⟨g0, g1, g2⟩, g3, g4, g5⟩ := HK.out _ hbb; have HBB2 : Hid _ := hbb; clear hbb hbB))
          go_wp2_with fail
          go_ret
          exact ⟨by rw [eR.out, if_pos hlt]; rfl, HI.out.2.2.2.1.trans (HBB2.out.mono HI.out.2.2.2.1.size)⟩
        · go_wp2_with fail
          go_region_held3 (fun W => W.cell? ⟨w.heap.size, 0, none⟩ = some (.bool an) ∧ W.cell? ⟨w.heap.size, 1, none⟩ = some (.slice va al.length vc) ∧ W.cell? ⟨w.heap.size, 2, none⟩ = some (.int .i64 asc) ∧ W.cell? ⟨w.heap.size + 1, 0, none⟩ = some (.bool bn) ∧ W.cell? ⟨w.heap.size + 1, 1, none⟩ = some (.slice va' bl'.length vc') ∧ W.cell? ⟨w.heap.size + 1, 2, none⟩ = some (.int .i64 bsc)) (go_keep) (first
            | (go_at_call 141; (with_reducible refine Calls.mono (HI.out.1 _ (by first | exact HBB2.out | exact HB9.out)) ?_); rintro e wA2 ⟨rfl, hbA⟩; have hbb : Below wr.heap.size wr wA2 := Below.trans (by first | exact HBB2.out | exact HB9.out) (hbA.mono (Below.size (by first | exact HBB2.out | exact HB9.out))); obtain ⟨⟨g0, g1, g2⟩, g3, g4, g5⟩ := HK.out _ hbb; have HBA2 : Hid _ := hbb; clear hbb hbA)
            | (go_at_call 141; (with_reducible refine Calls.mono (HI.out.2.1 _ (by first | exact HBA2.out | exact HB9.out)) ?_); rintro e wB2 ⟨rfl, hbB⟩; have hbb : Below wr.heap.size wr wB2 := Below.trans (by first | exact HBA2.out | exact HB9.out) (hbB.mono (Below.size (by first | exact HBA2.out | exact HB9.out))); obtain ⟨⟨g0, g1, g2⟩, g3, g4, g5⟩ := HK.out _ hbb; have HBB2 : Hid _ := hbb; clear hbb hbB))
          go_wp2_with fail
          go_ret
          exact ⟨by rw [eR.out, if_neg (by omega)]; rfl, HI.out.2.2.2.1.trans (HBB2.out.mono HI.out.2.2.2.1.size)⟩
    · obtain rfl : j = X + 1 + s := by omega
      have e0 : R = 0 := by
        rw [hR.out, drop_all (by rw [HH.out.2.2.2.2.2.2.2.2.1]; omega)]
        rfl
      subst e0
      have hj1 : ¬ ((0 : Int) - s ≤ (X : Int) - ((X + 1 + s : Nat) : Int)) := by omega
      have HB : Hid _ := hbw
      clear hbw hbr hR
      go_wp2_with fail
      go_ret
      exact ⟨rfl, HB.out⟩
theorem cmp_r {w : World} {v v' : Value} {a b : Nm} (ha : NmR w v a) (hb : NmR w v' b) : Calls Tryz.prog 51 #[nmV a.1 v a.2.2, nmV b.1 v' b.2.2] w fun e w' => e = .returned (.int .i64 (cmpS a b)) ∧ Below w.heap.size w w' := by
  obtain ⟨x1, x2, x3⟩ := box2 w (.bool a.1) v (.int .i64 a.2.2) (.bool b.1) v' (.int .i64 b.2.2)
  have hS := size_r (ha.below x3) (hb.below x3)
  have hz : -1 ≤ szS a b ∧ szS a b ≤ 1 := by
    obtain ⟨e1, e2, e3, e4, _⟩ := ex_ok ha.cn hb.cn
    unfold szS
    rcases lex_val (e1.trans e2.symm) e3 e4 with q | q | q <;> omega
  have hc : cmpS a b = if a.1 ≠ b.1 then (if a.1 = true then -1 else 1) else if a.1 = true then -(szS a b) else szS a b := rfl
  obtain ⟨va, vc, rfl, _⟩ := ha.bt.form
  obtain ⟨va', vc', rfl, _⟩ := hb.bt.form
  obtain ⟨b10, b11, b12⟩ := bl3 x1
  obtain ⟨b20, b21, b22⟩ := bl3 x2
  have HH : Hid _ := And.intro hS (And.intro hc x3)
  clear hS hc x1 x2 x3 ha hb
  generalize szS a b = R at *
  generalize cmpS a b = C at *
  obtain ⟨an, al, asc⟩ := a
  obtain ⟨bn, bl', bsc⟩ := b
  dsimp only at *
  obtain ⟨hz0, hz1⟩ := hz
  cases an <;> cases bn
  · have hC : C = R := by rw [HH.out.2.1]; simp
    subst hC
    go_enter Tryz.func51, Tryz.ntmps51
    go_wp2_with fail
    refine Calls.mono HH.out.1 ?_
    rintro e w2 ⟨rfl, hb2⟩
    go_wp2_with fail
    go_ret
    exact ⟨rfl, HH.out.2.2.trans (hb2.mono (by simp only [sza]; omega))⟩
  · have hC : C = 1 := by rw [HH.out.2.1]; simp
    subst hC
    go_enter Tryz.func51, Tryz.ntmps51
    go_wp2_with fail
    go_ret
    exact ⟨rfl, HH.out.2.2⟩
  · have hC : C = -1 := by rw [HH.out.2.1]; simp
    subst hC
    go_enter Tryz.func51, Tryz.ntmps51
    go_wp2_with fail
    go_ret
    exact ⟨rfl, HH.out.2.2⟩
  · have hC : C = 0 - R := by rw [HH.out.2.1]; simp
    subst hC
    go_enter Tryz.func51, Tryz.ntmps51
    go_wp2_with fail
    refine Calls.mono HH.out.1 ?_
    rintro e w2 ⟨rfl, hb2⟩
    go_wp2_with fail
    go_ret
    exact ⟨by simp, HH.out.2.2.trans (hb2.mono (by simp only [sza]; omega))⟩
end Go.Proofs.YtgaegajcejpmdaaGreatDoor.Dc
namespace Go.Proofs.YtgaegajcejpmdaaGreatDoor.Dc
open Go.RowKit
set_option linter.unusedVariables false

set_option maxRecDepth 100000 in
theorem zero_r {w : World} {v : Value} {l : List Int} (h : BtR w v l) (neg : Bool) (sc : Int) : Calls Tryz.prog 120 #[nmV neg v sc] w fun e w' => e = .returned (.bool (l.all (· == 0))) ∧ Below w.heap.size w w' := by
  have hb0 : ∀ o, Below w.heap.size w (w.alloc o) := fun o => (Below.refl _ _).alloc (Nat.le_refl _) _
  obtain ⟨a, cap, rfl, h1, h2, h3, h4⟩ := h
  unfold maxLen at h2
  have HL : Hid _ := And.intro h3 (And.intro h4 hb0)
  clear h3 h4 hb0
  go_enter Tryz.func120, Tryz.ntmps120
  go_wp2_with fail
  go_loopg [3] l.length (fun m v3 wr => ∃ i : Nat, v3 = .int .i64 i ∧ i + m = l.length ∧ wr = w.alloc (.cells #[.bool neg, .slice a l.length cap, .int .i64 sc] 43) ∧ Hid (l.all (· == 0) = (l.drop i).all (· == 0)))
  case atStart => exact ⟨0, rfl, by omega, rfl, rfl⟩
  case round =>
    obtain ⟨i, rfl, him, hwr, hal⟩ := hrel
    have HW : Hid _ := hwr
    have cb := (bl3 (nw_heap w (.cells #[.bool neg, .slice a l.length cap, .int .i64 sc] 43))).2.1
    rw [← hwr] at cb
    clear hwr
    by_cases hi : i < l.length
    · obtain ⟨m, rfl⟩ : ∃ m, gk = m + 1 := ⟨gk - 1, by omega⟩
      rcases HL.out.2.1 with he | ⟨g, o, rfl, hg, hc⟩
      · rw [he] at hi; simp at hi
      have q0 := hc i hi
      have hbw := HL.out.2.2 (.cells #[.bool neg, .slice (some ⟨g, o, none⟩) l.length cap, .int .i64 sc] 43)
      rw [← HW.out] at hbw
      have x0 := (hbw.cell (p := ⟨g, o + i, none⟩) hg).trans q0
      have hd : (l.drop i).all (· == 0) = ((l[i]'hi == 0) && (l.drop (i + 1)).all (· == 0)) := by
        rw [List.drop_eq_getElem_cons hi, List.all_cons]
      have hbd := HL.out.1 _ (List.getElem_mem hi)
      generalize (l[i]'hi) = d at *
      have HH : Hid _ := And.intro hal hd
      clear hal hd hc q0 hbw
      by_cases hd0 : d = 0
      · subst hd0
        go_wp2_with fail
        go_roundg m
        case measure => omega
        case rel => exact ⟨i + 1, rfl, by omega, HW.out, by show _ = _; rw [HH.out.1.out, HH.out.2]; rfl⟩
      · have hd1 : (d == 0) = false := by simpa using hd0
        go_wp2_with fail
        go_ret
        exact ⟨by rw [HH.out.1.out, HH.out.2, hd1]; rfl, by rw [HW.out]; exact HL.out.2.2 _⟩
    · obtain rfl : i = l.length := by omega
      have e : l.all (· == 0) = true := by rw [hal.out, List.drop_length]; rfl
      have HE : Hid _ := e
      clear e hal
      go_wp2_with fail
      go_ret
      exact ⟨by rw [HE.out]; rfl, by rw [HW.out]; exact HL.out.2.2 _⟩
end Go.Proofs.YtgaegajcejpmdaaGreatDoor.Dc
namespace Go.Proofs.YtgaegajcejpmdaaGreatDoor.Dc
open Go.RowKit
set_option linter.unusedVariables false

set_option maxRecDepth 100000 in
set_option maxHeartbeats 6400000 in
theorem canon_r {w : World} {v : Value} {l : List Int} (h : BtR w v l) (neg : Bool) (s : Nat) (hs : s ≤ l.length) (hl : l.length ≤ 20000) : Calls Tryz.prog 70 #[.bool neg, v, .int .i64 s] w fun e w' => ∃ rv, e = .returned (nmV (canS neg l s).1 rv (canS neg l s).2.2) ∧ BtR w' rv (canS neg l s).2.1 ∧ (∀ k, rv.ownBlock = some k → w.heap.size < k) ∧ Below w.heap.size w w' := by
  obtain ⟨i5, z5, hi5, hz0, hzc, hz1, hz3⟩ := info5p
  obtain ⟨va, vc, rfl, _, _⟩ := h.form
  have hc : canS neg l s = (neg && !((cP (cT s l).2 (cH (cT s l).2 (cT s l).1)).all (· == 0)), cP (cT s l).2 (cH (cT s l).2 (cT s l).1), (cT s l).2) := rfl
  generalize canS neg l s = C at *
  have hb0 : Below w.heap.size w (w.alloc zD) := (Below.refl _ _).alloc (Nat.le_refl _) _
  have HH : Hid _ := And.intro h (And.intro hc hb0)
  clear h hc hb0
  go_enter Tryz.func70, Tryz.ntmps70
  go_wp2_with fail
  go_loopg [1, 2] s (fun m v1 v2 wr => ∃ (l1 : List Int) (a : Option Addr) (c : Nat), v1 = .slice a l1.length c ∧ v2 = .int .i64 m ∧ wr = w.alloc zD ∧ BtR w (.slice a l1.length c) l1 ∧ m ≤ l1.length ∧ l1.length ≤ 20000 ∧ Hid (cT s l = cT m l1))
  case atStart => exact ⟨l, va, vc, rfl, rfl, rfl, HH.out.1, hs, hl, rfl⟩
  case round =>
    obtain ⟨l1, a, c, rfl, rfl, hwr, hb1, hm1, hl1, hct⟩ := hrel
    have HW : Hid _ := hwr
    have hwb : Below w.heap.size w wr := by rw [hwr]; exact HH.out.2.2
    clear hwr
    obtain ⟨_, hcl, hcm⟩ := hb1.lim
    unfold maxLen at hcm
    have HB : Hid _ := And.intro hb1 (And.intro hct hwb)
    clear hb1 hct hwb
    by_cases hgo : ∃ (k : Nat) (m : List Int), gk = k + 1 ∧ l1 = m ++ [0]
    · obtain ⟨k, m, rfl, rfl⟩ := hgo
      obtain ⟨g, o, rfl, hg, hcell⟩ := HB.out.1.cell (by simp)
      have x0 := (HB.out.2.2.cell (p := ⟨g, o + m.length, none⟩) hg).trans (hcell m.length (by simp))
      simp only [List.getElem_concat_length] at x0
      simp only [List.length_append, List.length_cons, List.length_nil, Nat.zero_add] at *
      have e1 : ((m.length + 1 : Nat) : Int) - 1 = m.length := by omega
      have hbi := HB.out.1
      have HB2 : Hid _ := hbi.init
      clear hcell hbi
      go_wp2_with fail
      go_roundg k
      case measure => omega
      case rel => exact ⟨m, _, c, by simp, by simp, HW.out, HB2.out, by omega, by omega, by show _ = _; rw [HB.out.2.1.out, cT_last rfl, if_pos rfl]⟩
    · obtain ⟨t, ht⟩ : ∃ t, t = gk := ⟨_, rfl⟩
      subst ht
      have hcase : ((¬ (0 : Int) < (t : Int)) ∧ cT t l1 = (l1, t)) ∨ ((0 : Int) < (t : Int) ∧ cT t l1 = (l1, t) ∧ ∃ m d, l1 = m ++ [d] ∧ d ≠ 0) := by
        rcases t with _ | k
        · exact .inl ⟨by omega, rfl⟩
        · obtain ⟨m, d, hm, _, _⟩ := last_mod (l := l1) (fun e => by rw [e] at hm1; simp at hm1)
          have hd : d ≠ 0 := fun e => hgo ⟨k, m, rfl, by rw [hm, e]⟩
          exact .inr ⟨by omega, by rw [cT_last hm, if_neg hd], m, d, hm, hd⟩
      clear hgo
      obtain ⟨wo, hwo⟩ : ∃ wo, wo = wr := ⟨_, rfl⟩
      subst hwo
      rcases hcase with ⟨hgp, hex⟩ | ⟨hgp, hex, m, d, hlm, hd0⟩
      case' inl =>
        have HX : Hid _ := hex
        clear hex
        go_wp2_with fail
      case' inr =>
        have HX : Hid _ := hex
        clear hex
        obtain ⟨g, o, rfl, hg, hcell⟩ := HB.out.1.cell (by rw [hlm]; simp)
        have hl2 : l1.length = m.length + 1 := by rw [hlm]; simp
        have x0 := (HB.out.2.2.cell (p := ⟨g, o + m.length, none⟩) hg).trans (hcell m.length (by omega))
        have hd1 : l1[m.length]'(by omega) = d := by
          subst hlm
          simp
        rw [hd1] at x0
        have hbd := HB.out.1.byte d (by rw [hlm]; simp)
        have e1 : ((l1.length : Nat) : Int) - 1 = m.length := by omega
        have hlp : (0 : Int) < (l1.length : Int) := by omega
        have hdz : (d == 0) = false := by simpa using hd0
        have hml : m.length < l1.length := by omega
        have HM : Hid _ := hlm
        clear hlm hl2 hcell hd1
        go_wp2_with fail
      all_goals
        go_loopg [1] l1.length (fun m2 v1 wr => ∃ (l2 : List Int) (a2 : Option Addr) (c2 : Nat), v1 = .slice a2 l2.length c2 ∧ Hid (l2.length = m2) ∧ wr = wo ∧ BtR w (.slice a2 l2.length c2) l2 ∧ Hid (cH t l1 = cH t l2) ∧ t ≤ l2.length ∧ l2.length ≤ 20000)
        case atStart => exact ⟨l1, _, c, rfl, rfl, rfl, HB.out.1, rfl, hm1, hl1⟩
        case round =>
          obtain ⟨l2, a2, c2, rfl, hg2, hwr2, hbt2, hh2, ht2, hl2⟩ := hrel
          subst hwr2
          obtain ⟨_, hcl2, hcm2⟩ := hbt2.lim
          unfold maxLen at hcm2
          have HB2 : Hid _ := And.intro hbt2 (And.intro hh2 hg2)
          clear hbt2 hh2 hg2
          by_cases hgo2 : ∃ r, l2 = 0 :: r ∧ t < r.length
          · obtain ⟨r, rfl, htr⟩ := hgo2
            obtain ⟨g2, o2, rfl, hg2, hcell2⟩ := HB2.out.1.cell (by simp)
            have y0 := (HB.out.2.2.cell (p := ⟨g2, o2, none⟩) hg2).trans (hcell2 0 (by simp))
            simp only [List.getElem_cons_zero] at y0
            have hgk := HB2.out.2.2.out
            simp only [List.length_cons] at *
            obtain ⟨k, rfl⟩ : ∃ k, gk = k + 1 := ⟨gk - 1, by omega⟩
            have hc2 : (1 : Int) < ((r.length + 1 : Nat) : Int) - t := by omega
            have HR : Hid _ := And.intro HB2.out.1.rest hgk
            clear hcell2 hgk
            go_wp2_with fail
            go_roundg k
            case measure => omega
            case rel => exact ⟨r, _, _, by simp, by have := HR.out.2; show _ = _; omega, rfl, HR.out.1, by show _ = _; rw [HB2.out.2.1.out, cH, if_pos ⟨rfl, htr⟩], by omega, by omega⟩
          · have hcase2 : ((¬ (1 : Int) < (l2.length : Int) - t) ∧ cH t l2 = l2) ∨ ((1 : Int) < (l2.length : Int) - t ∧ cH t l2 = l2 ∧ ∃ d r, l2 = d :: r ∧ d ≠ 0) := by
              cases l2 with
              | nil => exact .inl ⟨by simp, rfl⟩
              | cons d r =>
                by_cases hd : d = 0
                · refine .inl ⟨fun q => hgo2 ⟨r, by rw [hd], by simp only [List.length_cons] at q; omega⟩, ?_⟩
                  rw [cH, if_neg (fun q => hgo2 ⟨r, by rw [hd], q.2⟩)]
                · by_cases hq : (1 : Int) < (((d :: r).length : Nat) : Int) - t
                  · exact .inr ⟨hq, by rw [cH, if_neg (fun q => hd q.1)], d, r, rfl, hd⟩
                  · exact .inl ⟨hq, by rw [cH, if_neg (fun q => hd q.1)]⟩
            clear hgo2
            obtain ⟨wo, hwo⟩ : ∃ wo, wo = wr := ⟨_, rfl⟩
            subst hwo
            rcases hcase2 with ⟨hgq, hex⟩ | ⟨hgq, hex, d2, r2, hlm2, hd2⟩
            case' inl =>
              have HX2 : Hid _ := hex
              clear hex
              go_wp2_with fail
            case' inr =>
              have HX2 : Hid _ := hex
              clear hex
              obtain ⟨g2, o2, rfl, hg2, hcell2⟩ := HB2.out.1.cell (by rw [hlm2]; simp)
              have hlp2 : 0 < l2.length := by rw [hlm2]; simp
              have y0 := (HB.out.2.2.cell (p := ⟨g2, o2, none⟩) hg2).trans (hcell2 0 hlp2)
              have hd3 : l2[0]'hlp2 = d2 := by subst hlm2; rfl
              rw [hd3] at y0
              have hbd2 := HB2.out.1.byte d2 (by rw [hlm2]; simp)
              have hdz2 : (d2 == 0) = false := by simpa using hd2
              have HM2 : Hid _ := hlm2
              clear hlm2 hcell2 hd3
              go_wp2_with fail
            all_goals
              go_loopg [1] (t + 1 - l2.length) (fun m3 v1 wr => ∃ (l3 : List Int) (a3 : Option Addr) (c3 : Nat), v1 = .slice a3 l3.length c3 ∧ Hid (t + 1 - l3.length = m3) ∧ Below wo.heap.size wo wr ∧ BtR wr (.slice a3 l3.length c3) l3 ∧ Hid (cP t l2 = cP t l3) ∧ t ≤ l3.length ∧ l3.length ≤ 20001)
              case atStart => exact ⟨l2, _, _, rfl, rfl, Below.refl _ _, HB2.out.1.below HB.out.2.2, rfl, by omega, by omega⟩
              case round =>
                obtain ⟨l3, a3, c3, rfl, hg3, hb3, hbt3, hp3, ht3, hl3⟩ := hrel
                obtain ⟨_, hcl3, hcm3⟩ := hbt3.lim
                unfold maxLen at hcm3
                have hbw3 := HB.out.2.2.trans (hb3.mono HB.out.2.2.size)
                have HB3 : Hid _ := And.intro hbt3 (And.intro hb3 (And.intro hp3 hbw3))
                clear hbt3 hb3 hp3 hbw3
                by_cases hgo3 : l3.length = t
                · have hlt3 : (l3.length : Int) < (t : Int) + 1 := by omega
                  have hgk := hg3.out
                  obtain ⟨k, rfl⟩ : ∃ k, gk = k + 1 := ⟨gk - 1, by omega⟩
                  have HG : Hid _ := And.intro hgo3 hgk
                  clear hgo3 hgk
                  go_wp2_with (first | (at_builtin; refine wpList_app _ rfl (.tmp 49) (.tmp 50) 32 rfl wr.heap.size 5 i5 z5 1 1 Tryz.underlying32 hi5 hz0 hz1 hz3 hzc (by decide) (.slice (some ⟨wr.heap.size, 0, none⟩) 1 1) 1 [.int .u8 0] rfl (own1 wr 5 (.int .u8 0) rfl) a3 l3.length c3 (l3.map (Value.int .u8)) rfl (by simp) (src_below HB3.out.1.src ((Below.refl _ _).alloc (Nat.le_refl _) _)) (one8 l3) (by unfold maxLen; omega) (by omega) (by simp) ?_; intro v4 w4 hown4 hg4 hat4; obtain ⟨a4, c4, rfl⟩ := row_form hown4; have hb4 : Below wr.heap.size wr w4 := ((Below.refl wr.heap.size wr).alloc (Nat.le_refl _) _).grown hg4 (by simp) (fun b hb => by simp [Value.ownBlock] at hb; omega); have H4 : Hid _ := And.intro hown4 hb4; clear hown4 hg4 hat4 hb4))
                  go_roundg k
                  case measure => omega
                  case rel =>
                    have e4 : 1 + l3.length = (0 :: l3).length := by simp; omega
                    have hbt4 : BtR w4 (.slice a4 (0 :: l3).length c4) (0 :: l3) := by
                      rw [← e4]
                      exact btr_own (l := 0 :: l3) H4.out.1 e4 (fun d hd => by
                        rcases List.mem_cons.1 hd with q | q
                        · omega
                        · exact HB3.out.1.byte d q)
                    refine ⟨0 :: l3, a4, c4, by rw [← e4], ?_, HB3.out.2.1.trans (H4.out.2.mono HB3.out.2.1.size), hbt4, ?_, by simp; omega, by simp; omega⟩
                    · have := HG.out
                      show _ = _
                      simp
                      omega
                    · show _ = _
                      rw [HB3.out.2.2.1.out, cP_one HG.out.1, cP_none (by simp; have := HG.out.1; omega)]
                · have hlt3 : ¬ ((l3.length : Int) < (t : Int) + 1) := by omega
                  have hcp : cP t l2 = l3 := by rw [HB3.out.2.2.1.out, cP_none (by omega)]
                  have HCP : Hid _ := hcp
                  clear hcp hgo3
                  go_wp2_with (first | (at_builtin; refine wpList_app _ rfl (.tmp 53) (.tmp 54) 32 rfl wr.heap.size 5 i5 z5 1 1 Tryz.underlying32 hi5 hz0 hz1 hz3 hzc (by decide) (.slice (some ⟨wr.heap.size, 0, none⟩) 0 0) 0 [] rfl (emp wr 5) a3 l3.length c3 (l3.map (Value.int .u8)) rfl (by simp) (src_below HB3.out.1.src ((Below.refl _ _).alloc (Nat.le_refl _) _)) (one8 l3) (by unfold maxLen; omega) (by omega) (by simp) ?_; intro v5 w5 hown5 hg5 hat5; obtain ⟨a5, c5, rfl⟩ := row_form hown5; have hb5 : Below wr.heap.size wr w5 := ((Below.refl wr.heap.size wr).alloc (Nat.le_refl _) _).grown hg5 (by simp) (fun b hb => by simp [Value.ownBlock] at hb; omega); have H5 : Hid _ := And.intro hown5 hb5; clear hown5 hg5 hat5 hb5))
                  have hown5 : w5.ownsRow wr.heap.size 5 1 (.slice a5 l3.length c5) l3.length (l3.map (Value.int .u8)) := by simpa only [Nat.zero_add, List.nil_append] using H5.out.1
                  have hbt5 : BtR w5 (.slice a5 l3.length c5) l3 := btr_own hown5 rfl HB3.out.1.byte
                  have hbl5 := fun k hk => row_base hown5 k hk
                  have hbA : Below w5.heap.size w5 (w5.alloc (.cells #[.bool neg, .slice a5 l3.length c5, .int .i64 t] 43)) := (Below.refl _ _).alloc (Nat.le_refl _) _
                  have hT7 := nw_heap w5 (.cells #[.bool neg, .slice a5 l3.length c5, .int .i64 t] 43)
                  have hR0 : w.heap.size < wo.heap.size := by rw [HW.out]; simp
                  have hRo : wo.heap[w.heap.size]? = some (.cells #[.bool false, .slice none 0 0, .int .i64 0] 43 (0, 0)) := by rw [HW.out]; exact nw_heap _ _
                  have hsz3 := HB3.out.2.1.size
                  have hsz5 := H5.out.2.size
                  have hR5 := (H5.out.2.block _ (by omega)).trans ((HB3.out.2.1.block _ hR0).trans hRo)
                  have hRA := (hbA.block _ (lt_of hR5)).trans hR5
                  have hbw5 := HB3.out.2.2.2.trans (H5.out.2.mono HB3.out.2.2.2.size)
                  have hbwA := hbw5.trans (hbA.mono hbw5.size)
                  have hzr := zero_r (hbt5.below hbA) neg t
                  have hCC : C = (neg && !(l3.all (· == 0)), l3, t) := by
                    have e := HH.out.2.1
                    rw [HB.out.2.1.out, HX.out] at e
                    dsimp only at e
                    rw [HB2.out.2.1.out, HX2.out, HCP.out] at e
                    exact e
                  subst hCC
                  obtain ⟨az, haz⟩ : ∃ az, l3.all (· == 0) = az := ⟨_, rfl⟩
                  rw [haz] at hzr
                  have HAZ : Hid _ := haz
                  clear haz
                  have H6 : Hid _ := And.intro hbt5 (And.intro hbl5 (And.intro hbA (And.intro hT7 (And.intro hRA (And.intro hbwA hzr)))))
                  clear hown5 hbt5 hbl5 hbA hT7 hRo hR5 hRA hbw5 hbwA hzr
                  refine Calls.mono H6.out.2.2.2.2.2.2 ?_
                  rintro e w6 ⟨rfl, hb6⟩
                  have hsz6 := hb6.size
                  simp only [sza] at hsz6
                  have hT6 := (hb6.block _ (lt_of H6.out.2.2.2.1)).trans H6.out.2.2.2.1
                  have hR6 := (hb6.block _ (lt_of H6.out.2.2.2.2.1)).trans H6.out.2.2.2.2.1
                  have hbw6 := H6.out.2.2.2.2.2.1.trans (hb6.mono H6.out.2.2.2.2.2.1.size)
                  have hbt6 := (H6.out.1.below H6.out.2.2.1).below hb6
                  have hne6 : w.heap.size ≠ w5.heap.size := by omega
                  obtain ⟨k0, k1, k2⟩ := bl3 hT6
                  obtain ⟨kf0, _, _⟩ := bl3f hT6
                  obtain ⟨r0, r1, r2⟩ := bl3 hR6
                  obtain ⟨rf0, rf1, rf2⟩ := bl3f hR6
                  have H7 : Hid _ := And.intro hT6 (And.intro hR6 (And.intro hbw6 (And.intro hbt6 H6.out.2.1)))
                  clear hT6 hR6 hbw6 hbt6 hb6 H6 H5
                  cases az
                  case' false =>
                    go_wp2_with fail
                    obtain ⟨q1, q2, q3, q4⟩ := set3 H7.out.2.2.1 (Nat.le_refl _) H7.out.2.1 (.bool neg) (.slice a5 l3.length c5) (.int .i64 t)
                    have hbt9 := H7.out.2.2.2.1.kept (Nat.le_of_eq q4.symm) q3 (fun k hk hn e => by have := (H7.out.2.2.2.2 k hk).1; omega)
                    generalize (((w6.setCell ⟨w.heap.size, 0, none⟩ (.bool neg)).setCell ⟨w.heap.size, 1, none⟩ (.slice a5 l3.length c5)).setCell ⟨w.heap.size, 2, none⟩ (.int .i64 t)) = W9 at *
                    obtain ⟨y0, y1, y2⟩ := bl3 q1
                    exact bodyPost_ret (v := nmV neg (.slice a5 l3.length c5) t) (by simp [results, Tryz.results70, go_sem, y0, y1, y2]) rfl ⟨.slice a5 l3.length c5, by rw [HAZ.out]; simp, hbt9, fun k hk => by have := (H7.out.2.2.2.2 k hk).1; omega, q2⟩
                  case' true =>
                    obtain ⟨g8, t8⟩ := setC (i := 0) (.bool false) H7.out.1
                    have hR8 := grown_at g8 H7.out.2.1 (fun e => hne6 e.symm)
                    have hb8 : Below w.heap.size w (w6.setCell ⟨w5.heap.size, 0, none⟩ (.bool false)) := H7.out.2.2.1.setCell (p := ⟨w5.heap.size, 0, none⟩) (by show w.heap.size ≤ w5.heap.size; omega) _
                    have hbt8 : BtR (w6.setCell ⟨w5.heap.size, 0, none⟩ (.bool false)) (.slice a5 l3.length c5) l3 := by
                      refine H7.out.2.2.2.1.kept (X := w5.heap.size) (by simp [World.setCell]) (fun k hk => Below.heap_setCell _ _ _ _ hk) (fun k hk hn e => ?_)
                      have := (H7.out.2.2.2.2 k hk).2
                      omega
                    have H8 : Hid _ := And.intro hR8 (And.intro hb8 hbt8)
                    clear g8 t8 hR8 hb8 hbt8
                    go_wp2_with fail
                    obtain ⟨q1, q2, q3, q4⟩ := set3 H8.out.2.1 (Nat.le_refl _) H8.out.1 (.bool false) (.slice a5 l3.length c5) (.int .i64 t)
                    have hbt9 := H8.out.2.2.kept (Nat.le_of_eq q4.symm) q3 (fun k hk hn e => by have := (H7.out.2.2.2.2 k hk).1; omega)
                    generalize ((((w6.setCell ⟨w5.heap.size, 0, none⟩ (.bool false)).setCell ⟨w.heap.size, 0, none⟩ (.bool false)).setCell ⟨w.heap.size, 1, none⟩ (.slice a5 l3.length c5)).setCell ⟨w.heap.size, 2, none⟩ (.int .i64 t)) = W9 at *
                    obtain ⟨y0, y1, y2⟩ := bl3 q1
                    exact bodyPost_ret (v := nmV false (.slice a5 l3.length c5) t) (by simp [results, Tryz.results70, go_sem, y0, y1, y2]) rfl ⟨.slice a5 l3.length c5, by rw [HAZ.out]; simp, hbt9, fun k hk => by have := (H7.out.2.2.2.2 k hk).1; omega, q2⟩
end Go.Proofs.YtgaegajcejpmdaaGreatDoor.Dc
namespace Go.Proofs.YtgaegajcejpmdaaGreatDoor.Dc
open Go.RowKit
set_option linter.unusedVariables false

set_option maxRecDepth 100000 in
set_option maxHeartbeats 3200000 in
theorem int_r (n : Int) (w : World) (h0 : -9223372036854775808 ≤ n) (h1 : n ≤ 9223372036854775807) : Calls Tryz.prog 87 #[.int .i64 n] w fun e w' => ∃ rv, e = .returned (nmV (inS n).1 rv (inS n).2.2) ∧ NewN w (inS n) rv w' := by
  obtain ⟨i5, z5, hi5, hz0, hzc, hz1, hz3⟩ := info5p
  have hb0 : Below w.heap.size w (w.alloc zD) := (Below.refl _ _).alloc (Nat.le_refl _) _
  have hR0 := nw_heap w zD
  have hU : n.natAbs < 10 ^ 20 := by omega
  have hin : ∀ b : Bool, b = decide (n < 0) → inS n = canS b (itS 20 n.natAbs []) 0 := fun b hb => by rw [hb]; rfl
  generalize inS n = C at *
  have HH : Hid _ := And.intro hb0 (And.intro hR0 (And.intro hU hin))
  clear hb0 hR0 hU hin
  go_enter Tryz.func87, Tryz.ntmps87
  by_cases hn : n < 0
  case' pos =>
    have hw : IntKind.u64.wrap (-IntKind.u64.wrap n) = (n.natAbs : Int) := by
      simp [IntKind.wrap, IntKind.bits, IntKind.signed]
      omega
    go_wp2_with fail
    have HC : Hid (C = canS true (itS 20 n.natAbs []) 0) := HH.out.2.2.2 true (by simp [hn])
  case' neg =>
    go_wp2_with fail
    have hw : (n : Int) = (n.natAbs : Int) := by omega
    have hnd : decide (n < 0) = false := by simp; omega
    have HC : Hid (C = canS false (itS 20 n.natAbs []) 0) := HH.out.2.2.2 false (by simp; omega)
  all_goals
    have HW : Hid _ := hw
    clear hw
    go_loopg [3, 4] 20 (fun m v3 v4 wr => ∃ (u : Nat) (b : List Int) (a : Option Addr) (c : Nat), v3 = .int .u64 u ∧ v4 = .slice a b.length c ∧ Hid (u < 10 ^ m) ∧ Hid (b ≠ [] ∨ m = 20) ∧ u < 18446744073709551616 ∧ Hid (b.length + m = 20) ∧ Below w.heap.size w wr ∧ BtR wr (.slice a b.length c) b ∧ Hid (wr.heap[w.heap.size]? = some (.cells #[.bool false, .slice none 0 0, .int .i64 0] 43 (0, 0))) ∧ Hid (Dg b) ∧ Hid (itS 20 n.natAbs [] = itS m u b) ∧ Hid (∀ k, (Value.slice a b.length c).ownBlock = some k → w.heap.size < k))
    case atStart =>
      refine ⟨n.natAbs, [], none, 0, ?_, rfl, HH.out.2.2.1, .inr rfl, by omega, by show _ = _; simp, HH.out.1, ⟨none, 0, rfl, by simp, Nat.zero_le _, fun d hd => by simp at hd, .inl rfl⟩, HH.out.2.1, fun d hd => by simp at hd, rfl, fun k hk => by simp [Value.ownBlock] at hk⟩
      first | rfl | exact congrArg (Value.int .u64) HW.out
    case round =>
      obtain ⟨u, b, a, c, rfl, rfl, hu, hbn, hu2, hbl, hbw, hbt, hz, hdg, hit, hob⟩ := hrel
      obtain ⟨_, hcl, hcm⟩ := hbt.lim
      unfold maxLen at hcm
      have hblen : b.length ≤ 20 := by have := hbl.out; omega
      have HB : Hid _ := And.intro hbt hbw
      clear hbt hbw
      by_cases hgo : 0 < u ∨ b = []
      · obtain ⟨k, rfl⟩ : ∃ k, gk = k + 1 := by
          rcases gk with _ | k
          · exfalso
            have h1 := hu.out
            rcases hbn.out with q | q
            · rcases hgo with q2 | q2
              · simp at h1; omega
              · exact q q2
            · omega
          · exact ⟨k, rfl⟩
        have hm10 : (u : Int) % 10 < 256 := by omega
        have hm0 : 0 ≤ (u : Int) % 10 := by omega
        have hcase : (0 : Int) < u ∨ (¬ (0 : Int) < u ∧ (b.length : Int) = 0) := by
          by_cases h : 0 < u
          · exact .inl (by omega)
          · refine .inr ⟨by omega, ?_⟩
            rcases hgo with q | q
            · omega
            · rw [q]; rfl
        have HG : Hid _ := hgo
        clear hgo
        rcases hcase with hc1 | ⟨hc1, hc2⟩
        · go_wp2_with (first | (at_builtin; refine wpList_app _ rfl (.tmp 21) (.tmp 22) 32 rfl wr.heap.size 5 i5 z5 1 1 Tryz.underlying32 hi5 hz0 hz1 hz3 hzc (by decide) (.slice (some ⟨wr.heap.size, 0, none⟩) 1 1) 1 [.int .u8 ((u : Int) % 10)] rfl (own1 wr 5 (.int .u8 ((u : Int) % 10)) rfl) a b.length c (b.map (Value.int .u8)) rfl (by simp) (src_below HB.out.1.src ((Below.refl _ _).alloc (Nat.le_refl _) _)) (one8 b) (by unfold maxLen; omega) (by omega) (by simp) ?_; intro v4 w4 hown4 hg4 hat4; obtain ⟨a4, c4, rfl⟩ := row_form hown4; have hb4 : Below wr.heap.size wr w4 := ((Below.refl wr.heap.size wr).alloc (Nat.le_refl _) _).grown hg4 (by simp) (fun b hb => by simp [Value.ownBlock] at hb; omega); have H4 : Hid _ := And.intro hown4 hb4; clear hown4 hg4 hat4 hb4))
          go_roundg k
          case measure => omega
          case rel =>
            have e4 : 1 + b.length = (((u : Int) % 10) :: b).length := by simp; omega
            have hd4 : Dg (((u : Int) % 10) :: b) := fun d hd => by
              rcases List.mem_cons.1 hd with q | q
              · omega
              · exact hdg.out d q
            have hbt4 : BtR w4 (.slice a4 (((u : Int) % 10) :: b).length c4) (((u : Int) % 10) :: b) := by
              rw [← e4]
              exact btr_own (l := ((u : Int) % 10) :: b) H4.out.1 e4 (fun d hd => by have := hd4 d hd; omega)
            have hob4 : ∀ k, (Value.slice a4 (((u : Int) % 10) :: b).length c4).ownBlock = some k → w.heap.size < k := fun k hk => by
              rw [← e4] at hk
              have h1 := (row_base H4.out.1 k hk).1
              have h2 := lt_of hz.out
              omega
            have hbw4 := HB.out.2.trans (H4.out.2.mono HB.out.2.size)
            have hz4 := (H4.out.2.block _ (lt_of hz.out)).trans hz.out
            exact ⟨u / 10, ((u : Int) % 10) :: b, a4, c4, by simp, by rw [← e4], by have := hu.out; show _ < _; rw [Nat.pow_succ] at this; omega, .inl (by simp), by omega, by have := hbl.out; show _ = _; simp; omega, hbw4, hbt4, hz4, hd4, by show _ = _; rw [hit.out, itS, if_pos HG.out]; simp, hob4⟩
        · obtain rfl : u = 0 := by omega
          have hc2b : ((b.length : Int) == 0) = true := by simp [hc2]
          have HC2 : Hid _ := hc2
          clear hc2 hc1
          go_wp2_with (first | (at_builtin; refine wpList_app _ rfl (.tmp 21) (.tmp 22) 32 rfl wr.heap.size 5 i5 z5 1 1 Tryz.underlying32 hi5 hz0 hz1 hz3 hzc (by decide) (.slice (some ⟨wr.heap.size, 0, none⟩) 1 1) 1 [.int .u8 (0)] rfl (own1 wr 5 (.int .u8 (0)) rfl) a b.length c (b.map (Value.int .u8)) rfl (by simp) (src_below HB.out.1.src ((Below.refl _ _).alloc (Nat.le_refl _) _)) (one8 b) (by unfold maxLen; omega) (by omega) (by simp) ?_; intro v4 w4 hown4 hg4 hat4; obtain ⟨a4, c4, rfl⟩ := row_form hown4; have hb4 : Below wr.heap.size wr w4 := ((Below.refl wr.heap.size wr).alloc (Nat.le_refl _) _).grown hg4 (by simp) (fun b hb => by simp [Value.ownBlock] at hb; omega); have H4 : Hid _ := And.intro hown4 hb4; clear hown4 hg4 hat4 hb4))
          go_roundg k
          case measure => omega
          case rel =>
            have e4 : 1 + b.length = ((0) :: b).length := by simp; omega
            have hd4 : Dg ((0) :: b) := fun d hd => by
              rcases List.mem_cons.1 hd with q | q
              · omega
              · exact hdg.out d q
            have hbt4 : BtR w4 (.slice a4 ((0) :: b).length c4) ((0) :: b) := by
              rw [← e4]
              exact btr_own (l := (0) :: b) H4.out.1 e4 (fun d hd => by have := hd4 d hd; omega)
            have hob4 : ∀ k, (Value.slice a4 ((0) :: b).length c4).ownBlock = some k → w.heap.size < k := fun k hk => by
              rw [← e4] at hk
              have h1 := (row_base H4.out.1 k hk).1
              have h2 := lt_of hz.out
              omega
            have hbw4 := HB.out.2.trans (H4.out.2.mono HB.out.2.size)
            have hz4 := (H4.out.2.block _ (lt_of hz.out)).trans hz.out
            exact ⟨0, (0) :: b, a4, c4, by simp, by rw [← e4], by have := hu.out; show _ < _; rw [Nat.pow_succ] at this; omega, .inl (by simp), by omega, by have := hbl.out; show _ = _; simp; omega, hbw4, hbt4, hz4, hd4, by show _ = _; rw [hit.out, itS, if_pos HG.out]; simp, hob4⟩
      · have hu0 : u = 0 := by omega
        have hbne : b ≠ [] := fun e => hgo (.inr e)
        subst hu0
        have hitb : itS 20 n.natAbs [] = b := by
          rw [hit.out]
          rcases gk with _ | k
          · rfl
          · rw [itS, if_neg hgo]
        have hb0 : ¬ ((b.length : Int) = 0) := by
          have := List.length_pos_iff.2 hbne
          omega
        have hb0b : ((b.length : Int) == 0) = false := by simpa using hb0
        have hcn := fun ng => canon_r HB.out.1 ng 0 (Nat.zero_le _) (by omega)
        have hCe := HC.out
        rw [hitb] at hCe
        have HE : Hid _ := And.intro hCe hcn
        clear hgo hbne hitb hcn hCe HC
        go_wp2_with fail
        refine Calls.mono (HE.out.2 _) ?_
        rintro e w2 ⟨rv, rfl, hbt2, hrv2, hb2⟩
        have hz2 := (hb2.block _ (lt_of hz.out)).trans hz.out
        have hbw2 := HB.out.2.trans (hb2.mono HB.out.2.size)
        have hzl := lt_of hz.out
        obtain ⟨y0, y1, y2⟩ := bl3 hz2
        obtain ⟨yf0, yf1, yf2⟩ := bl3f hz2
        obtain ⟨ra, rc, rfl, _⟩ := hbt2.form
        rw [← HE.out.1] at *
        have H2 : Hid _ := And.intro hbt2 (And.intro hz2 (And.intro hbw2 hrv2))
        clear hbt2 hb2 hz2 hbw2 hrv2
        go_wp2_with fail
        obtain ⟨k1, k2, k3, k4⟩ := set3 H2.out.2.2.1 (Nat.le_refl _) H2.out.2.1 (.bool C.1) (.slice ra C.2.1.length rc) (.int .i64 C.2.2)
        have hbt9 := H2.out.1.kept (Nat.le_of_eq k4.symm) k3 (fun k hk hn e => by have := H2.out.2.2.2 k hk; omega)
        generalize (((w2.setCell ⟨w.heap.size, 0, none⟩ (.bool C.1)).setCell ⟨w.heap.size, 1, none⟩ (.slice ra C.2.1.length rc)).setCell ⟨w.heap.size, 2, none⟩ (.int .i64 C.2.2)) = W9 at *
        obtain ⟨j0, j1, j2⟩ := bl3 k1
        exact bodyPost_ret (v := nmV C.1 (.slice ra C.2.1.length rc) C.2.2) (by simp [results, Tryz.results87, go_sem, j0, j1, j2]) rfl ⟨_, rfl, hbt9, fun k hk => by have := H2.out.2.2.2 k hk; omega, k2⟩
end Go.Proofs.YtgaegajcejpmdaaGreatDoor.Dc
namespace Go.Proofs.YtgaegajcejpmdaaGreatDoor.Dc
open Go.RowKit
set_option linter.unusedVariables false

set_option maxRecDepth 100000 in
set_option maxHeartbeats 3200000 in
theorem text_r {w : World} {v : Value} {n : Nm} (h : NmR w v n) : Calls Tryz.prog 47 #[nmV n.1 v n.2.2] w fun e w' => e = .returned (.string (sb (txS n))) ∧ Below w.heap.size w w' := by
  obtain ⟨i5, z5, hi5, hz0, hzc, hz1, hz3⟩ := info5p
  have hlen := h.cn.1.len
  have hle := h.le
  have hdg := h.cn.1.dg
  have htx := tx_pt n (by omega)
  have htb := tx_byte hdg
  have hbt := h.bt
  obtain ⟨neg, l, sc⟩ := n
  dsimp only at *
  obtain ⟨a, cap, rfl, h1, h2, h3, h4⟩ := hbt
  unfold maxLen at h2
  rcases h4 with he | ⟨g, o, rfl, hg, hc⟩
  · rw [he] at hlen; simp at hlen
  generalize txS (neg, l, sc) = T at *
  have hb0 : Below w.heap.size w (w.alloc (.cells #[.bool neg, .slice (some ⟨g, o, none⟩) l.length cap, .int .i64 sc] 43)) := (Below.refl _ _).alloc (Nat.le_refl _) _
  have hbk := nw_heap w (.cells #[.bool neg, .slice (some ⟨g, o, none⟩) l.length cap, .int .i64 sc] 43)
  obtain ⟨c0, c1, c2⟩ := bl3 hbk
  have HH : Hid _ := And.intro hc (And.intro hdg (And.intro htx (And.intro htb (And.intro hb0 hbk))))
  clear hc hdg htx htb hb0 hbk h h3
  obtain ⟨box, hbox⟩ : ∃ box : Obj, box = .cells #[.bool neg, .slice (some ⟨g, o, none⟩) l.length cap, .int .i64 sc] 43 (0, 0) := ⟨_, rfl⟩
  have HX : Hid _ := hbox
  clear hbox
  go_enter Tryz.func47, Tryz.ntmps47
  cases neg
  case' false =>
    have HS : Hid (TI1 w box T l ((l.length : Int) - sc) 0 [] (.slice none 0 0) (w.alloc (.cells #[.bool false, .slice (some ⟨g, o, none⟩) l.length cap, .int .i64 sc] 43))) := ⟨by rw [HX.out]; exact HH.out.2.2.2.2.2, ⟨rfl, .inl ⟨rfl, rfl⟩⟩, HH.out.2.2.2.2.1, by rw [HH.out.2.2.1]; simp, by simp⟩
    clear c0 c1 c2
    go_wp2_with fail
  case' true =>
    go_wp2_with (first | (at_builtin; refine wpList_app _ rfl (.tmp 7) (.tmp 8) 32 rfl (w.heap.size + 1) 5 i5 z5 1 1 Tryz.underlying32 hi5 hz0 hz1 hz3 hzc (by decide) (.slice none 0 0) 0 [] rfl ⟨rfl, .inl ⟨rfl, rfl⟩⟩ (some ⟨w.heap.size + 1, 0, none⟩) 1 1 [.int .u8 45] rfl rfl (.inr ⟨_, rfl, World.news_of_block (by have := nw_heap (w.alloc (.cells #[.bool true, .slice (some ⟨g, o, none⟩) l.length cap, .int .i64 sc] 43)) (.cells #[.int .u8 45] 5); rwa [sza] at this)⟩) (by intro u hu; simp at hu; subst hu; rfl) (by unfold maxLen; omega) (by omega) (by simp) ?_; intro v5 w5 hown5 hg5 hat5; have H5 : Hid _ := And.intro hown5 hg5; clear hown5 hg5 hat5))
    have HS : Hid (TI1 w box T l ((l.length : Int) - sc) 0 [45] v5 w5) := by
      have hba : Below (w.alloc (.cells #[.bool true, .slice (some ⟨g, o, none⟩) l.length cap, .int .i64 sc] 43)).heap.size (w.alloc (.cells #[.bool true, .slice (some ⟨g, o, none⟩) l.length cap, .int .i64 sc] 43)) ((w.alloc (.cells #[.bool true, .slice (some ⟨g, o, none⟩) l.length cap, .int .i64 sc] 43)).alloc (.cells #[.int .u8 45] 5)) := (Below.refl _ _).alloc (Nat.le_refl _) _
      refine ⟨?_, H5.out.1, ?_, ?_, by simp⟩
      · rw [HX.out]
        exact grown_o H5.out.2 ((hba.block _ (lt_of HH.out.2.2.2.2.2)).trans HH.out.2.2.2.2.2) (fun e => by simp [Value.ownBlock] at e)
      · exact (HH.out.2.2.2.2.1.alloc (by simp) _).grown H5.out.2 (by simp; omega) (fun k q => by simp [Value.ownBlock] at q)
      · rw [HH.out.2.2.1]; simp
    clear c0 c1 c2 H5
  all_goals
    go_loopg [3, 4] l.length (fun m v3 v4 wr => ∃ (i : Nat) (out : List Int), v4 = .int .i64 i ∧ i + m = l.length ∧ TI1 w box T l ((l.length : Int) - sc) i out v3 wr)
    case atStart => exact ⟨0, _, rfl, by omega, HS.out⟩
    case round =>
      obtain ⟨i, out, rfl, him, hI⟩ := hrel
      obtain ⟨va, vc, rfl⟩ := row_form hI.row
      have hz := hI.z
      rw [HX.out] at hz
      obtain ⟨q0, q1, q2⟩ := bl3 hz
      have hol := hI.len
      have hzlt := lt_of hz
      by_cases hi : i < l.length
      · obtain ⟨m, rfl⟩ : ∃ m, gk = m + 1 := ⟨gk - 1, by omega⟩
        have x0w := HH.out.1 i hi
        have x0 := (hI.bel.cell (p := ⟨g, o + i, none⟩) hg).trans x0w
        have heq := hI.eq
        rw [List.drop_eq_getElem_cons hi, ptI] at heq
        have hd9 := HH.out.2.1 _ (List.getElem_mem hi)
        generalize (l[i]'hi) = d at *
        obtain ⟨hd0, hd1⟩ := hd9
        have ek : (l.length : Int) - sc - ((i + 1 : Nat) : Int) = (l.length : Int) - sc - i - 1 := by omega
        by_cases hp : (i : Int) = (l.length : Int) - sc
        · have hpb : ((i : Int) == (l.length : Int) - sc) = true := by simpa using hp
          rw [if_pos (by omega)] at heq
          have HI : Hid _ := And.intro hI (And.intro heq ek)
          clear hI heq ek hz hp
          go_wp2_with (first | (at_builtin; refine wpList_app _ rfl (.tmp 25) (.tmp 26) 32 rfl (w.heap.size + 1) 5 i5 z5 1 1 Tryz.underlying32 hi5 hz0 hz1 hz3 hzc (by decide) (.slice va out.length vc) out.length (out.map (Value.int .u8)) rfl (World.ownsRow.alloc HI.out.1.row _) (some ⟨wr.heap.size, 0, none⟩) 1 1 [.int .u8 46] rfl rfl (.inr ⟨_, rfl, World.news_of_block (nw_heap wr _)⟩) (by intro u hu; simp at hu; subst hu; rfl) (by unfold maxLen; omega) (by omega) (by simp only [sza]; omega) ?_; intro v5' w6 hown5 hg5 hat5; have h6 := tgrow ⟨HI.out.1.z, HI.out.1.row, HI.out.1.bel⟩ hg5 hown5; clear hown5 hg5 hat5; have hl6 : (out ++ [46]).length = out.length + 1 := (by simp); rw [hl6] at h6; obtain ⟨va6, vc6, rfl⟩ := row_form h6.2.1; have hz6 := h6.1; rw [HX.out] at hz6; obtain ⟨t0, t1, t2⟩ := bl3 hz6; have hz6lt := lt_of hz6; have x6 := (h6.2.2.cell (p := ⟨g, o + i, none⟩) hg).trans x0w; have H6 : Hid _ := h6; clear h6 hz6 hl6) | (at_builtin; refine wpList_app _ rfl (.tmp 28) (.tmp 35) 32 rfl (w.heap.size + 1) 5 i5 z5 1 1 Tryz.underlying32 hi5 hz0 hz1 hz3 hzc (by decide) (.slice va6 (out.length + 1) vc6) (out.length + 1) ((out ++ [46]).map (Value.int .u8)) rfl (World.ownsRow.alloc H6.out.2.1 _) (some ⟨w6.heap.size, 0, none⟩) 1 1 [.int .u8 (48 + d)] rfl rfl (.inr ⟨_, rfl, World.news_of_block (nw_heap w6 _)⟩) (by intro u hu; simp at hu; subst hu; rfl) (by unfold maxLen; omega) (by omega) (by simp only [sza]; omega) ?_; intro v7 w7 hown7 hg7 hat7; have H7 : Hid _ := And.intro hown7 hg7; clear hown7 hg7 hat7))
          go_roundg m
          case measure => omega
          case rel =>
            have hl6 : (out ++ [46]).length = out.length + 1 := by simp
            have h6 := H6.out
            rw [← hl6] at h6
            have h7 := tgrow h6 (by rw [hl6]; exact H7.out.2) (by rw [hl6]; exact H7.out.1)
            exact ⟨i + 1, out ++ [46] ++ [48 + d], by simp, by omega, h7.1, h7.2.1, h7.2.2, by rw [HI.out.2.1, HI.out.2.2]; simp, by simp; omega⟩
        · have hpb : ((i : Int) == (l.length : Int) - sc) = false := by simpa using hp
          rw [if_neg (by omega), List.nil_append] at heq
          have HI : Hid _ := And.intro hI (And.intro heq ek)
          clear hI heq ek hz hp
          go_wp2_with (first | (at_builtin; refine wpList_app _ rfl (.tmp 28) (.tmp 35) 32 rfl (w.heap.size + 1) 5 i5 z5 1 1 Tryz.underlying32 hi5 hz0 hz1 hz3 hzc (by decide) (.slice va out.length vc) out.length (out.map (Value.int .u8)) rfl (World.ownsRow.alloc HI.out.1.row _) (some ⟨wr.heap.size, 0, none⟩) 1 1 [.int .u8 (48 + d)] rfl rfl (.inr ⟨_, rfl, World.news_of_block (nw_heap wr _)⟩) (by intro u hu; simp at hu; subst hu; rfl) (by unfold maxLen; omega) (by omega) (by simp only [sza]; omega) ?_; intro v5' w5' hown5 hg5 hat5; have h6 := tgrow ⟨HI.out.1.z, HI.out.1.row, HI.out.1.bel⟩ hg5 hown5; have H6 : Hid _ := h6; clear hown5 hg5 hat5 h6))
          go_roundg m
          case measure => omega
          case rel => exact ⟨i + 1, out ++ [48 + d], by simp, by omega, H6.out.1, H6.out.2.1, H6.out.2.2, by rw [HI.out.2.1, HI.out.2.2]; simp, by simp; omega⟩
      · obtain rfl : i = l.length := by omega
        have hT : T = out := by rw [hI.eq, List.drop_length]; simp [ptI]
        subst hT
        have hbt : BtR wr (.slice va T.length vc) T := btr_own hI.row rfl HH.out.2.2.2.1
        have cv := conv_str hbt
        have HB : Hid _ := hI.bel
        clear hI hz hbt
        go_wp2_with fail
        go_ret
        exact ⟨rfl, HB.out⟩
end Go.Proofs.YtgaegajcejpmdaaGreatDoor.Dc
namespace Go.Proofs.YtgaegajcejpmdaaGreatDoor.Dc
open Go.RowKit
set_option linter.unusedVariables false

set_option maxRecDepth 100000 in
set_option maxHeartbeats 6400000 in
theorem parse_r (s : ByteArray) (w : World) (hsm : s.size ≤ maxLen) : Calls Tryz.prog 41 #[.string s] w (PaP (bl s) w) := by
  obtain ⟨i5, z5, hi5, hz0, hzc, hz1, hz3⟩ := info5p
  unfold maxLen at hsm
  have hb0 : Below w.heap.size w (w.alloc zD) := (Below.refl _ _).alloc (Nat.le_refl _) _
  have hR0 := nw_heap w zD
  have hpl : parS (bl s) = if 4096 < (bl s).length then .error 3 else match scS (sgS (bl s)).2 [] 0 false with
    | none => .error 2
    | some (b, s') => if b = [] then .error 2 else .ok (canS (sgS (bl s)).1 b s') := rfl
  rw [bl_len] at hpl
  have HP : Hid _ := And.intro hpl (And.intro hb0 hR0)
  clear hpl hb0 hR0
  obtain ⟨r0, r1, r2⟩ := bl3 (HP.out.2.2)
  obtain ⟨rf0, rf1, rf2⟩ := bl3f (HP.out.2.2)
  by_cases hbig : (4096 : Int) < s.size
  · go_enter Tryz.func41, Tryz.ntmps41
    go_wp2_with fail
    exact bodyPost_ret (v := .tuple #[nmV false (.slice none 0 0) 0, .int .i64 3]) (by simp [results, Tryz.results41, go_sem]) rfl (PaP.bad (by rw [HP.out.1, if_pos (by omega)]) HP.out.2.1)
  have hpl2 : parS (bl s) = match scS (sgS (bl s)).2 [] 0 false with
    | none => .error 2
    | some (b, s') => if b = [] then .error 2 else .ok (canS (sgS (bl s)).1 b s') := by rw [HP.out.1, if_neg (by omega)]
  have hcase : s.size = 0 ∨ ∃ h : 0 < s.size, ((s[0]'h).toNat : Int) = 43 ∨ ((s[0]'h).toNat : Int) = 45 ∨ (((s[0]'h).toNat : Int) ≠ 43 ∧ ((s[0]'h).toNat : Int) ≠ 45) := by
    by_cases h0 : s.size = 0
    · exact .inl h0
    · exact .inr ⟨by omega, by omega⟩
  have hsg : (s.size = 0 → sgS (bl s) = (false, bl s)) ∧ ∀ h : 0 < s.size, (((s[0]'h).toNat : Int) = 43 → sgS (bl s) = (false, bl (s.extract 1 s.size))) ∧ (((s[0]'h).toNat : Int) = 45 → sgS (bl s) = (true, bl (s.extract 1 s.size))) ∧ (((s[0]'h).toNat : Int) ≠ 43 ∧ ((s[0]'h).toNat : Int) ≠ 45 → sgS (bl s) = (false, bl s)) := by
    refine ⟨fun h => by rw [bl_nil h]; rfl, fun h => ⟨fun q => ?_, fun q => ?_, fun q => ?_⟩⟩
    · rw [bl_ext]
      conv => lhs; rw [bl_cons s h]
      rw [sgS, if_pos q]
    · rw [bl_ext]
      conv => lhs; rw [bl_cons s h]
      rw [sgS, if_neg (by omega), if_pos q]
    · conv => lhs; rw [bl_cons s h]
      rw [sgS, if_neg q.1, if_neg q.2, ← bl_cons s h]
  obtain ⟨HL1, HL2⟩ : Below w.heap.size w (w.alloc zD) ∧ True := ⟨HP.out.2.1, trivial⟩
  obtain ⟨hsg1, hsg2⟩ := hsg
  generalize hL : bl s = L at *
  have HP2 : Hid _ := hpl2
  have HL : Hid _ := hL
  have HW0 : Hid _ := And.intro HL1 (nw_heap w zD)
  clear hpl2 HP hL HL1 HL2 hsm
  go_enter Tryz.func41, Tryz.ntmps41
  rcases hcase with h0 | ⟨hp, h43 | h45 | ⟨h43, h45⟩⟩
  case' inl =>
    have HS : Hid (sgS L = (false, bl s)) := by show _ = _; rw [HL.out]; exact hsg1 h0
    have hsb := tl_ee h0
    clear hsg1 hsg2
    go_wp2_with fail
    have hs' : s.size ≤ 4096 := by omega
    clear h0 hsb
    rename ByteArray => s'
  case' inr.inl =>
    have HS : Hid (sgS L = (false, bl (s.extract 1 s.size))) := (hsg2 hp).1 h43
    have hsb := tl_nn hp
    clear hsg1 hsg2
    go_wp2_with fail
    have hs' : (s.extract 1 s.size).size ≤ 4096 := by have := ext_size s; omega
    generalize s.extract 1 s.size = s' at *
  case' inr.inr.inl =>
    have HS : Hid (sgS L = (true, bl (s.extract 1 s.size))) := (hsg2 hp).2.1 h45
    have hsb := tl_nn hp
    clear hsg1 hsg2
    go_wp2_with fail
    have hs' : (s.extract 1 s.size).size ≤ 4096 := by have := ext_size s; omega
    generalize s.extract 1 s.size = s' at *
  case' inr.inr.inr =>
    have HS : Hid (sgS L = (false, bl s)) := by show _ = _; rw [HL.out]; exact (hsg2 hp).2.2 ⟨h43, h45⟩
    have hsb := tl_nn hp
    have h43b : (((s[0]'hp).toNat : Int) == 43) = false := by simpa using h43
    have h45b : (((s[0]'hp).toNat : Int) == 45) = false := by simpa using h45
    clear hsg1 hsg2
    go_wp2_with fail
    clear h43 h45 h43b h45b hsb
    have hs' : s.size ≤ 4096 := by omega
    rename ByteArray => s'
  all_goals
    clear HL
    go_loopg [5, 6, 7, 8] s'.size (fun m v5 v6 v7 v8 wr => ∃ (i : Nat) (b : List Int) (sc : Nat) (p : Bool), v6 = .int .i64 sc ∧ v7 = .bool p ∧ v8 = .int .i64 i ∧ i + m = s'.size ∧ PI1 w (bl s') i b sc p v5 wr)
    case atStart => exact ⟨0, [], 0, false, rfl, rfl, rfl, by omega, HW0.out.2, ⟨rfl, .inl ⟨rfl, rfl⟩⟩, HW0.out.1, rfl, by simp, by simp, fun d hd => by simp at hd⟩
    case round =>
      obtain ⟨i, b, sc, p, rfl, rfl, rfl, him, hI⟩ := hrel
      obtain ⟨va, vc, rfl⟩ := row_form hI.row
      obtain ⟨q0, q1, q2⟩ := bl3 hI.z
      obtain ⟨qf0, qf1, qf2⟩ := bl3f hI.z
      have hbl := hI.len
      have hscl := hI.sc'
      have hzlt := lt_of hI.z
      by_cases hi : i < s'.size
      · obtain ⟨m, rfl⟩ : ∃ m, gk = m + 1 := ⟨gk - 1, by omega⟩
        have heq := hI.eq
        rw [bl_drop s' i hi, scS] at heq
        have hcb : ((s'[i]'hi).toNat : Int) < 256 := by have := (s'[i]'hi).toNat_lt; omega
        have HI : Hid _ := And.intro hI heq
        clear hI heq
        by_cases hd : 48 ≤ ((s'[i]'hi).toNat : Int) ∧ ((s'[i]'hi).toNat : Int) ≤ 57
        · obtain ⟨hd1, hd2⟩ := hd
          cases p
          · go_wp2_with (first | (at_builtin; refine wpList_app _ rfl (.tmp 48) (.tmp 53) 32 rfl (w.heap.size + 1) 5 i5 z5 1 1 Tryz.underlying32 hi5 hz0 hz1 hz3 hzc (by decide) (.slice va b.length vc) b.length (b.map (Value.int .u8)) rfl (World.ownsRow.alloc HI.out.1.row _) (some ⟨wr.heap.size, 0, none⟩) 1 1 [.int .u8 (((s'[i]'hi).toNat : Int) - 48)] rfl rfl (.inr ⟨_, rfl, World.news_of_block (nw_heap wr _)⟩) (by intro u hu; simp at hu; subst hu; rfl) (by unfold maxLen; omega) (by omega) (by simp only [sza]; omega) ?_; intro v5' w5 hown5 hg5 hat5; have H5 : Hid _ := And.intro hown5 hg5; clear hown5 hg5 hat5))
            go_roundg m
            case measure => omega
            case rel => exact ⟨i + 1, b ++ [((s'[i]'hi).toNat : Int) - 48], sc, false, by simp, rfl, by simp, by omega, HI.out.1.more H5.out.2 H5.out.1 (by rw [HI.out.2, if_pos ⟨hd1, hd2⟩]; rfl) (by omega) (by omega)⟩
          · go_wp2_with (first | (at_builtin; refine wpList_app _ rfl (.tmp 48) (.tmp 53) 32 rfl (w.heap.size + 1) 5 i5 z5 1 1 Tryz.underlying32 hi5 hz0 hz1 hz3 hzc (by decide) (.slice va b.length vc) b.length (b.map (Value.int .u8)) rfl (World.ownsRow.alloc HI.out.1.row _) (some ⟨wr.heap.size, 0, none⟩) 1 1 [.int .u8 (((s'[i]'hi).toNat : Int) - 48)] rfl rfl (.inr ⟨_, rfl, World.news_of_block (nw_heap wr _)⟩) (by intro u hu; simp at hu; subst hu; rfl) (by unfold maxLen; omega) (by omega) (by simp only [sza]; omega) ?_; intro v5' w5 hown5 hg5 hat5; have H5 : Hid _ := And.intro hown5 hg5; clear hown5 hg5 hat5))
            go_roundg m
            case measure => omega
            case rel => exact ⟨i + 1, b ++ [((s'[i]'hi).toNat : Int) - 48], sc + 1, true, by simp, rfl, by simp, by omega, HI.out.1.more H5.out.2 H5.out.1 (by rw [HI.out.2, if_pos ⟨hd1, hd2⟩]; rfl) (by omega) (by omega)⟩
        · by_cases hp : ((s'[i]'hi).toNat : Int) = 46 ∧ p = false
          · obtain ⟨hp1, rfl⟩ := hp
            have hd1 : ¬ (48 ≤ ((s'[i]'hi).toNat : Int)) := by omega
            go_wp2_with fail
            go_roundg m
            case measure => omega
            case rel => exact ⟨i + 1, b, sc, true, rfl, rfl, by simp, by omega, HI.out.1.z, HI.out.1.row, HI.out.1.bel, by rw [HI.out.2, if_neg hd, if_pos ⟨hp1, by simp⟩], by omega, HI.out.1.sc', HI.out.1.dg⟩
          · have hpe : parS L = .error 2 := by
              rw [HP2.out, HS.out]
              dsimp only
              rw [HI.out.2, if_neg hd, if_neg hp]
            have HPE : Hid _ := hpe
            clear hpe
            by_cases hd1 : 48 ≤ ((s'[i]'hi).toNat : Int)
            case' pos =>
              have hd2 : ¬ ((s'[i]'hi).toNat : Int) ≤ 57 := fun q => hd ⟨hd1, q⟩
              have h46 : ¬ ((s'[i]'hi).toNat : Int) = 46 := by omega
              have h46b : (((s'[i]'hi).toNat : Int) == 46) = false := by simpa using h46
              clear hd hp
              go_wp2_with fail
            case' neg =>
              clear hd
              by_cases h46 : ((s'[i]'hi).toNat : Int) = 46
              case' pos =>
                have hpt : p = true := by cases p; exact absurd ⟨h46, rfl⟩ hp; rfl
                subst hpt
                clear hp
                go_wp2_with fail
              case' neg =>
                have h46b : (((s'[i]'hi).toNat : Int) == 46) = false := by simpa using h46
                clear hp
                go_wp2_with fail
            all_goals
              obtain ⟨k1, k2, k3, k4⟩ := set3 HI.out.1.bel (Nat.le_refl _) HI.out.1.z (.bool false) (.slice none 0 0) (.int .i64 0)
              generalize (((wr.setCell ⟨w.heap.size, 0, none⟩ (.bool false)).setCell ⟨w.heap.size, 1, none⟩ (.slice none 0 0)).setCell ⟨w.heap.size, 2, none⟩ (.int .i64 0)) = W9 at *
              obtain ⟨y0, y1, y2⟩ := bl3 k1
              exact bodyPost_ret (v := .tuple #[nmV false (.slice none 0 0) 0, .int .i64 2]) (by simp [results, Tryz.results41, go_sem, y0, y1, y2]) rfl (PaP.bad HPE.out k2)
      · obtain rfl : i = s'.size := by omega
        have hpe : parS L = if b = [] then .error 2 else .ok (canS (sgS L).1 b sc) := by
          rw [HP2.out, HS.out]
          dsimp only
          rw [hI.eq, List.drop_eq_nil_of_le (by rw [bl_len]; omega), scS]
        rw [HS.out] at hpe
        dsimp only at hpe
        by_cases hb : b = []
        · have hb0 : b.length = 0 := by rw [hb]; rfl
          have HPE : Hid (parS L = .error 2) := by show _ = _; rw [hpe, if_pos hb]
          have hbi : ((b.length : Nat) : Int) = 0 := by omega
          have hbi2 : (((b.length : Nat) : Int) == 0) = true := by simp [hbi]
          have HI : Hid _ := hI
          clear hpe hb hb0 hI
          go_wp2_with fail
          obtain ⟨k1, k2, k3, k4⟩ := set3 HI.out.bel (Nat.le_refl _) HI.out.z (.bool false) (.slice none 0 0) (.int .i64 0)
          generalize (((wr.setCell ⟨w.heap.size, 0, none⟩ (.bool false)).setCell ⟨w.heap.size, 1, none⟩ (.slice none 0 0)).setCell ⟨w.heap.size, 2, none⟩ (.int .i64 0)) = W9 at *
          obtain ⟨y0, y1, y2⟩ := bl3 k1
          exact bodyPost_ret (v := .tuple #[nmV false (.slice none 0 0) 0, .int .i64 2]) (by simp [results, Tryz.results41, go_sem, y0, y1, y2]) rfl (PaP.bad HPE.out k2)
        · have hb0 : ¬ ((b.length : Nat) : Int) = 0 := by
            have := List.length_pos_iff.2 hb
            omega
          have hbi2 : (((b.length : Nat) : Int) == 0) = false := by simpa using hb0
          rw [if_neg hb] at hpe
          have hbt : BtR wr (.slice va b.length vc) b := btr_own hI.row rfl (fun d hd => by have := hI.dg d hd; omega)
          have hcn := fun ng => canon_r hbt ng sc hI.sc' (by omega)
          have HI : Hid _ := And.intro hI (And.intro hpe hcn)
          clear hpe hb hI hcn hbt
          go_wp2_with fail
          refine Calls.mono (HI.out.2.2 _) ?_
          rintro e w2 ⟨rv, rfl, hbt2, hrv2, hb2⟩
          have hz2 := (hb2.block _ (lt_of HI.out.1.z)).trans HI.out.1.z
          have hbw2 := HI.out.1.bel.trans (hb2.mono HI.out.1.bel.size)
          obtain ⟨y0, y1, y2⟩ := bl3 hz2
          obtain ⟨yf0, yf1, yf2⟩ := bl3f hz2
          obtain ⟨ra, rc, rfl, _⟩ := hbt2.form
          have H2 : Hid _ := And.intro hbt2 (And.intro hz2 (And.intro hbw2 hrv2))
          clear hbt2 hb2 hz2 hbw2 hrv2
          go_wp2_with fail
          generalize canS _ b sc = C at *
          obtain ⟨c1, c2, c3⟩ := C
          dsimp only at *
          obtain ⟨k1, k2, k3, k4⟩ := set3 H2.out.2.2.1 (Nat.le_refl _) H2.out.2.1 (.bool c1) (.slice ra c2.length rc) (.int .i64 c3)
          have hbt9 := H2.out.1.kept (Nat.le_of_eq k4.symm) k3 (fun k hk hn e => by have := H2.out.2.2.2 k hk; omega)
          generalize (((w2.setCell ⟨w.heap.size, 0, none⟩ (.bool c1)).setCell ⟨w.heap.size, 1, none⟩ (.slice ra c2.length rc)).setCell ⟨w.heap.size, 2, none⟩ (.int .i64 c3)) = W9 at *
          obtain ⟨j0, j1, j2⟩ := bl3 k1
          exact bodyPost_ret (v := .tuple #[nmV c1 (.slice ra c2.length rc) c3, .int .i64 0]) (by simp [results, Tryz.results41, go_sem, j0, j1, j2]) rfl (PaP.good (n := (c1, c2, c3)) HI.out.2.1 k2 hbt9)
end Go.Proofs.YtgaegajcejpmdaaGreatDoor.Dc
