/- What both tellings lean on: numbers in memory, texts as rows. -/
import Derived.Test.YtgaegajcejpmdaaGreatDoorHJ4
import Derived.Test.YtgaegajcejpmdaaGreatDoorHJ7
import Derived.Deep.RegionHeld3
namespace Go.Proofs.YtgaegajcejpmdaaGreatDoor.Dc
open Go.RowKit
set_option linter.unusedVariables false

/-- A number in memory: its value. -/
abbrev nmV (neg : Bool) (v : Value) (sc : Int) : Value := .agg #[.bool neg, v, .int .i64 sc]
/-- The digit of a place. -/
def dgS (l : List Int) (sc p : Int) : Int := if (l.length : Int) - sc - 1 - p < 0 ∨ (l.length : Int) ≤ (l.length : Int) - sc - 1 - p then 0 else l.getD ((l.length : Int) - sc - 1 - p).toNat 0
/-- Total. -/
def totS (l : List Int) (sc : Nat) : Int := if 0 < sc ∧ l.length = sc + 1 ∧ l.head? = some 0 then (l.length : Int) - 1 else l.length
theorem dg_ext {l : List Int} {sc X s j : Nat} (h1 : sc ≤ l.length) (h2 : l.length - sc ≤ X) (h3 : sc ≤ s) (hj : j < X + 1 + s) : dgS l sc ((X : Int) - j) = (ext l sc (X + 1) s).getD j 0 := by
  unfold dgS ext
  simp only [List.getD_eq_getElem?_getD]
  by_cases c1 : j < X + 1 - (l.length - sc)
  · rw [if_pos (.inl (by omega)), List.getElem?_append_left (by simpa using c1), List.getElem?_replicate, if_pos c1]
    rfl
  · rw [List.getElem?_append_right (by simp; omega)]
    simp only [List.length_replicate]
    by_cases c2 : j - (X + 1 - (l.length - sc)) < l.length
    · rw [if_neg (by omega), List.getElem?_append_left c2]
      have e : ((l.length : Int) - sc - 1 - ((X : Int) - j)).toNat = j - (X + 1 - (l.length - sc)) := by omega
      rw [e]
    · rw [if_pos (.inr (by omega)), List.getElem?_append_right (by omega), List.getElem?_replicate]
      split <;> rfl
/-- A number that is read alone. -/
structure NmR (w : World) (v : Value) (n : Nm) : Prop where
  bt : BtR w v n.2.1
  cn : CN n
  le : n.2.1.length ≤ 4096
theorem NmR.below {w w' : World} {v : Value} {n : Nm} (h : NmR w v n) (hb : Below w.heap.size w w') : NmR w' v n := ⟨h.bt.below hb, h.cn, h.le⟩
theorem lex_drop {a b : List Int} {j : Nat} (ha : j < a.length) (hb : j < b.length) : lexS (a.drop j) (b.drop j) = if a.getD j 0 = b.getD j 0 then lexS (a.drop (j + 1)) (b.drop (j + 1)) else if a.getD j 0 < b.getD j 0 then -1 else 1 := by
  rw [List.drop_eq_getElem_cons ha, List.drop_eq_getElem_cons hb, lexS, List.getD_eq_getElem?_getD, List.getD_eq_getElem?_getD, List.getElem?_eq_getElem ha, List.getElem?_eq_getElem hb]
  rfl
theorem drop_all {a : List Int} {j : Nat} (h : a.length ≤ j) : a.drop j = [] := List.drop_eq_nil_of_le h
/-- Two numbers' boxes. -/
theorem box2 (w : World) (x0 x1 x2 y0 y1 y2 : Value) : (((w.alloc (.cells #[x0, x1, x2] 43)).alloc (.cells #[y0, y1, y2] 43)).heap[w.heap.size]? = some (.cells #[x0, x1, x2] 43 (0, 0))) ∧ (((w.alloc (.cells #[x0, x1, x2] 43)).alloc (.cells #[y0, y1, y2] 43)).heap[w.heap.size + 1]? = some (.cells #[y0, y1, y2] 43 (0, 0))) ∧ Below w.heap.size w ((w.alloc (.cells #[x0, x1, x2] 43)).alloc (.cells #[y0, y1, y2] 43)) := by
  refine ⟨xa2 _ _ _, ?_, ((Below.refl _ _).alloc (Nat.le_refl _) _).alloc (by simp) _⟩
  have := nw_heap (w.alloc (.cells #[x0, x1, x2] 43)) (.cells #[y0, y1, y2] 43)
  rwa [sza] at this
theorem own1 (wr : World) (t : TypeId) (x : Value) (hx : x.oneCell' = true) : (wr.alloc (.cells #[x] t)).ownsRow wr.heap.size t 1 (.slice (some ⟨wr.heap.size, 0, none⟩) 1 1) 1 [x] := ⟨rfl, .inr ⟨wr.heap.size, 1, #[x], rfl, Nat.le_refl _, nw_heap wr _, Nat.le_refl _, by unfold maxLen; omega, rfl, rfl⟩⟩
theorem BtR.cell {w : World} {a : Option Addr} {cap : Nat} {l : List Int} (h : BtR w (.slice a l.length cap) l) (hn : l ≠ []) : ∃ g o, a = some ⟨g, o, none⟩ ∧ g < w.heap.size ∧ ∀ i (hi : i < l.length), w.cell? ⟨g, o + i, none⟩ = some (.int .u8 (l[i]'hi)) := by
  obtain ⟨a', cap', e, h1, h2, h3, h4⟩ := h
  simp only [Value.slice.injEq] at e
  obtain ⟨rfl, _, rfl⟩ := e
  rcases h4 with h4 | h4
  · exact absurd h4 hn
  · exact h4
theorem BtR.byte {w : World} {v : Value} {l : List Int} (h : BtR w v l) : ∀ d ∈ l, 0 ≤ d ∧ d < 256 := by
  obtain ⟨_, _, _, _, _, h3, _⟩ := h
  exact h3
theorem BtR.lim {w : World} {a : Option Addr} {cap n : Nat} {l : List Int} (h : BtR w (.slice a n cap) l) : n = l.length ∧ l.length ≤ cap ∧ cap ≤ maxLen := by
  obtain ⟨a', cap', e, h1, h2, _⟩ := h
  simp only [Value.slice.injEq] at e
  obtain ⟨_, e2, rfl⟩ := e
  exact ⟨e2, h1, h2⟩
theorem BtR.tail {w : World} {g o cap : Nat} {l : List Int} {d : Int} (h : BtR w (.slice (some ⟨g, o, none⟩) (l.length + 1) cap) (d :: l)) : BtR w (.slice (some ⟨g, o + 1, none⟩) l.length (cap - 1)) l := h.rest
theorem one8 (l : List Int) : ∀ u ∈ l.map (Value.int .u8), u.oneCell' = true := by
  intro u hu
  obtain ⟨d, _, rfl⟩ := List.mem_map.1 hu
  rfl
theorem cT_last {s : Nat} {l m : List Int} {d : Int} (e : l = m ++ [d]) : cT (s + 1) l = if d = 0 then cT s m else (l, s + 1) := by
  rw [cT, e]
  by_cases h : d = 0
  · rw [if_pos h, if_pos (by simp [h])]; simp
  · rw [if_neg h, if_neg (by simp [h])]
theorem cP_one {s : Nat} {l : List Int} (h : l.length = s) : cP s l = 0 :: l := by
  unfold cP
  have : s + 1 - l.length = 1 := by omega
  rw [this]; rfl
theorem cP_none {s : Nat} {l : List Int} (h : s + 1 ≤ l.length) : cP s l = l := by
  unfold cP
  have : s + 1 - l.length = 0 := by omega
  rw [this]; rfl
theorem bl3f {w2 : World} {X : Nat} {x y z : Value} {t : TypeId} (hblk : w2.heap[X]? = some (.cells #[x, y, z] t (0, 0))) : w2.frozen? ⟨X, 0, none⟩ = false ∧ w2.frozen? ⟨X, 1, none⟩ = false ∧ w2.frozen? ⟨X, 2, none⟩ = false := by
  refine ⟨?_, ?_, ?_⟩ <;> simp [World.frozen?, hblk]
theorem set3 {N X : Nat} {w w2 : World} {x y z : Value} {t : TypeId} (hb : Below N w w2) (hX : N ≤ X) (h : w2.heap[X]? = some (.cells #[x, y, z] t (0, 0))) (a b c : Value) :
    (((w2.setCell ⟨X, 0, none⟩ a).setCell ⟨X, 1, none⟩ b).setCell ⟨X, 2, none⟩ c).heap[X]? = some (.cells #[a, b, c] t (0, 0)) ∧ Below N w (((w2.setCell ⟨X, 0, none⟩ a).setCell ⟨X, 1, none⟩ b).setCell ⟨X, 2, none⟩ c) ∧ (∀ k, k ≠ X → (((w2.setCell ⟨X, 0, none⟩ a).setCell ⟨X, 1, none⟩ b).setCell ⟨X, 2, none⟩ c).heap[k]? = w2.heap[k]?) ∧ (((w2.setCell ⟨X, 0, none⟩ a).setCell ⟨X, 1, none⟩ b).setCell ⟨X, 2, none⟩ c).heap.size = w2.heap.size := by
  have h2 := bset (i := 2) (bset (i := 1) (bset (i := 0) h a) b) c
  refine ⟨h2, ((hb.setCell (p := ⟨X, 0, none⟩) hX a).setCell (p := ⟨X, 1, none⟩) hX b).setCell (p := ⟨X, 2, none⟩) hX c, fun k hk => ?_, by simp [World.setCell]⟩
  rw [Below.heap_setCell _ _ _ _ hk, Below.heap_setCell _ _ _ _ hk, Below.heap_setCell _ _ _ _ hk]
/-- A row that lies where nothing was written. -/
theorem BtR.kept {w w' : World} {v : Value} {l : List Int} {X : Nat} (h : BtR w v l) (hz : w.heap.size ≤ w'.heap.size) (hk : ∀ k, k ≠ X → w'.heap[k]? = w.heap[k]?) (hX : ∀ k, v.ownBlock = some k → l ≠ [] → k ≠ X) : BtR w' v l := by
  obtain ⟨a, cap, rfl, h1, h2, h3, h4⟩ := h
  refine ⟨a, cap, rfl, h1, h2, h3, ?_⟩
  by_cases hn : l = []
  · exact .inl hn
  · rcases h4 with h4 | ⟨g, o, rfl, h5, h6⟩
    · exact .inl h4
    · refine .inr ⟨g, o, rfl, Nat.lt_of_lt_of_le h5 hz, fun i hi => ?_⟩
      have e := hk g (hX g rfl hn)
      rw [← h6 i hi]
      simp only [World.cell?, e]
abbrev zD : Obj := .cells #[.bool false, .slice none 0 0, .int .i64 0] 43
/-- A text's bytes, as numbers. -/
def bl (s : ByteArray) : List Int := s.data.toList.map fun c => (c.toNat : Int)
theorem bl_len (s : ByteArray) : (bl s).length = s.size := by simp [bl]
theorem bl_drop (s : ByteArray) (i : Nat) (hi : i < s.size) : (bl s).drop i = ((s[i]'hi).toNat : Int) :: (bl s).drop (i + 1) := by
  rw [List.drop_eq_getElem_cons (by rw [bl_len]; exact hi)]
  congr 1
  simp [bl]
  rfl
theorem bl_cons (s : ByteArray) (h : 0 < s.size) : bl s = ((s[0]'h).toNat : Int) :: (bl s).drop 1 := by
  have := bl_drop s 0 h
  simpa using this
theorem bl_ext (s : ByteArray) : bl (s.extract 1 s.size) = (bl s).drop 1 := by
  unfold bl
  rw [ByteArray.data_extract, Array.toList_extract, List.extract_eq_take_drop, List.map_drop.symm]
  congr 1
  rw [List.take_of_length_le]
  rw [List.length_drop]
  exact Nat.le_refl _
theorem bl_nil {s : ByteArray} (h : s.size = 0) : bl s = [] := List.eq_nil_of_length_eq_zero (by rw [bl_len]; exact h)
theorem tl_nn {s : ByteArray} (h : 0 < s.size) : (s.toList == []) = false := by
  have : ¬ s.toList = [] := fun q => by
    rw [Lib.toList_data] at q
    have e : s.data.toList.length = 0 := by rw [q]; rfl
    rw [Array.length_toList] at e
    have e2 : s.size = 0 := e
    omega
  simpa using this
theorem tl_ee {s : ByteArray} (h : s.size = 0) : (s.toList == []) = true := by
  have : s.toList = [] := by rw [Lib.toList_data]; exact List.eq_nil_of_length_eq_zero (by rw [Array.length_toList]; exact h)
  simp [this]
theorem ext_size (s : ByteArray) : (s.extract 1 s.size).size ≤ s.size := by
  rw [ByteArray.size_extract]; omega
/-- What Parse gives. -/
def PaP (l : List Int) (w : World) (e : Ending) (w' : World) : Prop :=
  Below w.heap.size w w' ∧ match parS l with
  | .error x => e = .returned (.tuple #[nmV false (.slice none 0 0) 0, .int .i64 x])
  | .ok n => ∃ rv, e = .returned (.tuple #[nmV n.1 rv n.2.2, .int .i64 0]) ∧ BtR w' rv n.2.1
theorem PaP.bad {l : List Int} {w w' : World} {x : Int} (h : parS l = .error x) (hb : Below w.heap.size w w') : PaP l w (.returned (.tuple #[nmV false (.slice none 0 0) 0, .int .i64 x])) w' := by
  refine ⟨hb, ?_⟩
  rw [h]
theorem PaP.good {l : List Int} {w w' : World} {n : Nm} {rv : Value} (h : parS l = .ok n) (hb : Below w.heap.size w w') (ht : BtR w' rv n.2.1) : PaP l w (.returned (.tuple #[nmV n.1 rv n.2.2, .int .i64 0])) w' := by
  refine ⟨hb, ?_⟩
  rw [h]
  exact ⟨rv, rfl, ht⟩
/-- Where Parse's loop stands. -/
structure PI1 (w : World) (l : List Int) (i : Nat) (b : List Int) (sc : Nat) (p : Bool) (v : Value) (wr : World) : Prop where
  z : wr.heap[w.heap.size]? = some (.cells #[.bool false, .slice none 0 0, .int .i64 0] 43 (0, 0))
  row : wr.ownsRow (w.heap.size + 1) 5 1 v b.length (b.map (Value.int .u8))
  bel : Below w.heap.size w wr
  eq : scS l [] 0 false = scS (l.drop i) b sc p
  len : b.length ≤ i
  sc' : sc ≤ b.length
  dg : Dg b
theorem PI1.more {w wr w5 : World} {l b : List Int} {i sc sc2 : Nat} {p : Bool} {d : Int} {v v5 : Value} {o : Obj} (h : PI1 w l i b sc p v wr) (hg : (wr.alloc o).grownBy w5 v.ownBlock)
    (ho : w5.ownsRow (w.heap.size + 1) 5 1 v5 (b.length + 1) (b.map (Value.int .u8) ++ [.int .u8 d])) (he : scS l [] 0 false = scS (l.drop (i + 1)) (b ++ [d]) sc2 p) (hs : sc2 ≤ b.length + 1) (hd : 0 ≤ d ∧ d ≤ 9) : PI1 w l (i + 1) (b ++ [d]) sc2 p v5 w5 := by
  have hba : Below wr.heap.size wr (wr.alloc o) := (Below.refl _ _).alloc (Nat.le_refl _) _
  have hlt : ∀ k, v.ownBlock = some k → w.heap.size + 1 ≤ k := fun k q => (row_base h.row k q).1
  refine ⟨grown_o hg ((hba.block _ (lt_of h.z)).trans h.z) (fun e => by have := hlt _ e; omega), ?_, ?_, he, ?_, by simpa using hs, h.dg.app (fun x hx => by simp at hx; omega)⟩
  · rw [List.length_append, List.map_append]
    exact ho
  · exact (h.bel.alloc h.bel.size o).grown hg (by have := h.bel.size; have := hba.size; omega) (fun k q => by have := hlt k q; omega)
  · have := h.len
    simp
    omega
/-- Bytes as a text. -/
def sb (l : List Int) : ByteArray := ⟨(l.map fun d => UInt8.ofNat d.toNat).toArray⟩
theorem sb_bl (s : ByteArray) : sb (bl s) = s := by
  unfold bl sb
  rw [List.map_map]
  have : (fun n : Int => UInt8.ofNat n.toNat) ∘ (fun c : UInt8 => (c.toNat : Int)) = id := by
    funext c; simp
  rw [this, List.map_id]
theorem bl_sb {l : List Int} (h : ∀ d ∈ l, 0 ≤ d ∧ d < 256) : bl (sb l) = l := by
  unfold bl sb
  rw [List.map_map]
  conv => rhs; rw [← List.map_id l]
  apply List.map_congr_left
  intro d hd
  have := h d hd
  simp
  omega
theorem push_fold (l : List Int) : ∀ acc : ByteArray, l.foldl (fun acc n => acc.push (UInt8.ofNat n.toNat)) acc = ⟨acc.data ++ (l.map fun d => UInt8.ofNat d.toNat).toArray⟩ := by
  induction l with
  | nil => intro acc; simp
  | cons d l ih =>
    intro acc
    rw [List.foldl_cons, ih]
    simp [ByteArray.push]
theorem conv_str {w : World} {v : Value} {l : List Int} (h : BtR w v l) : (convert 32 9 v).run Tryz.prog w = .ok (.string (sb l)) w := by
  obtain ⟨a, cap, rfl, h1, h2, h3, h4⟩ := h
  rw [run_convert_bytes_string w 32 9 5 _ _ _ Tryz.underlying32 Tryz.underlying5 Tryz.underlying9]
  rcases h4 with rfl | ⟨g, o, rfl, h5, h6⟩
  · cases a <;> rfl
  · have hl := run_loadCells_list (P := Tryz.prog) (w := w) ⟨g, o, none⟩ (l.map (Value.int .u8)) (fun j v hj => by
      rw [List.getElem?_map] at hj
      obtain ⟨d, hd, rfl⟩ := Option.map_eq_some_iff.1 hj
      obtain ⟨hjl, rfl⟩ := List.getElem?_eq_some_iff.1 hd
      rw [addr_add]
      exact h6 j hjl)
    rw [List.length_map] at hl
    rw [run_bytesToString w ⟨g, o, none⟩ l.length cap l hl, push_fold]
    have e : ByteArray.empty.data = #[] := rfl
    rw [e, Array.empty_append]
    rfl
/-- Digits with a point among them. -/
def ptI : List Int → Int → List Int
  | [], _ => []
  | d :: l, k => (if k = 0 then [46] else []) ++ (48 + d) :: ptI l (k - 1)
theorem map48 (l : List Int) : l.map (fun d => 48 + d) = l.map (· + 48) := by
  apply List.map_congr_left
  intro d _
  omega
theorem pt_neg : ∀ (l : List Int) (k : Int), k < 0 → ptI l k = l.map (· + 48)
  | [], k, _ => rfl
  | d :: l, k, hk => by
    rw [ptI, if_neg (by omega), pt_neg l (k - 1) (by omega), List.map_cons]
    have : 48 + d = d + 48 := by omega
    rw [this]; rfl
theorem pt_pos : ∀ (l : List Int) (k : Nat), k ≤ l.length → ptI l k = (l.take k).map (· + 48) ++ (if k = l.length then [] else 46 :: (l.drop k).map (· + 48))
  | [], k, hk => by
    have : k = 0 := by simpa using hk
    subst this
    simp [ptI]
  | d :: l, 0, hk => by
    rw [ptI, if_pos (by simp), pt_neg l _ (by omega)]
    have : 48 + d = d + 48 := by omega
    simp [this]
  | d :: l, k + 1, hk => by
    have e : ((k + 1 : Nat) : Int) - 1 = (k : Int) := by omega
    rw [ptI, if_neg (by omega), e, pt_pos l k (by simpa using hk)]
    have : 48 + d = d + 48 := by omega
    simp [this]
theorem tx_pt (n : Nm) (h : n.2.2 ≤ n.2.1.length) : txS n = (if n.1 = true then [45] else []) ++ ptI n.2.1 ((n.2.1.length : Int) - n.2.2) := by
  unfold txS
  have e : (n.2.1.length : Int) - n.2.2 = ((n.2.1.length - n.2.2 : Nat) : Int) := by omega
  rw [e, pt_pos _ _ (by omega)]
  have hc : (n.2.1.length - n.2.2 = n.2.1.length) ↔ n.2.2 = 0 := by
    have := h
    generalize n.2.1.length = L at *
    omega
  simp only [hc]
theorem tx_byte {n : Nm} (h : Dg n.2.1) : ∀ d ∈ txS n, 0 ≤ d ∧ d < 256 := by
  intro d hd
  unfold txS at hd
  have key : ∀ l : List Int, Dg l → ∀ d ∈ l.map (· + 48), 0 ≤ d ∧ d < 256 := by
    intro l hl d hd
    obtain ⟨x, hx, rfl⟩ := List.mem_map.1 hd
    have := hl x hx
    omega
  rcases List.mem_append.1 hd with q | q
  · split at q
    · simp at q; omega
    · simp at q
  · rcases List.mem_append.1 q with q | q
    · exact key _ (fun x hx => h x (List.mem_of_mem_take hx)) d q
    · split at q
      · simp at q
      · rcases List.mem_cons.1 q with q | q
        · omega
        · exact key _ (fun x hx => h x (List.mem_of_mem_drop hx)) d q
/-- Where Text's loop stands. -/
structure TI1 (w : World) (box : Obj) (T l : List Int) (k : Int) (i : Nat) (out : List Int) (v : Value) (wr : World) : Prop where
  z : wr.heap[w.heap.size]? = some box
  row : wr.ownsRow (w.heap.size + 1) 5 1 v out.length (out.map (Value.int .u8))
  bel : Below w.heap.size w wr
  eq : T = out ++ ptI (l.drop i) (k - i)
  len : out.length ≤ 2 * i + 1
theorem tgrow {w wr w5 : World} {box : Obj} {out : List Int} {d : Int} {v v5 : Value} {o : Obj} (h : wr.heap[w.heap.size]? = some box ∧ wr.ownsRow (w.heap.size + 1) 5 1 v out.length (out.map (Value.int .u8)) ∧ Below w.heap.size w wr) (hg : (wr.alloc o).grownBy w5 v.ownBlock)
    (ho : w5.ownsRow (w.heap.size + 1) 5 1 v5 (out.length + 1) (out.map (Value.int .u8) ++ [.int .u8 d])) : w5.heap[w.heap.size]? = some box ∧ w5.ownsRow (w.heap.size + 1) 5 1 v5 (out ++ [d]).length ((out ++ [d]).map (Value.int .u8)) ∧ Below w.heap.size w w5 := by
  have hba : Below wr.heap.size wr (wr.alloc o) := (Below.refl _ _).alloc (Nat.le_refl _) _
  have hlt : ∀ k, v.ownBlock = some k → w.heap.size + 1 ≤ k := fun k q => (row_base h.2.1 k q).1
  refine ⟨grown_o hg ((hba.block _ (lt_of h.1)).trans h.1) (fun e => by have := hlt _ e; omega), ?_, ?_⟩
  · rw [List.length_append, List.map_append]
    exact ho
  · exact (h.2.2.alloc h.2.2.size o).grown hg (by have := h.2.2.size; have := hba.size; omega) (fun k q => by have := hlt k q; omega)
/-- A new number. -/
def NewN (w : World) (n : Nm) (rv : Value) (w' : World) : Prop := BtR w' rv n.2.1 ∧ (∀ k, rv.ownBlock = some k → w.heap.size < k) ∧ Below w.heap.size w w'
/-- Three boxes. -/
theorem box3 (w : World) (x0 x1 x2 y0 y1 y2 : Value) : (((w.alloc (.cells #[x0, x1, x2] 43)).alloc (.cells #[y0, y1, y2] 43)).alloc zD).heap[w.heap.size]? = some (.cells #[x0, x1, x2] 43 (0, 0)) ∧ (((w.alloc (.cells #[x0, x1, x2] 43)).alloc (.cells #[y0, y1, y2] 43)).alloc zD).heap[w.heap.size + 1]? = some (.cells #[y0, y1, y2] 43 (0, 0)) ∧ (((w.alloc (.cells #[x0, x1, x2] 43)).alloc (.cells #[y0, y1, y2] 43)).alloc zD).heap[w.heap.size + 1 + 1]? = some zD ∧ Below w.heap.size w (((w.alloc (.cells #[x0, x1, x2] 43)).alloc (.cells #[y0, y1, y2] 43)).alloc zD) := by
  refine ⟨xa3 _ _ _ _, ?_, ?_, (((Below.refl _ _).alloc (Nat.le_refl _) _).alloc (by simp) _).alloc (by simp; omega) _⟩
  · have := xa2 (w.alloc (.cells #[x0, x1, x2] 43)) (.cells #[y0, y1, y2] 43) zD
    rwa [sza] at this
  · have := nw_heap ((w.alloc (.cells #[x0, x1, x2] 43)).alloc (.cells #[y0, y1, y2] 43)) zD
    rwa [sza, sza] at this
theorem made8 (n : Nat) : madeCells (Value.int .u8 0).cells (n * 1) = ((List.replicate n (0 : Int)).map (Value.int .u8)).toArray := by
  unfold madeCells
  apply Array.ext
  · simp
  · intro i h1 h2
    simp [Value.cells, Nat.mod_one]
theorem setO {W : World} {T i : Nat} {ol : List Int} {d : Int} (h : W.heap[T]? = some (.cells (ol.map (Value.int .u8)).toArray 5 (0, 0))) : (W.setCell ⟨T, i, none⟩ (.int .u8 d)).heap[T]? = some (.cells ((ol.set i d).map (Value.int .u8)).toArray 5 (0, 0)) := by
  have := bset (i := i) h (.int .u8 d)
  rw [this, List.map_set]
  simp
theorem cellO {W : World} {T i : Nat} {ol : List Int} (h : W.heap[T]? = some (.cells (ol.map (Value.int .u8)).toArray 5 (0, 0))) (hi : i < ol.length) : W.cell? ⟨T, i, none⟩ = some (.int .u8 (ol[i]'hi)) ∧ W.frozen? ⟨T, i, none⟩ = false := by
  constructor
  · simp [World.cell?, h, hi]
  · simp [World.frozen?, h]
theorem drop_set {ol : List Int} {i : Nat} {d : Int} (hi : i < ol.length) : (ol.set i d).drop i = d :: ol.drop (i + 1) := by
  rw [List.drop_eq_getElem_cons (by simpa using hi), List.drop_set_of_lt (by omega)]
  simp
theorem dg_set {ol : List Int} {i : Nat} {d : Int} (h : Dg ol) (hd : 0 ≤ d ∧ d ≤ 9) : Dg (ol.set i d) := fun x hx => by
  rcases List.mem_or_eq_of_mem_set hx with q | q
  · exact h x q
  · rw [q]; exact hd
theorem btr_out {W : World} {T : Nat} {ol : List Int} (h : W.heap[T]? = some (.cells (ol.map (Value.int .u8)).toArray 5 (0, 0))) (hd : Dg ol) (hl : ol.length ≤ 20000) : BtR W (.slice (some ⟨T, 0, none⟩) ol.length ol.length) ol :=
  ⟨_, _, rfl, Nat.le_refl _, by unfold maxLen; omega, fun d q => by have := hd d q; omega, .inr ⟨T, 0, rfl, lt_of h, fun i hi => by rw [Nat.zero_add]; exact (cellO h hi).1⟩⟩
/-- What Add gives. -/
def AdP (a b : Nm) (w : World) (e : Ending) (w' : World) : Prop :=
  Below w.heap.size w w' ∧ match adS a b with
  | .error x => e = .returned (.tuple #[nmV false (.slice none 0 0) 0, .int .i64 x])
  | .ok n => ∃ rv, e = .returned (.tuple #[nmV n.1 rv n.2.2, .int .i64 0]) ∧ BtR w' rv n.2.1
end Go.Proofs.YtgaegajcejpmdaaGreatDoor.Dc
