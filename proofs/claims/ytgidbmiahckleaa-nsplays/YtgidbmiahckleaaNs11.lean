/- A scope in memory, whole: bind and Close on it. -/
import Derived.Test.YtgidbmiahckleaaNs10
namespace Go.Proofs.Ytgidbmiahckleaa
open Go.RowKit
set_option linter.unusedVariables false

abbrev Bs := List (ByteArray × ByteArray)
abbrev Hs := List (ByteArray × Option ByteArray)
inductive Hds (w : World) : List Value → List Hs → Prop
  | nil : Hds w [] []
  | cons {v : Value} {h : Hs} {xs : List Value} {hs : List Hs} : HidAt w v h → Hds w xs hs → Hds w (v :: xs) (h :: hs)
theorem Hds.snoc {w : World} {v : Value} {h : Hs} : ∀ {xs : List Value} {hs : List Hs}, Hds w xs hs → HidAt w v h → Hds w (xs ++ [v]) (hs ++ [h])
  | _, _, .nil, h2 => .cons h2 .nil
  | _, _, .cons h1 t, h2 => .cons h1 (t.snoc h2)
theorem Hds.len {w : World} : ∀ {xs : List Value} {hs : List Hs}, Hds w xs hs → xs.length = hs.length
  | _, _, .nil => rfl
  | _, _, .cons h1 t => by simp [t.len]
theorem Hds.last {w : World} : ∀ {xs : List Value} {hs : List Hs} {h : Hs}, Hds w xs (hs ++ [h]) → ∃ ys v, xs = ys ++ [v] ∧ Hds w ys hs ∧ HidAt w v h
  | _, [], h, .cons h1 .nil => ⟨[], _, rfl, .nil, h1⟩
  | _, g :: hs, h, .cons h1 t => by
    obtain ⟨ys, v, rfl, h2, h3⟩ := t.last
    exact ⟨_ :: ys, v, rfl, .cons h1 h2, h3⟩
theorem Hds.mono {w w' : World} : ∀ {xs : List Value} {hs : List Hs}, Hds w xs hs → (∀ v ∈ xs, ∀ h, HidAt w v h → HidAt w' v h) → Hds w' xs hs
  | _, _, .nil, _ => .nil
  | _, _, .cons h1 t, hm => .cons (hm _ (by simp) _ h1) (t.mono fun v hv => hm v (by simp [hv]))
theorem Hds.mem {w : World} : ∀ {xs : List Value} {hs : List Hs}, Hds w xs hs → ∀ v ∈ xs, ∃ h, HidAt w v h
  | _, _, .nil, v, hv => by simp at hv
  | _, _, .cons h1 t, v, hv => by
    simp at hv
    rcases hv with rfl | hv
    · exact ⟨_, h1⟩
    · exact t.mem v hv
theorem HidAt.map {w : World} {b : Nat} {h : Hs} (hh : HidAt w (.map (some b)) h) : MapAt w b (hbv h) := by
  rcases hh with ⟨e, _⟩ | ⟨b', e, hm⟩
  · simp at e
  · simp at e; subst e; exact hm
theorem NowAt.map {w : World} {b : Nat} {l : Bs} (hh : NowAt w (.map (some b)) l) : MapAt w b (bnd l) := by
  rcases hh with ⟨e, _⟩ | ⟨b', e, hm⟩
  · simp at e
  · simp at e; subst e; exact hm
/-- A scope; its blocks lie in O. -/
structure SC (O : Nat → Prop) (w : World) (P : Nat) (l : Bs) (hs : List Hs) : Prop where
  lt : ∀ k, O k → k < w.heap.size
  ex : ∃ nv hv xs, ScB w P nv hv ∧ NowAt w nv l ∧ w.ownsRow 0 78 1 hv hs.length xs ∧ Hds w xs hs ∧ (∀ v ∈ xs, ∀ b, v = .map (some b) → O b ∧ nv ≠ .map (some b)) ∧ O P ∧ (∀ b, nv = .map (some b) → O b) ∧ (∀ k, hv.ownBlock = some k → O k)
theorem SC.keep {O : Nat → Prop} {w w' : World} {P : Nat} {l : Bs} {hs : List Hs} (h : SC O w P l hs) (hsz : w.heap.size ≤ w'.heap.size) (hk : ∀ k, O k → w'.heap[k]? = w.heap[k]?) : SC O w' P l hs := by
  obtain ⟨h0, nv, hv, xs, h1, h2, h3, h4, h5, h6, h7, h8⟩ := h
  refine ⟨fun k ok => Nat.lt_of_lt_of_le (h0 k ok) hsz, nv, hv, xs, (hk P h6).trans h1, ?_, row_same h3 (fun k e => hk k (h8 k e)), h4.mono (fun v hv h hh => ?_), h5, h6, h7, h8⟩
  · rcases h2 with e | ⟨b, e, arr, clk, m1, m2⟩
    · exact .inl e
    · exact .inr ⟨b, e, arr, clk, (hk b (h7 b e)).trans m1, m2⟩
  · rcases hh with e | ⟨b, e, arr, clk, m1, m2⟩
    · exact .inl e
    · exact .inr ⟨b, e, arr, clk, (hk b (h5 v hv b e).1).trans m1, m2⟩
theorem SC.below {O : Nat → Prop} {w w' : World} {P : Nat} {l : Bs} {hs : List Hs} (h : SC O w P l hs) (hb : Below w.heap.size w w') : SC O w' P l hs := h.keep hb.size (fun k ok => hb.block k (h.lt k ok))
theorem SC.fro {O O' : Nat → Prop} {w w' : World} {P : Nat} {l : Bs} {hs : List Hs} (h : SC O w P l hs) (hf : Fro O' w w') (hd : ∀ k, O k → ¬ O' k) : SC O w' P l hs := h.keep hf.size (fun k ok => hf.block k (h.lt k ok) (hd k ok))
theorem binds_nil (l : Bs) : binds l (ps []) = (l, []) := rfl
theorem bind_o {O : Nat → Prop} {w : World} {P cap : Nat} {a : Option Addr} {nv hv : Value} {l : Bs} {ats : List (ByteArray × ByteArray × Int)} (hP : ScB w P nv hv) (hN : NowAt w nv l) (hO : O P) (hOb : ∀ b, nv = .map (some b) → O b) (hA : AtO w a ats) (hcap : a = none → cap = 0) (hg : ats ≠ [] → ∀ g off, a = some ⟨g, off, none⟩ → ¬ O g) {n : Nat} {xs : List Value} (hrow : w.ownsRow 0 78 1 hv n xs) (hn : n ≤ 1000000) (hOr : ∀ k, hv.ownBlock = some k → ¬ O k) :
    Calls Try.prog 27 #[.pointer (some ⟨P, 0, none⟩), .slice a ats.length cap] w fun e w' => e = .returned (.tuple #[]) ∧ ∃ nv' v4 g2 cap2, ScB w' P nv' (.slice (some ⟨g2, 0, none⟩) (n + 1) cap2) ∧ NowAt w' nv' (binds l (ps ats)).1 ∧ HidAt w' v4 (binds l (ps ats)).2 ∧ w'.ownsRow 0 78 1 (.slice (some ⟨g2, 0, none⟩) (n + 1) cap2) (n + 1) (xs ++ [v4]) ∧ (hv.ownBlock = some g2 ∨ w.heap.size ≤ g2) ∧ (∀ b, nv' = .map (some b) → (O b ∨ w.heap.size ≤ b) ∧ v4 ≠ .map (some b)) ∧ (∀ b, v4 = .map (some b) → w.heap.size ≤ b) ∧ Fro (fun k => O k ∨ hv.ownBlock = some k) w w' := by
  by_cases he : ats = []
  · subst he
    exact bind_nil hP hN hO hOb hrow hn
  rcases hA with he' | ⟨g, off, rfl, hA⟩
  · exact absurd he' he
  · exact bind_t hP hN hO hOb hA (hg he g off rfl) hrow hn hOr
theorem bind_sc {O : Nat → Prop} {w : World} {P cap : Nat} {a : Option Addr} {l : Bs} {hs : List Hs} {ats : List (ByteArray × ByteArray × Int)} (h : SC O w P l hs) (hA : AtO w a ats) (hcap : a = none → cap = 0) (hg : ats ≠ [] → ∀ g off, a = some ⟨g, off, none⟩ → ¬ O g) (hn : hs.length ≤ 1000000) :
    Calls Try.prog 27 #[.pointer (some ⟨P, 0, none⟩), .slice a ats.length cap] w fun e w' => e = .returned (.tuple #[]) ∧ SC (fun k => O k ∨ (w.heap.size ≤ k ∧ k < w'.heap.size)) w' P (binds l (ps ats)).1 (hs ++ [(binds l (ps ats)).2]) ∧ Fro O w w' := by
  obtain ⟨h0, nv, hv, xs, h1, h2, h3, h4, h5, h6, h7, h8⟩ := h
  have hrn : ∀ k, hv.ownBlock = some k → ¬ (k = P ∨ nv = .map (some k)) := by
    rintro k e (rfl | q)
    · exact row_ne h3 h1 (by decide) e
    · rw [q] at h2
      exact row_map h3 h2.map e
  refine Calls.mono (bind_o (O := fun k => k = P ∨ nv = .map (some k)) h1 h2 (.inl rfl) (fun b e => .inr e) hA hcap (fun hne g off e q => ?_) h3 hn hrn) ?_
  · rcases q with q | q
    · subst q; exact hg hne _ off e h6
    · exact hg hne _ off e (h7 _ q)
  rintro e w' ⟨rfl, nv', v4, g2, cap2, k1, k2, k3, k4, k5, k6, k7, k8⟩
  have hO1 : ∀ k, k = P ∨ nv = .map (some k) → O k := by
    rintro k (rfl | q)
    · exact h6
    · exact h7 _ q
  have hf : Fro O w w' := k8.mono (fun i _ q => q.elim (hO1 i) (h8 i))
  have hhm : ∀ v ∈ xs, ∀ b, v = .map (some b) → b < w.heap.size ∧ b ≠ P ∧ nv ≠ .map (some b) ∧ hv.ownBlock ≠ some b := by
    intro v hv' b e
    obtain ⟨h, hh⟩ := h4.mem v hv'
    rw [e] at hh
    exact ⟨hh.map.lt, hh.map.ne h1, (h5 v hv' b e).2, row_map h3 hh.map⟩
  refine ⟨rfl, ⟨?_, nv', _, xs ++ [v4], k1, k2, by simpa using k4, (h4.mono (fun v hv' h hh => hh.fro k8 (fun b e q => ?_))).snoc k3, ?_, .inl h6, ?_, ?_⟩, hf⟩
  · rintro k (q | q)
    · exact Nat.lt_of_lt_of_le (h0 k q) hf.size
    · exact q.2
  · obtain ⟨a1, a2, a3, a4⟩ := hhm v hv' b e
    rcases q with (q | q) | q
    · exact a2 q
    · exact a3 q
    · exact a4 q
  · intro v hv' b e
    rw [List.mem_append] at hv'
    rcases hv' with hv' | hv'
    · obtain ⟨a1, a2, a3, a4⟩ := hhm v hv' b e
      refine ⟨.inl (h5 v hv' b e).1, fun q => ?_⟩
      rcases (k6 b q).1 with (p | p) | p
      · exact a2 p
      · exact a3 p
      · omega
    · simp at hv'
      subst hv'
      rw [e] at k3
      exact ⟨.inr ⟨k7 b e, k3.map.lt⟩, fun q => (k6 b q).2 e⟩
  · intro b e
    rcases (k6 b e).1 with p | p
    · exact .inl (hO1 b p)
    · rw [e] at k2
      exact .inr ⟨p, k2.map.lt⟩
  · intro k e
    simp [Value.ownBlock] at e
    subst e
    rcases k5 with p | p
    · exact .inl (h8 _ p)
    · exact .inr ⟨p, (row_base k4 g2 rfl).2⟩
theorem close_sc {O : Nat → Prop} {w : World} {P : Nat} {l : Bs} {hs : List Hs} {h : Hs} (hS : SC O w P l (hs ++ [h])) (hnn : h ≠ [] → l ≠ []) (hn : hs.length ≤ 1000000) :
    Calls Try.prog 10 #[.pointer (some ⟨P, 0, none⟩)] w fun e w' => e = .returned (.bool true) ∧ ∃ h', h'.Perm h ∧ SC O w' P (back l h') hs ∧ Fro O w w' := by
  obtain ⟨h0, nv, hv, xs, h1, h2, h3, h4, h5, h6, h7, h8⟩ := hS
  obtain ⟨ys, v, rfl, h9, h10⟩ := h4.last
  rw [List.length_append, List.length_singleton] at h3
  refine Calls.mono (close_t h1 h2 h3 h10 (fun b e => (h5 v (by simp) b e).2) (fun e => ?_) hn) ?_
  · rcases h2 with ⟨_, q⟩ | ⟨b, q, _⟩
    · exact absurd q (hnn e)
    · exact ⟨b, q⟩
  rintro e w' ⟨rfl, h', g, cap, k1, k2, k3, k4, k5, k6⟩
  have hf : Fro O w w' := k6.mono (fun i _ q => by
    rcases q with q | q | q
    · rw [q]; exact h6
    · exact h7 i q
    · exact h8 i q)
  refine ⟨rfl, h', k1, ⟨fun k ok => Nat.lt_of_lt_of_le (h0 k ok) hf.size, nv, _, ys, k2, k4, k5, h9.mono (fun u hu h hh => hh.fro k6 (fun b e q => ?_)), fun u hu => h5 u (by simp [hu]), h6, h7, fun k e => h8 k ?_⟩, hf⟩
  · rw [e] at hh
    rcases q with q | q | q
    · exact hh.map.ne h1 q
    · exact (h5 u (by simp [hu]) b e).2 q
    · exact row_map h3 hh.map q
  · simp [Value.ownBlock] at e
    rw [← e]
    exact k3
theorem setB_ne (s v : ByteArray) : ∀ l : Bs, setB l s v ≠ []
  | [] => by simp [setB]
  | p :: l => by unfold setB; split <;> simp
theorem binds_nn (ats : Bs) : ∀ (l : Bs) (h : Hs), (h ≠ [] → l ≠ []) → (ats.foldl bstep (l, h)).2 ≠ [] → (ats.foldl bstep (l, h)).1 ≠ [] := by
  induction ats with
  | nil => intro l h hh; exact hh
  | cons a ats ih =>
    intro l h hh
    rw [List.foldl_cons]
    have : bstep (l, h) a = (l, h) ∨ ∃ s v q, bstep (l, h) a = (setB l s v, h ++ [q]) := by
      unfold bstep
      split
      · exact .inl rfl
      · split
        · exact .inl rfl
        · split
          · exact .inl rfl
          · exact .inr ⟨_, _, _, rfl⟩
    rcases this with e | ⟨s, v, q, e⟩
    · rw [e]; exact ih l h hh
    · rw [e]; exact ih _ _ (fun _ => setB_ne s v l)
end Go.Proofs.Ytgidbmiahckleaa
