/- A scope with its stack: what Open and Close leave, as functions. -/
import Derived.Test.YtgidbmiahckleaaPl
import Derived.Test.YtgidbmiahckleaaSrtM
namespace Go.Proofs.Ytgidbmiahckleaa
open Go.RowKit
set_option linter.unusedVariables false

/-- A scope: what is bound, what is hidden (the innermost first), sound. -/
structure SS (O : Nat → Prop) (w : World) (P : Nat) (l : Bs) (stk : List Hs) : Prop where
  sc : SC O w P l stk.reverse
  nk : NK l
  gd : Good (spc l) stk
theorem SS.below {O : Nat → Prop} {w w' : World} {P : Nat} {l : Bs} {stk : List Hs} (h : SS O w P l stk) (hb : Below w.heap.size w w') : SS O w' P l stk := ⟨h.sc.below hb, h.nk, h.gd⟩
theorem SS.fro {O O' : Nat → Prop} {w w' : World} {P : Nat} {l : Bs} {stk : List Hs} (h : SS O w P l stk) (hf : Fro O' w w') (hd : ∀ k, O k → ¬ O' k) : SS O w' P l stk := ⟨h.sc.fro hf hd, h.nk, h.gd⟩
theorem new_ss (w : World) : SS (fun k => k = w.heap.size) (w.alloc (.cells #[.map none, .slice none 0 0] 81)) w.heap.size [] [] := ⟨new_sc w, by simp [NK], trivial⟩
theorem fun_eq {l l' : Bs} (h : ∀ s, spc l s = spc l' s) : spc l = spc l' := funext h
/-- The state behind an Open: as it was, or with an element more. -/
def Nxt (l : Bs) (stk : List Hs) (l' : Bs) (stk' : List Hs) : Prop := (stk' = stk ∧ spc l' = spc l) ∨ ∃ h, stk' = h :: stk ∧ rst (spc l') h = spc l
theorem open_any {O : Nat → Prop} {w : World} {P : Nat} {l : Bs} {stk : List Hs} (hS : SS O w P l stk) (k pl : Int) (nm tx : ByteArray) (hz : nm.size ≤ maxLen) {a : Option Addr} {cap : Nat} {ats : Ats} (hA : AtO w a ats) (hcap : a = none → cap = 0) (hg : ats ≠ [] → ∀ g off, a = some ⟨g, off, none⟩ → ¬ O g) (hn : stk.length ≤ 1000000) (hcnt : ats.length ≤ 1000000) :
    Calls Try.prog 12 #[.pointer (some ⟨P, 0, none⟩), evV k pl nm tx a ats.length cap] w fun e w' => (∃ v, e = .returned v) ∧ Fro O w w' ∧ ∃ O' l' stk', (∀ k, O' k → O k ∨ w.heap.size ≤ k) ∧ SS O' w' P l' stk' ∧ Nxt l stk l' stk' ∧ l'.length ≤ l.length + ats.length := by
  have hbg := binds_g hS.nk (ps ats)
  have hpl : (ps ats).length = ats.length := by simp [ps]
  rw [hpl] at hbg
  refine Calls.mono (open_s hS.sc k pl nm tx hz hA hcap hg (by rw [List.length_reverse]; exact hn) hcnt) ?_
  rintro e w' ⟨hf, O', hO, hm⟩
  cases ho : opS l nm pl ats with
  | error x =>
    rw [ho] at hm
    obtain ⟨rfl, l', hba, hsc⟩ := hm
    have hl : NK l' ∧ spc l' = spc l := by
      rcases hba with rfl | ⟨h', hp, rfl⟩
      · exact ⟨hS.nk, rfl⟩
      · obtain ⟨q1, q2⟩ := back_perm hbg.1.nl hbg.1.nh hp
        exact ⟨q1, funext fun s => (q2 s).trans (hbg.1.rs s)⟩
    refine ⟨⟨_, rfl⟩, hf, O', l', stk, hO, ⟨hsc, hl.1, by rw [hl.2]; exact hS.gd⟩, .inl ⟨rfl, hl.2⟩, ?_⟩
    have := (perm_of hl.1 hS.nk (fun s => by rw [hl.2])).length_eq
    omega
  | ok x =>
    rw [ho] at hm
    obtain ⟨sv, rfl, hsc, _, _⟩ := hm
    refine ⟨⟨_, rfl⟩, hf, O', _, (binds l (ps ats)).2 :: stk, hO, ⟨by rw [List.reverse_cons]; exact hsc, hbg.1.nl, ⟨hbg.1.nh, hbg.1.bd, ?_⟩⟩, .inr ⟨_, rfl, funext hbg.1.rs⟩, hbg.2⟩
    have e : rst (spc (binds l (ps ats)).1) (binds l (ps ats)).2 = spc l := funext hbg.1.rs
    rw [e]
    exact hS.gd
theorem close_any {O : Nat → Prop} {w : World} {P : Nat} {l : Bs} {h : Hs} {stk : List Hs} (hS : SS O w P l (h :: stk)) (hn : stk.length ≤ 1000000) :
    Calls Try.prog 10 #[.pointer (some ⟨P, 0, none⟩)] w fun e w' => e = .returned (.bool true) ∧ Fro O w w' ∧ ∃ l', SS O w' P l' stk ∧ spc l' = rst (spc l) h := by
  have hsc := hS.sc
  rw [List.reverse_cons] at hsc
  refine Calls.mono (close_sc hsc (nonnil hS.gd.2.1) (by rw [List.length_reverse]; exact hn)) ?_
  rintro e w' ⟨rfl, h', hp, h1, h2⟩
  obtain ⟨q1, q2⟩ := back_perm hS.nk hS.gd.1 hp
  have e : spc (back l h') = rst (spc l) h := funext q2
  exact ⟨rfl, h2, _, ⟨h1, q1, by rw [e]; exact hS.gd.2.2⟩, e⟩
theorem space_eq {l l' : Bs} (h : spc l = spc l') (s : ByteArray) : spaceS l s = spaceS l' s := by unfold spaceS; rw [h]
theorem res_eq {l l' : Bs} (h : spc l = spc l') (s : ByteArray) : resS l s = resS l' s := by unfold resS; rw [space_eq h]
/-- Two rows of the same, both rising, no prefix twice: one row. -/
theorem srt_uniq : ∀ {a b : Bs}, NK a → a.Perm b → Srt a → Srt b → a = b
  | [], b, _, hp, _, _ => (List.nil_perm.1 hp).symm
  | x :: a, [], _, hp, _, _ => absurd hp.length_eq (by simp)
  | x :: a, y :: b, hn, hp, ha, hb => by
    unfold Srt at ha hb
    rw [List.pairwise_cons] at ha hb
    have hn' : NK (y :: b) := (hp.map _).nodup_iff.1 hn
    have hxy : x = y := by
      have hx : x ∈ y :: b := hp.mem_iff.1 (by simp)
      have hy : y ∈ x :: a := hp.mem_iff.2 (by simp)
      rw [List.mem_cons] at hx hy
      rcases hx with hx | hx
      · exact hx
      · rcases hy with hy | hy
        · exact hy.symm
        · have h1 := ha.1 y hy
          have h2 := hb.1 x hx
          have h3 := cmp_neg x.1.data.toList y.1.data.toList
          have h4 : Lib.compareBytes x.1.data.toList y.1.data.toList = 0 := by omega
          have h5 : x.1 = y.1 := by
            have := cmp_zero _ _ h4
            exact ByteArray.ext (Array.toList_inj.1 this)
          exfalso
          unfold NK at hn
          rw [List.map_cons, List.nodup_cons] at hn
          exact hn.1 (by rw [h5]; exact List.mem_map_of_mem hy)
    subst hxy
    have hnt : NK a := by unfold NK at *; rw [List.map_cons, List.nodup_cons] at hn; exact hn.2
    rw [srt_uniq hnt ((List.perm_cons x).1 hp) ha.2 hb.2]
end Go.Proofs.Ytgidbmiahckleaa
