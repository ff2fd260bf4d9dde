/- Sets of letters: plain. A set is ranges that rise and lie apart. -/
import Derived.Below
namespace Go.Proofs.Ythlkbijpphdblaa
set_option linter.unusedVariables false

abbrev Rg := Int × Int
abbrev MX : Int := 1114111
def inR (r : Rg) (x : Int) : Bool := decide (r.1 ≤ x) && decide (x ≤ r.2)
def memB (l : List Rg) (x : Int) : Bool := l.any fun r => inR r x
theorem inR_iff {r : Rg} {x : Int} : inR r x = true ↔ r.1 ≤ x ∧ x ≤ r.2 := by simp [inR]
theorem mem_iff {l : List Rg} {x : Int} : memB l x = true ↔ ∃ r ∈ l, r.1 ≤ x ∧ x ≤ r.2 := by
  unfold memB
  rw [List.any_eq_true]
  simp only [inR_iff]
theorem mem_cons (r : Rg) (l : List Rg) (x : Int) : memB (r :: l) x = (inR r x || memB l x) := by simp [memB]
theorem mem_nil (x : Int) : memB [] x = false := rfl
theorem mem_app (a b : List Rg) (x : Int) : memB (a ++ b) x = (memB a x || memB b x) := by simp [memB]
structure Cn (l : List Rg) : Prop where
  pw : l.Pairwise fun a b => a.2 + 2 ≤ b.1
  ok : ∀ r ∈ l, 0 ≤ r.1 ∧ r.1 ≤ r.2 ∧ r.2 ≤ MX
theorem Cn.nil : Cn [] := ⟨.nil, by simp⟩
theorem Cn.tail {r : Rg} {l : List Rg} (h : Cn (r :: l)) : Cn l := ⟨(List.pairwise_cons.1 h.pw).2, fun x hx => h.ok x (by simp [hx])⟩
theorem Cn.head {r : Rg} {l : List Rg} (h : Cn (r :: l)) : (∀ x ∈ l, r.2 + 2 ≤ x.1) ∧ 0 ≤ r.1 ∧ r.1 ≤ r.2 ∧ r.2 ≤ MX := ⟨(List.pairwise_cons.1 h.pw).1, h.ok r (by simp)⟩
theorem Cn.cons {r : Rg} {l : List Rg} (h1 : ∀ x ∈ l, r.2 + 2 ≤ x.1) (h2 : 0 ≤ r.1 ∧ r.1 ≤ r.2 ∧ r.2 ≤ MX) (h : Cn l) : Cn (r :: l) := ⟨List.pairwise_cons.2 ⟨h1, h.pw⟩, fun x hx => by
  rcases List.mem_cons.1 hx with rfl | hx
  · exact h2
  · exact h.ok x hx⟩
theorem Cn.one {r : Rg} (h2 : 0 ≤ r.1 ∧ r.1 ≤ r.2 ∧ r.2 ≤ MX) : Cn [r] := Cn.cons (by simp) h2 Cn.nil
theorem mem_lo {l : List Rg} {x b : Int} (h : ∀ r ∈ l, b ≤ r.1) (hx : memB l x = true) : b ≤ x := by
  obtain ⟨r, hr, h1, _⟩ := mem_iff.1 hx
  have := h r hr
  omega
theorem Cn.in {l : List Rg} (h : Cn l) {x : Int} (hx : memB l x = true) : 0 ≤ x ∧ x ≤ MX := by
  obtain ⟨r, hr, h1, h2⟩ := mem_iff.1 hx
  have := h.ok r hr
  omega
/-- There is one row of them for the same letters. -/
theorem cn_ext : ∀ (a b : List Rg), Cn a → Cn b → (∀ x, memB a x = memB b x) → a = b
  | [], [], _, _, _ => rfl
  | [], s :: b, _, hb, h => by
    have := h s.1
    rw [mem_cons, mem_nil] at this
    have h1 : inR s s.1 = true := inR_iff.2 ⟨by omega, hb.head.2.2.1⟩
    rw [h1] at this
    simp at this
  | r :: a, [], ha, _, h => by
    have := h r.1
    rw [mem_cons, mem_nil] at this
    have h1 : inR r r.1 = true := inR_iff.2 ⟨by omega, ha.head.2.2.1⟩
    rw [h1] at this
    simp at this
  | r :: a, s :: b, ha, hb, h => by
    obtain ⟨a1, a2, a3, a4⟩ := ha.head
    obtain ⟨b1, b2, b3, b4⟩ := hb.head
    have lo : ∀ {r : Rg} {l : List Rg}, (∀ x ∈ l, r.2 + 2 ≤ x.1) → r.1 ≤ r.2 → ∀ x, memB (r :: l) x = true → r.1 ≤ x := fun h1 h2 x hx => by
      rw [mem_cons, Bool.or_eq_true, inR_iff] at hx
      rcases hx with q | q
      · exact q.1
      · have := mem_lo h1 q; omega
    have self : ∀ {r : Rg} {l : List Rg} {x : Int}, r.1 ≤ x → x ≤ r.2 → memB (r :: l) x = true := fun h1 h2 => by rw [mem_cons, inR_iff.2 ⟨h1, h2⟩]; rfl
    have out : ∀ {r : Rg} {l : List Rg}, (∀ x ∈ l, r.2 + 2 ≤ x.1) → memB (r :: l) (r.2 + 1) = false := fun h1 => by
      rw [mem_cons, Bool.or_eq_false_iff]
      refine ⟨by simp [inR]; omega, ?_⟩
      cases e : memB _ _ with
      | false => rfl
      | true => have := mem_lo h1 e; omega
    have e1 : r.1 = s.1 := by
      have q1 := lo b1 b3 r.1 (by rw [← h]; exact self (by omega) a3)
      have q2 := lo a1 a3 s.1 (by rw [h]; exact self (by omega) b3)
      omega
    have e2 : r.2 = s.2 := by
      by_cases c : r.2 < s.2
      · have q := out a1
        rw [h, self (by omega) (by omega)] at q
        cases q
      · by_cases c' : s.2 < r.2
        · have q := out b1
          rw [← h, self (by omega) (by omega)] at q
          cases q
        · omega
    have er : r = s := Prod.ext e1 e2
    subst er
    rw [cn_ext a b ha.tail hb.tail (fun x => by
      have hx := h x
      rw [mem_cons, mem_cons] at hx
      cases hi : inR r x with
      | false => rw [hi] at hx; simpa using hx
      | true =>
        have hq := inR_iff.1 hi
        have f1 : memB a x = false := by
          cases e : memB a x with
          | false => rfl
          | true => have := mem_lo a1 e; omega
        have f2 : memB b x = false := by
          cases e : memB b x with
          | false => rfl
          | true => have := mem_lo b1 e; omega
        rw [f1, f2])]
/-! The program's Of: cut, sorted, joined. -/
def cl (r : Rg) : Rg := (max r.1 0, min r.2 MX)
def cut (l : List Rg) : List Rg := (l.map cl).filter fun r => decide (r.1 ≤ r.2)
theorem mem_cut : ∀ (l : List Rg) (x : Int), memB (cut l) x = (memB l x && decide (0 ≤ x ∧ x ≤ MX))
  | [], x => rfl
  | r :: l, x => by
    have ih := mem_cut l x
    have e : cut (r :: l) = if (cl r).1 ≤ (cl r).2 then cl r :: cut l else cut l := by
      unfold cut
      rw [List.map_cons, List.filter_cons]
      simp only [decide_eq_true_eq]
    have hc : inR (cl r) x = (inR r x && decide (0 ≤ x ∧ x ≤ MX)) := by
      rw [Bool.eq_iff_iff, Bool.and_eq_true, inR_iff, inR_iff, decide_eq_true_eq]
      unfold cl
      simp only []
      omega
    rw [e, mem_cons]
    split
    · rw [mem_cons, ih, hc]
      cases inR r x <;> cases memB l x <;> simp
    · rename_i h
      have : inR (cl r) x = false := by
        cases e : inR (cl r) x with
        | false => rfl
        | true => have := inR_iff.1 e; omega
      rw [this] at hc
      rw [ih]
      cases h1 : inR r x with
      | false => simp
      | true => rw [h1, Bool.true_and] at hc; simp [← hc]
theorem cut_ok {l : List Rg} {r : Rg} (h : r ∈ cut l) : 0 ≤ r.1 ∧ r.1 ≤ r.2 ∧ r.2 ≤ MX := by
  unfold cut at h
  rw [List.mem_filter, List.mem_map] at h
  obtain ⟨⟨q, _, rfl⟩, h2⟩ := h
  have := of_decide_eq_true h2
  unfold cl at *
  simp only [] at *
  omega
theorem cut_len (l : List Rg) : (cut l).length ≤ l.length := by
  unfold cut
  have := List.length_filter_le (fun r : Rg => decide (r.1 ≤ r.2)) (l.map cl)
  simpa using this
/-- With one more, that begins no earlier. -/
def wthL (s : List Rg) (r : Rg) : List Rg := match s.getLast? with
  | none => [r]
  | some q => if q.2 + 1 < r.1 then s ++ [r] else s.dropLast ++ [(q.1, max q.2 r.2)]
theorem wth_nil (r : Rg) : wthL [] r = [r] := rfl
theorem wth_snoc (t : List Rg) (q r : Rg) : wthL (t ++ [q]) r = if q.2 + 1 < r.1 then t ++ [q] ++ [r] else t ++ [(q.1, max q.2 r.2)] := by
  unfold wthL
  rw [List.getLast?_concat, List.dropLast_concat]
theorem snoc_cases (s : List Rg) : s = [] ∨ ∃ t q, s = t ++ [q] := by
  rcases List.eq_nil_or_concat s with h | ⟨t, q, h⟩
  · exact .inl h
  · exact .inr ⟨t, q, by rw [h]; simp⟩
theorem wth_ok {s : List Rg} {r : Rg} (h : Cn s) (hr : 0 ≤ r.1 ∧ r.1 ≤ r.2 ∧ r.2 ≤ MX) (hs : ∀ q ∈ s, q.1 ≤ r.1) : Cn (wthL s r) ∧ (∀ x, memB (wthL s r) x = (memB s x || inR r x)) ∧ (∀ q ∈ wthL s r, q.1 ≤ r.1) := by
  rcases snoc_cases s with rfl | ⟨t, q, rfl⟩
  · rw [wth_nil]
    exact ⟨Cn.one hr, fun x => by rw [mem_cons, mem_nil]; simp, by simp⟩
  · rw [wth_snoc]
    have hq := h.ok q (by simp)
    have hqs := hs q (by simp)
    have hpw := List.pairwise_append.1 h.pw
    have htq : ∀ p ∈ t, p.2 + 2 ≤ q.1 := fun p hp => hpw.2.2 p hp q (by simp)
    split
    · rename_i hlt
      refine ⟨⟨List.pairwise_append.2 ⟨h.pw, by simp, fun a ha b hb => ?_⟩, fun p hp => ?_⟩, fun x => ?_, fun p hp => ?_⟩
      · rw [List.mem_singleton] at hb
        subst hb
        rcases List.mem_append.1 ha with ha | ha
        · have := htq a ha; omega
        · rw [List.mem_singleton] at ha; subst ha; omega
      · rcases List.mem_append.1 hp with hp | hp
        · exact h.ok p hp
        · rw [List.mem_singleton] at hp; subst hp; exact hr
      · rw [mem_app, mem_cons r, mem_nil]; simp
      · rcases List.mem_append.1 hp with hp | hp
        · exact hs p hp
        · rw [List.mem_singleton] at hp; subst hp; omega
    · rename_i hlt
      refine ⟨⟨List.pairwise_append.2 ⟨hpw.1, by simp, fun a ha b hb => ?_⟩, fun p hp => ?_⟩, fun x => ?_, fun p hp => ?_⟩
      · rw [List.mem_singleton] at hb
        subst hb
        exact htq a ha
      · rcases List.mem_append.1 hp with hp | hp
        · exact h.ok p (by simp [hp])
        · rw [List.mem_singleton] at hp; subst hp; simp only []; omega
      · rw [mem_app, mem_app, mem_cons, mem_cons, mem_nil, Bool.or_assoc]
        congr 1
        rw [Bool.eq_iff_iff]
        simp only [Bool.or_eq_true, inR_iff, Bool.or_false]
        omega
      · rcases List.mem_append.1 hp with hp | hp
        · exact hs p (by simp [hp])
        · rw [List.mem_singleton] at hp; subst hp; exact hqs
def joinL (l : List Rg) : List Rg := l.foldl wthL []
theorem join_ok {l : List Rg} (hs : l.Pairwise fun a b => a.1 ≤ b.1) (hk : ∀ r ∈ l, 0 ≤ r.1 ∧ r.1 ≤ r.2 ∧ r.2 ≤ MX) : Cn (joinL l) ∧ ∀ x, memB (joinL l) x = memB l x := by
  have key : ∀ (l s : List Rg), l.Pairwise (fun a b => a.1 ≤ b.1) → (∀ r ∈ l, 0 ≤ r.1 ∧ r.1 ≤ r.2 ∧ r.2 ≤ MX) → Cn s → (∀ q ∈ s, ∀ r ∈ l, q.1 ≤ r.1) → Cn (l.foldl wthL s) ∧ ∀ x, memB (l.foldl wthL s) x = (memB s x || memB l x) := by
    intro l
    induction l with
    | nil => intro s _ _ h _; exact ⟨h, fun x => by rw [mem_nil]; simp⟩
    | cons r l ih =>
      intro s hp hk h hq
      obtain ⟨h1, h2, h3⟩ := wth_ok h (hk r (by simp)) (fun q hq' => hq q hq' r (by simp))
      obtain ⟨p1, p2⟩ := List.pairwise_cons.1 hp
      obtain ⟨i1, i2⟩ := ih (wthL s r) p2 (fun x hx => hk x (by simp [hx])) h1 (fun q hq' y hy => Int.le_trans (h3 q hq') (p1 y hy))
      refine ⟨i1, fun x => ?_⟩
      rw [List.foldl_cons, i2, h2, mem_cons, Bool.or_assoc]
  obtain ⟨a, b⟩ := key l [] hs hk Cn.nil (by simp)
  exact ⟨a, fun x => by unfold joinL; rw [b, mem_nil]; simp⟩
theorem mem_perm {a b : List Rg} (h : a.Perm b) (x : Int) : memB a x = memB b x := by
  rw [Bool.eq_iff_iff, mem_iff, mem_iff]
  constructor
  · rintro ⟨r, hr, q⟩; exact ⟨r, h.mem_iff.1 hr, q⟩
  · rintro ⟨r, hr, q⟩; exact ⟨r, h.mem_iff.2 hr, q⟩
/-- What Of tells: the set of the letters of l. -/
structure OfS (l s : List Rg) : Prop where
  cn : Cn s
  mem : ∀ x, memB s x = (memB l x && decide (0 ≤ x ∧ x ≤ MX))
theorem of_sorted {l l' : List Rg} (hp : l'.Perm (cut l)) (hs : l'.Pairwise fun a b => a.1 ≤ b.1) : OfS l (joinL l') := by
  obtain ⟨a, b⟩ := join_ok hs (fun r hr => cut_ok (hp.mem_iff.1 hr))
  exact ⟨a, fun x => by rw [b, mem_perm hp, mem_cut]⟩
theorem OfS.eq {l l' s s' : List Rg} (h : OfS l s) (h' : OfS l' s') (hm : ∀ x, 0 ≤ x → x ≤ MX → memB l x = memB l' x) : s = s' :=
  cn_ext s s' h.cn h'.cn (fun x => by
    rw [h.mem, h'.mem]
    by_cases c : 0 ≤ x ∧ x ≤ MX
    · rw [hm x c.1 c.2]
    · simp [decide_eq_false c])
theorem OfS.self {s : List Rg} (h : Cn s) : OfS s s := ⟨h, fun x => by
  cases e : memB s x with
  | false => rfl
  | true => rw [decide_eq_true (h.in e)]; rfl⟩
end Go.Proofs.Ythlkbijpphdblaa
