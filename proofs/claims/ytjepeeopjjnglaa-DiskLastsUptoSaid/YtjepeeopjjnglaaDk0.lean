/-
  Package disk, pure: names with the blocks of their files, rising; what a map of them reads as; putting, taking away.
-/
import Derived.Maps.OwnSet
import Derived.Maps.Ext
namespace Go.Proofs.Ytjepeeopjjnglaa
open Go Go.RowKit Go.ChangeShapes
namespace Dk

/-! the order of names -/
theorem bb_irrefl : ∀ a : List UInt8, bytesBefore a a = false
  | [] => rfl
  | x :: r => by
    rw [bytesBefore, bb_irrefl r]
    simp
theorem bb_trans : ∀ a b c : List UInt8, bytesBefore a b = true → bytesBefore b c = true → bytesBefore a c = true
  | [], [], c, h, _ => by cases h
  | [], _ :: _, [], _, h => by cases h
  | [], _ :: _, _ :: _, _, _ => rfl
  | _ :: _, [], c, h, _ => by cases h
  | _ :: _, _ :: _, [], _, h => by cases h
  | x :: r, y :: s, z :: t, h1, h2 => by
    rw [bytesBefore] at h1 h2 ⊢
    simp only [Bool.or_eq_true, decide_eq_true_eq, Bool.and_eq_true, beq_iff_eq] at h1 h2 ⊢
    rcases h1 with h1 | ⟨rfl, h1⟩
    · rcases h2 with h2 | ⟨rfl, h2⟩
      · exact .inl (UInt8.lt_trans h1 h2)
      · exact .inl h1
    · rcases h2 with h2 | ⟨rfl, h2⟩
      · exact .inl h2
      · exact .inr ⟨rfl, bb_trans r s t h1 h2⟩
theorem bb_total : ∀ a b : List UInt8, bytesBefore a b = false → bytesBefore b a = false → a = b
  | [], [], _, _ => rfl
  | [], _ :: _, h, _ => by cases h
  | _ :: _, [], _, h => by cases h
  | x :: r, y :: s, h1, h2 => by
    rw [bytesBefore] at h1 h2
    simp only [Bool.or_eq_false_iff, decide_eq_false_iff_not] at h1 h2
    have e : x = y := UInt8.le_antisymm (UInt8.not_lt.1 h2.1) (UInt8.not_lt.1 h1.1)
    subst e
    simp only [beq_self_eq_true, Bool.true_and] at h1 h2
    rw [bb_total r s h1.2 h2.2]

abbrev Nm := List (List UInt8 × Nat)
def en (p : List UInt8 × Nat) : Lit × DataW Unit := (.string p.1, .lit (.int .i64 (p.2 : Int)))
def dm (l : Nm) : DataW Unit := .map (l.map en)
def get (l : Nm) (s : List UInt8) : Option Nat := (l.find? (fun p => p.1 == s)).map (·.2)
def del (l : Nm) (s : List UInt8) : Nm := l.filter (fun p => !(p.1 == s))
def ins (x : List UInt8 × Nat) : Nm → Nm
  | [] => [x]
  | y :: r => if bytesBefore x.1 y.1 then x :: y :: r else y :: ins x r
def put (l : Nm) (s : List UInt8) (f : Nat) : Nm := ins (s, f) (del l s)
def rising (l : Nm) : Prop := l.Pairwise (fun p q => bytesBefore p.1 q.1 = true)
theorem same_en (p : List UInt8 × Nat) (s : List UInt8) : (en p).1.sameKey (.string s) = (p.1 == s) := rfl
theorem filter_en (l : Nm) (s : List UInt8) : (l.map en).filter (fun p => !p.1.sameKey (.string s)) = (del l s).map en := by
  unfold del
  rw [List.filter_map]
  rfl
theorem ins_en (x : List UInt8 × Nat) : ∀ l : Nm, DataW.insert (en x) (l.map en) = (ins x l).map en
  | [] => rfl
  | y :: r => by
    rw [List.map_cons, DataW.insert, ins, ins_en x r]
    show (if bytesBefore x.1 y.1 = true then _ else _) = _
    by_cases h : bytesBefore x.1 y.1 = true
    · rw [if_pos h, if_pos h]
      rfl
    · rw [if_neg h, if_neg h]
      rfl
theorem dm_put (l : Nm) (s : List UInt8) (f : Nat) : (dm l).put (.string s) (.lit (.int .i64 (f : Int))) = dm (put l s f) := by
  show DataW.map (DataW.insert (en (s, f)) _) = _
  rw [filter_en, ins_en]
  rfl
theorem dm_del (l : Nm) (s : List UInt8) : (dm l).del (.string s) = dm (del l s) := by
  show DataW.map _ = _
  rw [filter_en]
  rfl
theorem find_en (l : Nm) (s : List UInt8) : (l.map en).find? (fun p => p.1.sameKey (.string s)) = (l.find? (fun p => p.1 == s)).map en := by
  induction l with
  | nil => rfl
  | cons p r ih =>
    rw [List.map_cons, List.find?_cons, List.find?_cons, same_en, ih]
    cases p.1 == s <;> rfl
theorem dm_at (l : Nm) (s : List UInt8) (z : DataW Unit) : (dm l).atKey (.string s) z = match get l s with | some f => .lit (.int .i64 (f : Int)) | none => z := by
  unfold dm DataW.atKey get
  dsimp only
  rw [find_en]
  cases l.find? (fun p => p.1 == s) <;> rfl
theorem dm_has (l : Nm) (s : List UInt8) : Maps.has (dm l) (.string s) = (get l s).isSome := by
  unfold dm get
  rw [Maps.has_eq]
  induction l with
  | nil => rfl
  | cons p r ih =>
    rw [List.map_cons, List.any_cons, List.find?_cons, same_en, ih]
    cases p.1 == s <;> simp
theorem dm_size (l : Nm) : Maps.size (dm l) = l.length := by
  unfold dm
  rw [Maps.size_eq, List.length_map]
theorem en_inj {p q : List UInt8 × Nat} (h : en p = en q) : p = q := by
  unfold en at h
  simp only [Prod.mk.injEq, Lit.string.injEq, DataW.lit.injEq, Lit.int.injEq, true_and, Int.ofNat_inj] at h
  exact Prod.ext h.1 h.2
theorem dm_inj {l l' : Nm} (h : dm l = dm l') : l = l' := by
  unfold dm at h
  simp only [DataW.map.injEq] at h
  exact (List.map_inj_right (fun _ _ => en_inj)).1 h
/-! what stands at a name -/
theorem get_nil (s : List UInt8) : get [] s = none := rfl
theorem get_cons (p : List UInt8 × Nat) (r : Nm) (s : List UInt8) : get (p :: r) s = if p.1 = s then some p.2 else get r s := by
  unfold get
  rw [List.find?_cons]
  by_cases h : p.1 = s
  · simp [h]
  · have e : (p.1 == s) = false := by simp [h]
    rw [e, if_neg h]
theorem get_del (l : Nm) (s t : List UInt8) : get (del l s) t = if t = s then none else get l t := by
  induction l with
  | nil => simp [del, get_nil]
  | cons p r ih =>
    unfold del at ih ⊢
    rw [List.filter_cons]
    by_cases h : p.1 = s
    · have e : (!(p.1 == s)) = false := by simp [h]
      rw [e, if_neg (by simp), ih, get_cons]
      by_cases h2 : t = s
      · rw [if_pos h2, if_pos h2]
      · rw [if_neg h2, if_neg h2, if_neg (by rw [h]; exact fun e => h2 e.symm)]
    · have e : (!(p.1 == s)) = true := by simp [h]
      rw [e, if_pos rfl, get_cons, get_cons, ih]
      by_cases h2 : p.1 = t
      · rw [if_pos h2, if_neg (by rw [← h2]; exact h), if_pos h2]
      · rw [if_neg h2, if_neg h2]
theorem get_ins (s : List UInt8) (f : Nat) (t : List UInt8) : ∀ l : Nm, get l s = none → get (ins (s, f) l) t = if t = s then some f else get l t
  | [], _ => by
    rw [ins, get_cons, get_nil]
    by_cases h : t = s
    · rw [if_pos h, if_pos h.symm]
    · rw [if_neg h, if_neg (fun e => h e.symm)]
  | y :: r, h => by
    rw [get_cons] at h
    have hy : y.1 ≠ s := fun e => by
      rw [if_pos e] at h
      cases h
    rw [if_neg hy] at h
    rw [ins]
    by_cases hb : bytesBefore s y.1 = true
    · rw [if_pos hb, get_cons]
      by_cases h2 : t = s
      · rw [if_pos h2, if_pos h2.symm]
      · rw [if_neg h2, if_neg (fun e => h2 e.symm)]
    · rw [if_neg hb, get_cons, get_cons, get_ins s f t r h]
      by_cases h2 : y.1 = t
      · rw [if_pos h2, if_pos h2, if_neg (by rw [← h2]; exact hy)]
      · rw [if_neg h2, if_neg h2]
theorem get_put (l : Nm) (s : List UInt8) (f : Nat) (t : List UInt8) : get (put l s f) t = if t = s then some f else get l t := by
  unfold put
  rw [get_ins s f t (del l s) (by rw [get_del, if_pos rfl]), get_del]
  by_cases h : t = s
  · rw [if_pos h, if_pos h]
  · rw [if_neg h, if_neg h, if_neg h]
theorem mem_del {l : Nm} {s : List UInt8} {p : List UInt8 × Nat} : p ∈ del l s ↔ p ∈ l ∧ p.1 ≠ s := by
  unfold del
  rw [List.mem_filter]
  simp
theorem mem_ins {x p : List UInt8 × Nat} : ∀ {l : Nm}, p ∈ ins x l ↔ p = x ∨ p ∈ l
  | [] => by simp [ins]
  | y :: r => by
    rw [ins]
    by_cases hb : bytesBefore x.1 y.1 = true
    · rw [if_pos hb, List.mem_cons]
    · rw [if_neg hb, List.mem_cons, mem_ins, List.mem_cons]
      constructor
      · rintro (h | h | h)
        · exact .inr (.inl h)
        · exact .inl h
        · exact .inr (.inr h)
      · rintro (h | h | h)
        · exact .inr (.inl h)
        · exact .inl h
        · exact .inr (.inr h)
theorem mem_put {l : Nm} {s : List UInt8} {f : Nat} {p : List UInt8 × Nat} : p ∈ put l s f ↔ p = (s, f) ∨ (p ∈ l ∧ p.1 ≠ s) := by
  unfold put
  rw [mem_ins, mem_del]
theorem rising_del {l : Nm} (h : rising l) (s : List UInt8) : rising (del l s) := List.Pairwise.filter _ h
theorem rising_ins (x : List UInt8 × Nat) : ∀ {l : Nm}, rising l → (∀ p ∈ l, p.1 ≠ x.1) → rising (ins x l)
  | [], _, _ => List.pairwise_singleton _ _
  | y :: r, h, hx => by
    unfold rising at h
    rw [List.pairwise_cons] at h
    rw [ins]
    by_cases hb : bytesBefore x.1 y.1 = true
    · rw [if_pos hb]
      unfold rising
      rw [List.pairwise_cons, List.pairwise_cons]
      refine ⟨fun p hp => ?_, h⟩
      rcases List.mem_cons.1 hp with rfl | e
      · exact hb
      · exact bb_trans _ _ _ hb (h.1 p e)
    · rw [if_neg hb]
      unfold rising
      rw [List.pairwise_cons]
      refine ⟨fun p hp => ?_, rising_ins x h.2 fun p hp => hx p (List.mem_cons_of_mem _ hp)⟩
      rcases mem_ins.1 hp with rfl | e
      · cases h9 : bytesBefore y.1 p.1 with
        | true => rfl
        | false => exact absurd (bb_total _ _ h9 (by simpa using hb)) (hx y (List.mem_cons_self ..))
      · exact h.1 p e
theorem rising_put {l : Nm} (h : rising l) (s : List UInt8) (f : Nat) : rising (put l s f) := rising_ins _ (rising_del h s) fun _ hp => (mem_del.1 hp).2
theorem get_mem {l : Nm} {s : List UInt8} {f : Nat} (h : get l s = some f) : (s, f) ∈ l := by
  unfold get at h
  cases hf : l.find? (fun p => p.1 == s) with
  | none =>
    rw [hf] at h
    cases h
  | some p =>
    rw [hf] at h
    have h1 := List.mem_of_find?_eq_some hf
    have h2 : p.1 = s := by simpa using List.find?_some hf
    have h3 : p.2 = f := by simpa using h
    rw [← h2, ← h3]
    exact h1
theorem mem_get {l : Nm} (h : rising l) {s : List UInt8} {f : Nat} (hm : (s, f) ∈ l) : get l s = some f := by
  induction l with
  | nil => cases hm
  | cons p r ih =>
    unfold rising at h
    rw [List.pairwise_cons] at h
    rw [get_cons]
    rcases List.mem_cons.1 hm with e | e
    · rw [← e, if_pos rfl]
    · rw [if_neg (fun e2 => ?_)]
      · exact ih h.2 e
      · have := h.1 _ e
        rw [e2, bb_irrefl] at this
        cases this
theorem len_ins (x : List UInt8 × Nat) : ∀ l : Nm, (ins x l).length = l.length + 1
  | [] => rfl
  | y :: r => by
    rw [ins]
    by_cases hb : bytesBefore x.1 y.1 = true
    · rw [if_pos hb]
      rfl
    · rw [if_neg hb, List.length_cons, len_ins x r]
      rfl
theorem len_put (l : Nm) (s : List UInt8) (f : Nat) : (put l s f).length ≤ l.length + 1 := by
  unfold put del
  rw [len_ins]
  have := List.length_filter_le (fun p : List UInt8 × Nat => !(p.1 == s)) l
  omega
theorem len_del (l : Nm) (s : List UInt8) : (del l s).length ≤ l.length := List.length_filter_le _ _
end Dk
end Go.Proofs.Ytjepeeopjjnglaa
