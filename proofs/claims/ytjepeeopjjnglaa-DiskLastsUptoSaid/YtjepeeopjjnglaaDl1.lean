/-
  DiskLasts, pure: what the caller knows of the files.
-/
import Derived.Test.YtjepeeopjjnglaaDku
namespace Go.Proofs.Ytjepeeopjjnglaa
open Go Go.RowKit Go.ChangeShapes
namespace Dk
/-- what the caller knows of a file -/
structure Wd where
  name : List UInt8
  data : List Nat
  next : List Nat
  hasN : Bool
  sure : List Nat
  hasS : Bool
def wd0 (s : List UInt8) (d : List Nat) : Wd := ⟨s, d, [], false, [], false⟩
/-- it is so -/
structure KnW (S : DS) (x : Wd) (f : Nat) : Prop where
  get : get S.nm x.name = some f
  data : (S.fo f).data = x.data
  next : x.hasN = true → ∃ n, n ≤ (S.fo f).syn ∧ x.next = (S.fo f).data.take n
  all : x.hasS = true → ∀ j, Dk.get (pre S j) x.name = some f
  sure : x.hasS = true → ∃ n, n ≤ (S.fo f).syn ∧ x.sure = (S.fo f).data.take n
/-- of all names -/
structure Kn (S : DS) (l : List Wd) : Prop where
  cov : ∀ p ∈ S.nm, ∃ x ∈ l, x.name = p.1
  nd : (l.map (·.name)).Nodup
  kn : ∀ x ∈ l, ∃ f, KnW S x f
/-- where a name stands -/
def plc : List Wd → List UInt8 → Option Nat
  | [], _ => none
  | x :: r, s => if x.name = s then some 0 else (plc r s).map (· + 1)
theorem plc_some : ∀ {l : List Wd} {s : List UInt8} {i : Nat}, plc l s = some i → ∃ h : i < l.length, l[i].name = s
  | [], _, _, h => by cases h
  | x :: r, s, i, h => by
    unfold plc at h
    split at h
    · rename_i e
      cases h
      exact ⟨by simp, e⟩
    · obtain ⟨j, h1, h2⟩ := Option.map_eq_some_iff.1 h
      obtain ⟨h3, h4⟩ := plc_some h1
      subst h2
      exact ⟨by simpa using h3, by simpa using h4⟩
theorem plc_none : ∀ {l : List Wd} {s : List UInt8}, plc l s = none → ∀ x ∈ l, x.name ≠ s
  | [], _, _, x, hx => by cases hx
  | y :: r, s, h, x, hx => by
    unfold plc at h
    split at h
    · cases h
    · rename_i e
      rcases List.mem_cons.1 hx with e2 | e2
      · rw [e2]
        exact e
      · exact plc_none (Option.map_eq_none_iff.1 h) x e2
theorem plc_of : ∀ {l : List Wd} {s : List UInt8} {i : Nat} (h : i < l.length), l[i].name = s → (∀ j (_ : j < i) (h2 : j < l.length), l[j].name ≠ s) → plc l s = some i
  | [], _, _, h, _, _ => by simp at h
  | x :: r, s, 0, _, e, _ => by
    unfold plc
    rw [if_pos (show x.name = s from e)]
  | x :: r, s, i + 1, h, e, hn => by
    unfold plc
    rw [if_neg (show ¬ x.name = s from hn 0 (by omega) (by simp)), plc_of (l := r) (s := s) (i := i) (by simpa using h) (by simpa using e) fun j h1 h2 => by
      have h9 := hn (j + 1) (by omega) (by simpa using h2)
      simpa using h9]
    rfl
theorem plc_out : ∀ {l : List Wd} {s : List UInt8}, (∀ j (h2 : j < l.length), l[j].name ≠ s) → plc l s = none
  | [], _, _ => rfl
  | x :: r, s, hn => by
    unfold plc
    rw [if_neg (show ¬ x.name = s from hn 0 (by simp)), plc_out fun j h2 => by
      have h9 := hn (j + 1) (by simpa using h2)
      simpa using h9]
    rfl
/-- the words but that of a name -/
def lss (l : List Wd) (s : List UInt8) : List Wd := l.filter fun x => !(x.name == s)
theorem mem_lss {l : List Wd} {s : List UInt8} {x : Wd} : x ∈ lss l s ↔ x ∈ l ∧ x.name ≠ s := by
  unfold lss
  simp
theorem lss_snoc (l : List Wd) (x : Wd) (s : List UInt8) : lss (l ++ [x]) s = if x.name = s then lss l s else lss l s ++ [x] := by
  unfold lss
  rw [List.filter_append]
  by_cases e : x.name = s
  · rw [if_pos e]
    simp [e]
  · rw [if_neg e]
    simp [e]
/-- what is synced is sure from now on -/
def wsd (x : Wd) : Wd := if x.hasN = true then { x with sure := x.next, hasS := true } else x
theorem wsd_name (x : Wd) : (wsd x).name = x.name := by
  unfold wsd
  split <;> rfl
def wat (l : List Wd) (i : Nat) : Wd := l.getD i (wd0 [] [])
/-- what the caller knows behind a changing call -/
def ntd (l : List Wd) (o : Rop) : List Wd :=
  if o.k = 1 then lss l o.a.data.toList ++ [wd0 o.a.data.toList []]
  else if o.k = 5 then (match plc l o.a.data.toList with
    | none => l
    | some i => lss (lss l o.a.data.toList) o.b.data.toList ++ [wd0 o.b.data.toList (wat l i).data])
  else if o.k = 6 then lss l o.a.data.toList
  else if o.k = 7 then l.map wsd
  else match plc l o.a.data.toList with
    | none => l
    | some i => if o.k = 2 then l.set i { wat l i with data := (wat l i).data ++ o.data } else if o.k = 3 then l.set i { wat l i with next := (wat l i).data, hasN := true } else if 0 ≤ o.n ∧ o.n ≤ ((wat l i).data.length : Int) then l.set i (wd0 o.a.data.toList ((wat l i).data.take o.n.toNat)) else l
section
variable {S T : DS} {l : List Wd} {N : Nat}
theorem wat_eq {i : Nat} (h : i < l.length) : wat l i = l[i] := by
  unfold wat
  rw [List.getD_eq_getElem?_getD, List.getElem?_eq_getElem h]
  rfl
/-- the word of a name that stands -/
theorem Kn.place (h : Kn S l) {s : List UInt8} {f : Nat} (hg : get S.nm s = some f) : ∃ i, plc l s = some i ∧ ∃ hi : i < l.length, l[i].name = s ∧ KnW S l[i] f := by
  cases hp : plc l s with
  | none =>
    obtain ⟨x, hx, e⟩ := h.cov _ (get_mem hg)
    exact absurd e (plc_none hp x hx)
  | some i =>
    obtain ⟨hi, e⟩ := plc_some hp
    obtain ⟨f', k⟩ := h.kn _ (List.getElem_mem hi)
    have h9 := k.get
    rw [e, hg] at h9
    cases h9
    exact ⟨i, rfl, hi, e, k⟩
theorem get_app (c : Ch) (l : Nm) {t : List UInt8} (h1 : t ≠ c.frm) (h2 : t ≠ c.tow) : get (c.app l) t = get l t := by
  unfold Ch.app
  split
  · rw [get_del, if_neg h1]
  · rw [get_put, if_neg h2, get_del, if_neg h1]
theorem Kn.ne (h : WF S N) {x : Wd} {f : Nat} (k : KnW S x f) : x.name ≠ [] := (isNm_len (h.nm _ (get_mem k.get))).1
/-- a name changes that is another -/
theorem KnW.names {x : Wd} {f : Nat} (k : KnW S x f) (hG : WG S) {c : Ch} (h1 : T.nm = c.app S.nm) (h2 : T.ch = S.ch ++ [c]) (h3 : T.la = S.la) (h4 : T.fo f = S.fo f) (n1 : x.name ≠ c.frm) (n2 : x.name ≠ c.tow) : KnW T x f := by
  refine ⟨by rw [h1, get_app c _ n1 n2]; exact k.get, by rw [h4]; exact k.data, by rw [h4]; exact k.next, fun e j => ?_, by rw [h4]; exact k.sure⟩
  unfold pre
  rw [h2, h3, pre_snoc S c j]
  split
  · exact k.all e j
  · rw [get_app c _ n1 n2, ← hG.nmE]
    exact k.get
/-- names, and this file, are as they were -/
theorem KnW.same {x : Wd} {f : Nat} (k : KnW S x f) (h1 : T.nm = S.nm) (h2 : T.ch = S.ch) (h3 : T.la = S.la) (h4 : T.fo f = S.fo f) : KnW T x f := by
  refine ⟨by rw [h1]; exact k.get, by rw [h4]; exact k.data, by rw [h4]; exact k.next, fun e j => ?_, by rw [h4]; exact k.sure⟩
  have e9 : pre T j = pre S j := by
    unfold pre
    rw [h2, h3]
  rw [e9]
  exact k.all e j
theorem nd_lss (h : (l.map (·.name)).Nodup) (s : List UInt8) : ((lss l s).map (·.name)).Nodup := h.sublist (List.Sublist.map _ List.filter_sublist)
theorem nd_snoc (h : (l.map (·.name)).Nodup) {x : Wd} (hx : ∀ y ∈ l, y.name ≠ x.name) : ((l ++ [x]).map (·.name)).Nodup := by
  rw [List.map_append]
  refine List.nodup_append.2 ⟨h, by simp, fun a ha b hb e => ?_⟩
  obtain ⟨y, hy, rfl⟩ := List.mem_map.1 ha
  simp at hb
  exact hx y hy (by rw [e, hb])
/-- a word is written over -/
theorem set_mem (h : (l.map (·.name)).Nodup) {i : Nat} (hi : i < l.length) {w x : Wd} (hx : x ∈ l.set i w) : x = w ∨ (x ∈ l ∧ x.name ≠ l[i].name) := by
  obtain ⟨j, hj, e⟩ := List.getElem_of_mem hx
  rw [List.length_set] at hj
  by_cases e2 : i = j
  · subst e2
    rw [List.getElem_set_self] at e
    exact .inl e.symm
  · rw [List.getElem_set_ne e2] at e
    refine .inr ⟨by rw [← e]; exact List.getElem_mem hj, fun e3 => e2 ?_⟩
    have h9 := (List.getElem_inj (xs := l.map (·.name)) (i := i) (j := j) (h₀ := by simpa using hi) (h₁ := by simpa using hj) h).1 (by simp only [List.getElem_map]; rw [← e3, e])
    exact h9
theorem set_names {i : Nat} (hi : i < l.length) {w : Wd} (hw : w.name = l[i].name) : (l.set i w).map (·.name) = l.map (·.name) := by
  rw [List.map_set, hw]
  refine List.ext_getElem (by simp) fun j h1 h2 => ?_
  by_cases e : i = j
  · subst e
    rw [List.getElem_set_self, List.getElem_map]
  · rw [List.getElem_set_ne e]
/-- one file changes -/
theorem Kn.file (hW : WF S N) (h : Kn S l) {s : List UInt8} {f i : Nat} (hg : get S.nm s = some f) (hi : i < l.length) (hs : l[i].name = s) {w : Wd} (hw : w.name = s) (h1 : T.nm = S.nm) (h2 : T.ch = S.ch) (h3 : T.la = S.la) (h4 : ∀ g, g ≠ f → T.fo g = S.fo g) (hk : KnW T w f) : Kn T (l.set i w) := by
  refine ⟨fun p hp => ?_, ?_, fun x hx => ?_⟩
  · rw [h1] at hp
    obtain ⟨x, hx, e⟩ := h.cov p hp
    have h9 : x.name ∈ (l.set i w).map (·.name) := by
      rw [set_names hi (by rw [hw, hs])]
      exact List.mem_map.2 ⟨x, hx, rfl⟩
    obtain ⟨y, hy, e2⟩ := List.mem_map.1 h9
    exact ⟨y, hy, by rw [e2, e]⟩
  · rw [set_names hi (by rw [hw, hs])]
    exact h.nd
  · rcases set_mem h.nd hi hx with e | ⟨e, hne⟩
    · rw [e]
      exact ⟨f, hk⟩
    · obtain ⟨g, k⟩ := h.kn x e
      refine ⟨g, k.same h1 h2 h3 (h4 g fun e2 => hne ?_)⟩
      have a1 := get_mem k.get
      have a2 := get_mem hg
      have a3 := inj_of hW.inj _ a1 _ a2 (by show g = f; exact e2)
      rw [hs]
      exact congrArg (·.1) a3
theorem cnt_or (S : DS) : ((cnt S).1 = 0) ∨ ((cnt S).1 ≠ 0) := by omega
/-- behind a call that is not refused -/
theorem Kn.step (hW : WF S N) (hG : WG S) (h : Kn S l) (o : Rop) (f : Nat) (hf : f ∉ S.ids) (hk : 1 ≤ o.k ∧ o.k ≤ 7) (he : doE S o = 0) : Kn (doS S o f) (ntd l o) := by
  obtain ⟨c1, c2, c3, c4, c5, c6, c7⟩ := cnt_same S
  have hid : ∀ x g, KnW S x g → g ∈ S.ids := fun x g k => hW.ids _ (get_mem k.get)
  unfold doE at he
  unfold doS ntd
  by_cases k1 : o.k = 1
  · simp only [if_pos k1] at he ⊢
    generalize o.a.data.toList = s at *
    unfold crtE at he
    split at he
    · rename_i ha
      split at he
      · omega
      · rename_i hg
        have hg2 : (get S.nm s).isSome = false := by simpa using hg
        have hsn := (isNm_len (ask_one ha)).1
        have hap : Ch.app ⟨[], s, some f⟩ S.nm = put (del S.nm []) s f := by
          unfold Ch.app
          rw [if_neg hsn]
          rfl
        unfold crt
        rw [if_pos ⟨ha, hg2⟩, if_pos he]
        refine ⟨fun p hp => ?_, nd_snoc (nd_lss h.nd s) fun y hy => (mem_lss.1 hy).2, fun x hx => ?_⟩
        · have hp2 : p ∈ Ch.app ⟨[], s, some f⟩ S.nm := hp
          rw [hap] at hp2
          rcases mem_put.1 hp2 with e | ⟨e1, e2⟩
          · exact ⟨wd0 s [], List.mem_append_right _ (List.mem_singleton.2 rfl), by rw [e]; rfl⟩
          · obtain ⟨x, hx, e⟩ := h.cov p (mem_del.1 e1).1
            exact ⟨x, List.mem_append_left _ (mem_lss.2 ⟨hx, by rw [e]; exact e2⟩), e⟩
        · rcases List.mem_append.1 hx with e | e
          · obtain ⟨e1, e2⟩ := mem_lss.1 e
            obtain ⟨g, k⟩ := h.kn x e1
            refine ⟨g, k.names hG (c := ⟨[], s, some f⟩) rfl rfl c4 ?_ (Kn.ne hW k) e2⟩
            show upd (cnt S).2.fo f ⟨[], 0⟩ g = _
            rw [upd_ne _ _ fun e3 => hf (by rw [← e3]; exact hid x g k), c7]
          · rw [List.mem_singleton.1 e]
            have hu : upd (cnt S).2.fo f ⟨[], 0⟩ f = ⟨[], 0⟩ := upd_same _ _ _
            refine ⟨f, ?_, ?_, (fun e => by cases e), (fun e => by cases e), (fun e => by cases e)⟩
            · show get (Ch.app ⟨[], s, some f⟩ S.nm) s = _
              rw [hap, get_put, if_pos rfl]
            · show (upd (cnt S).2.fo f ⟨[], 0⟩ f).data = []
              rw [hu]
    · rename_i ha
      exact absurd he ha
  by_cases k5 : o.k = 5
  · have n2 : ¬ o.k = 2 := by omega
    have n3 : ¬ o.k = 3 := by omega
    have n4 : ¬ o.k = 4 := by omega
    simp only [if_neg k1, if_neg n2, if_neg n3, if_neg n4, if_pos k5] at he ⊢
    generalize o.a.data.toList = s at *
    generalize o.b.data.toList = b at *
    unfold renE at he
    split at he
    · rename_i ha
      unfold synE at he
      split at he
      · rename_i hfi
        obtain ⟨hg, -, -⟩ := find_some hfi
        obtain ⟨i, hp, hi, hn, kw⟩ := h.place hg
        have hsb : isNm b = true := by
          by_cases hd : S.down = true
          · unfold askE at ha
            rw [if_pos hd] at ha
            omega
          · unfold askE at ha
            rw [if_neg hd] at ha
            split at ha
            · rename_i h9
              simp at h9
              exact h9.2
            · omega
        have hbn := (isNm_len hsb).1
        have hap : Ch.app ⟨s, b, some (fil S s)⟩ S.nm = put (del S.nm s) b (fil S s) := by
          unfold Ch.app
          rw [if_neg hbn]
          rfl
        rw [hp]
        unfold ren
        rw [if_pos ⟨ha, hfi⟩, if_pos he]
        refine ⟨fun p hp => ?_, nd_snoc (nd_lss (nd_lss h.nd s) b) fun y hy => (mem_lss.1 hy).2, fun x hx => ?_⟩
        · have hp2 : p ∈ Ch.app ⟨s, b, some (fil S s)⟩ (cnt S).2.nm := hp
          rw [c3, hap] at hp2
          rcases mem_put.1 hp2 with e | ⟨e1, e2⟩
          · exact ⟨_, List.mem_append_right _ (List.mem_singleton.2 rfl), by rw [e]; rfl⟩
          · obtain ⟨e3, e4⟩ := mem_del.1 e1
            obtain ⟨x, hx, e⟩ := h.cov p e3
            exact ⟨x, List.mem_append_left _ (mem_lss.2 ⟨mem_lss.2 ⟨hx, by rw [e]; exact e4⟩, by rw [e]; exact e2⟩), e⟩
        · rcases List.mem_append.1 hx with e | e
          · obtain ⟨e1, e2⟩ := mem_lss.1 e
            obtain ⟨e3, e4⟩ := mem_lss.1 e1
            obtain ⟨g, k⟩ := h.kn x e3
            exact ⟨g, k.names hG (c := ⟨s, b, some (fil S s)⟩) (by show Ch.app _ (cnt S).2.nm = _; rw [c3]) (by show (cnt S).2.ch ++ _ = _; rw [c5]) c4 (by show (cnt S).2.fo g = _; rw [c7]) e4 e2⟩
          · rw [List.mem_singleton.1 e]
            refine ⟨fil S s, ?_, ?_, (fun e => by cases e), (fun e => by cases e), (fun e => by cases e)⟩
            · show get (Ch.app ⟨s, b, some (fil S s)⟩ (cnt S).2.nm) b = _
              rw [c3, hap, get_put, if_pos rfl]
            · show ((cnt S).2.fo (fil S s)).data = (wat l i).data
              rw [c7, wat_eq hi]
              exact kw.data
      · rename_i hfi
        exact absurd he hfi
    · rename_i ha
      exact absurd he ha
  by_cases k6 : o.k = 6
  · have n2 : ¬ o.k = 2 := by omega
    have n3 : ¬ o.k = 3 := by omega
    have n4 : ¬ o.k = 4 := by omega
    simp only [if_neg k1, if_neg n2, if_neg n3, if_neg n4, if_neg k5, if_pos k6] at he ⊢
    generalize o.a.data.toList = s at *
    unfold synE at he
    split at he
    · rename_i hfi
      have hap : Ch.app ⟨s, [], none⟩ S.nm = del S.nm s := by
        unfold Ch.app
        rw [if_pos rfl]
      unfold rem
      rw [if_pos hfi, if_pos he]
      refine ⟨fun p hp => ?_, nd_lss h.nd s, fun x hx => ?_⟩
      · have hp2 : p ∈ Ch.app ⟨s, [], none⟩ (cnt S).2.nm := hp
        rw [c3, hap] at hp2
        obtain ⟨e3, e4⟩ := mem_del.1 hp2
        obtain ⟨x, hx, e⟩ := h.cov p e3
        exact ⟨x, mem_lss.2 ⟨hx, by rw [e]; exact e4⟩, e⟩
      · obtain ⟨e3, e4⟩ := mem_lss.1 hx
        obtain ⟨g, k⟩ := h.kn x e3
        exact ⟨g, k.names hG (c := ⟨s, [], none⟩) (by show Ch.app ⟨s, [], none⟩ (cnt S).2.nm = Ch.app ⟨s, [], none⟩ S.nm; rw [c3]) (by show (cnt S).2.ch ++ _ = _; rw [c5]) c4 (by show (cnt S).2.fo g = _; rw [c7]) e4 (Kn.ne hW k)⟩
    · rename_i hfi
      exact absurd he hfi
  by_cases k7 : o.k = 7
  · have n2 : ¬ o.k = 2 := by omega
    have n3 : ¬ o.k = 3 := by omega
    have n4 : ¬ o.k = 4 := by omega
    simp only [if_neg k1, if_neg n2, if_neg n3, if_neg n4, if_neg k5, if_neg k6, if_pos k7] at he ⊢
    unfold sdE at he
    split at he
    · rename_i ha
      unfold sd
      rw [if_pos ha, if_pos he]
      have hpre : ∀ j, pre { (cnt S).2 with la := S.nm, ch := [], taken := (tot S.nm S.fo : Int) } j = S.nm := fun j => by
        unfold pre
        show lvF (([] : List Ch).take j) S.nm = _
        rw [List.take_nil]
        rfl
      refine ⟨fun p hp => ?_, ?_, fun x hx => ?_⟩
      · have hp2 : p ∈ (cnt S).2.nm := hp
        rw [c3] at hp2
        obtain ⟨x, hx, e⟩ := h.cov p hp2
        exact ⟨wsd x, List.mem_map.2 ⟨x, hx, rfl⟩, by rw [wsd_name]; exact e⟩
      · rw [List.map_map]
        have e9 : ((·.name) ∘ wsd : Wd → List UInt8) = (·.name) := funext wsd_name
        rw [e9]
        exact h.nd
      · obtain ⟨y, hy, rfl⟩ := List.mem_map.1 hx
        obtain ⟨g, k⟩ := h.kn y hy
        have hfo : (cnt S).2.fo g = S.fo g := by rw [c7]
        have hgt : get (cnt S).2.nm (wsd y).name = some g := by rw [c3, wsd_name]; exact k.get
        refine ⟨g, hgt, ?_, fun e => ?_, fun e j => ?_, fun e => ?_⟩
        · show ((cnt S).2.fo g).data = _
          rw [hfo, k.data]
          unfold wsd
          split <;> rfl
        · show ∃ n, n ≤ ((cnt S).2.fo g).syn ∧ _ = ((cnt S).2.fo g).data.take n
          rw [hfo]
          unfold wsd at e ⊢
          split at e
          · rename_i e2
            rw [if_pos e2]
            exact k.next e2
          · rename_i e2
            rw [if_neg e2]
            exact k.next e
        · rw [hpre, wsd_name]
          exact k.get
        · show ∃ n, n ≤ ((cnt S).2.fo g).syn ∧ _ = ((cnt S).2.fo g).data.take n
          rw [hfo]
          unfold wsd at e ⊢
          split at e
          · rename_i e2
            rw [if_pos e2]
            exact k.next e2
          · rename_i e2
            rw [if_neg e2]
            exact k.sure e
    · rename_i ha
      exact absurd he ha
  by_cases k2 : o.k = 2
  · simp only [if_neg k1, if_neg k5, if_neg k6, if_neg k7, if_pos k2] at he ⊢
    generalize o.a.data.toList = s at *
    unfold appE at he
    split at he
    · rename_i hfi
      split at he
      · omega
      · rename_i hr
        obtain ⟨hg, -, -⟩ := find_some hfi
        obtain ⟨i, hp, hi, hn, kw⟩ := h.place hg
        have hsl := (hW.fl _ (hid _ _ kw)).1
        rw [hp]
        simp only [wat_eq hi]
        unfold app
        rw [if_pos ⟨hfi, hr⟩, if_pos he]
        have hu : upd (cnt S).2.fo (fil S s) ⟨((cnt S).2.fo (fil S s)).data ++ o.data, ((cnt S).2.fo (fil S s)).syn⟩ (fil S s) = ⟨(S.fo (fil S s)).data ++ o.data, (S.fo (fil S s)).syn⟩ := by rw [upd_same, c7]
        refine h.file hW hg hi hn (by exact hn) c3 c5 c4 (fun g hne => by show upd _ _ _ g = _; rw [upd_ne _ _ hne, c7]) ⟨?_, ?_, fun e => ?_, fun e j => ?_, fun e => ?_⟩
        · show get (cnt S).2.nm l[i].name = _
          rw [c3]
          exact kw.get
        · show (upd _ _ _ (fil S s)).data = l[i].data ++ o.data
          rw [hu, ← kw.data]
        · obtain ⟨n, h1, h2⟩ := kw.next e
          refine ⟨n, by show n ≤ (upd _ _ _ (fil S s)).syn; rw [hu]; exact h1, ?_⟩
          show l[i].next = (upd _ _ _ (fil S s)).data.take n
          rw [hu, h2, List.take_append_of_le_length (by omega)]
        · have h9 := kw.all e j
          show get (pre _ j) l[i].name = _
          have e9 : pre { (cnt S).2 with fo := upd (cnt S).2.fo (fil S s) ⟨((cnt S).2.fo (fil S s)).data ++ o.data, ((cnt S).2.fo (fil S s)).syn⟩, taken := S.taken + (o.data.length : Int) } j = pre S j := by
            unfold pre
            show lvF ((cnt S).2.ch.take j) (cnt S).2.la = _
            rw [c5, c4]
          rw [e9]
          exact h9
        · obtain ⟨n, h1, h2⟩ := kw.sure e
          refine ⟨n, by show n ≤ (upd _ _ _ (fil S s)).syn; rw [hu]; exact h1, ?_⟩
          show l[i].sure = (upd _ _ _ (fil S s)).data.take n
          rw [hu, h2, List.take_append_of_le_length (by omega)]
    · rename_i hfi
      exact absurd he hfi
  by_cases k3 : o.k = 3
  · simp only [if_neg k1, if_neg k5, if_neg k6, if_neg k7, if_neg k2, if_pos k3] at he ⊢
    generalize o.a.data.toList = s at *
    unfold synE at he
    split at he
    · rename_i hfi
      obtain ⟨hg, -, -⟩ := find_some hfi
      obtain ⟨i, hp, hi, hn, kw⟩ := h.place hg
      have hsl := (hW.fl _ (hid _ _ kw)).1
      rw [hp]
      simp only [wat_eq hi]
      unfold syn
      rw [if_pos hfi, if_pos he]
      have hu : upd (cnt S).2.fo (fil S s) ⟨((cnt S).2.fo (fil S s)).data, ((cnt S).2.fo (fil S s)).data.length⟩ (fil S s) = ⟨(S.fo (fil S s)).data, (S.fo (fil S s)).data.length⟩ := by rw [upd_same, c7]
      refine h.file hW hg hi hn (by exact hn) c3 c5 c4 (fun g hne => by show upd _ _ _ g = _; rw [upd_ne _ _ hne, c7]) ⟨?_, ?_, fun e => ?_, fun e j => ?_, fun e => ?_⟩
      · show get (cnt S).2.nm l[i].name = _
        rw [c3]
        exact kw.get
      · show (upd _ _ _ (fil S s)).data = l[i].data
        rw [hu, ← kw.data]
      · refine ⟨(S.fo (fil S s)).data.length, by show _ ≤ (upd _ _ _ (fil S s)).syn; rw [hu]; exact Nat.le_refl _, ?_⟩
        show l[i].data = (upd _ _ _ (fil S s)).data.take _
        rw [hu, List.take_length, kw.data]
      · have h9 := kw.all e j
        show get (pre _ j) l[i].name = _
        have e9 : pre { (cnt S).2 with fo := upd (cnt S).2.fo (fil S s) ⟨((cnt S).2.fo (fil S s)).data, ((cnt S).2.fo (fil S s)).data.length⟩ } j = pre S j := by
          unfold pre
          show lvF ((cnt S).2.ch.take j) (cnt S).2.la = _
          rw [c5, c4]
        rw [e9]
        exact h9
      · obtain ⟨n, h1, h2⟩ := kw.sure e
        refine ⟨n, by show n ≤ (upd _ _ _ (fil S s)).syn; rw [hu]; show n ≤ (S.fo (fil S s)).data.length; omega, ?_⟩
        show l[i].sure = (upd _ _ _ (fil S s)).data.take n
        rw [hu, h2]
    · rename_i hfi
      exact absurd he hfi
  have k4 : o.k = 4 := by omega
  simp only [if_neg k1, if_neg k5, if_neg k6, if_neg k7, if_neg k2, if_neg k3, if_pos k4] at he ⊢
  generalize o.a.data.toList = s at *
  unfold truE at he
  split at he
  · rename_i hfi
    split at he
    · omega
    · rename_i hb
      obtain ⟨hg, -, -⟩ := find_some hfi
      obtain ⟨i, hp, hi, hn, kw⟩ := h.place hg
      have hb2 : bad S (fil S s) o.n = false := by simpa using hb
      have hb3 : 0 ≤ o.n ∧ o.n ≤ (l[i].data.length : Int) := by
        unfold bad at hb2
        have h9 := of_decide_eq_false hb2
        rw [kw.data] at h9
        omega
      rw [hp]
      simp only [wat_eq hi, if_pos hb3]
      unfold tru
      rw [if_pos ⟨hfi, hb2⟩, if_pos he]
      refine h.file hW hg hi hn rfl c3 c5 c4 (fun g hne => by show upd _ _ _ g = _; rw [upd_ne _ _ hne, c7]) ⟨?_, ?_, (fun e => by cases e), (fun e => by cases e), (fun e => by cases e)⟩
      · show get (cnt S).2.nm s = _
        rw [c3]
        exact hg
      · show (upd _ _ _ (fil S s)).data = l[i].data.take o.n.toNat
        rw [upd_same, ← kw.data]
  · rename_i hfi
    exact absurd he hfi
theorem lv_syn_take (x : Fl) (c : Int × Int) (h : x.syn ≤ x.data.length) : (lv x c).take x.syn = x.data.take x.syn := by
  unfold lv
  rw [List.take_append_of_le_length (by rw [List.length_take]; omega), List.take_take, Nat.min_eq_left (by omega)]
/-- what is sure outlives a crash -/
theorem Kn.crash (hW : WF S N) (h : Kn S l) (keep : Int) (cs : List (Int × Int)) : ∀ x ∈ l, x.hasS = true → ∃ y ∈ Dk.crash S keep cs, y.1 = x.name ∧ y.2.take x.sure.length = x.sure ∧ x.sure.length ≤ y.2.length := fun x hx hs => by
  obtain ⟨f, k⟩ := h.kn x hx
  have hm := get_mem (k.all hs (lvK S keep))
  obtain ⟨n, h1, h2⟩ := k.sure hs
  obtain ⟨i, hi, e⟩ := List.getElem_of_mem hm
  have hfl := hW.fl f (hW.ids _ (get_mem k.get))
  have hlen : x.sure.length = n := by
    rw [h2, List.length_take]
    omega
  have e2 : (Dk.crash S keep cs)[i]? = some (x.name, lv (S.fo f) (cs.getD i (0, 0))) := by
    unfold Dk.crash crL
    rw [List.getElem?_mapIdx]
    have e3 : (lvN S keep)[i]? = some (x.name, f) := by
      rw [← e]
      exact List.getElem?_eq_getElem hi
    rw [e3]
    rfl
  have h9 := lv_syn_take (S.fo f) (cs.getD i (0, 0)) hfl.1
  refine ⟨_, List.mem_of_getElem? e2, rfl, ?_, ?_⟩
  · rw [hlen]
    show (lv _ _).take n = _
    have e4 : ((lv (S.fo f) (cs.getD i (0, 0))).take (S.fo f).syn).take n = (lv (S.fo f) (cs.getD i (0, 0))).take n := by
      rw [List.take_take, Nat.min_eq_left h1]
    rw [← e4, h9, List.take_take, Nat.min_eq_left h1, h2]
  · rw [hlen]
    have h10 := congrArg List.length h9
    rw [List.length_take, List.length_take] at h10
    show n ≤ (lv _ _).length
    omega
/-- a disk without pending changes -/
theorem WG.flat (hW : WF S N) (hc : S.ch = []) (hl : S.la = S.nm) : WG S := by
  obtain ⟨L, l1, l2, l3, l4⟩ := hW.live
  refine ⟨by rw [hc, hl]; rfl, L, l1, l2, l4, fun j => ?_⟩
  have e : pre S j = S.nm := by
    unfold pre
    rw [hc, List.take_nil, hl]
    rfl
  rw [e]
  exact ⟨hW.inj, l3⟩
/-- all is sure -/
def kw (x : List UInt8 × List Nat) : Wd := ⟨x.1, x.2, [], false, x.2, true⟩
theorem Kn.known (hr : rising S.nm) (hc : S.ch = []) (hl : S.la = S.nm) (hs : ∀ p ∈ S.nm, (S.fo p.2).syn = (S.fo p.2).data.length) : Kn S ((files S).map kw) := by
  have e : ∀ j, pre S j = S.nm := fun j => by
    unfold pre
    rw [hc, List.take_nil, hl]
    rfl
  unfold files
  refine ⟨fun p hp => ⟨kw (p.1, (S.fo p.2).data), List.mem_map.2 ⟨_, List.mem_map.2 ⟨p, hp, rfl⟩, rfl⟩, rfl⟩, ?_, fun x hx => ?_⟩
  · rw [List.map_map, List.map_map]
    show (S.nm.map fun p => p.1).Nodup
    unfold rising at hr
    refine List.pairwise_map.2 (hr.imp fun h e => ?_)
    rw [e, bb_irrefl] at h
    cases h
  · obtain ⟨y, hy, rfl⟩ := List.mem_map.1 hx
    obtain ⟨p, hp, rfl⟩ := List.mem_map.1 hy
    have hg : get S.nm p.1 = some p.2 := mem_get hr hp
    refine ⟨p.2, hg, rfl, (fun e => by cases e), fun _ j => by rw [e j]; exact hg, fun _ => ⟨(S.fo p.2).syn, Nat.le_refl _, ?_⟩⟩
    show (S.fo p.2).data = (S.fo p.2).data.take _
    rw [hs p hp, List.take_length]
end
end Dk
end Go.Proofs.Ytjepeeopjjnglaa
