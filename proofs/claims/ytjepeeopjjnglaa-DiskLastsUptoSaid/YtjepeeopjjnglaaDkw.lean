/-
  Package disk, pure: two disks that are the same but for where their files lie.
-/
import Derived.Test.YtjepeeopjjnglaaDkq
namespace Go.Proofs.Ytjepeeopjjnglaa
open Go Go.RowKit Go.ChangeShapes
namespace Dk
/-- the same names, the files elsewhere -/
def mp (φ : Nat → Nat) (l : Nm) : Nm := l.map fun p => (p.1, φ p.2)
def Ch.mp (φ : Nat → Nat) (c : Ch) : Ch := ⟨c.frm, c.tow, c.f.map φ⟩
section
variable (φ : Nat → Nat)
theorem get_mp (l : Nm) (s : List UInt8) : get (mp φ l) s = (get l s).map φ := by
  induction l with
  | nil => rfl
  | cons p r ih =>
    show get ((p.1, φ p.2) :: mp φ r) s = _
    rw [get_cons, get_cons, ih]
    split <;> rfl
theorem del_mp (l : Nm) (s : List UInt8) : del (mp φ l) s = mp φ (del l s) := by
  unfold del mp
  rw [List.filter_map]
  rfl
theorem ins_mp (x : List UInt8 × Nat) : ∀ l : Nm, ins (x.1, φ x.2) (mp φ l) = mp φ (ins x l)
  | [] => rfl
  | y :: r => by
    show ins (x.1, φ x.2) ((y.1, φ y.2) :: mp φ r) = _
    rw [ins, ins]
    split
    · rfl
    · rw [ins_mp x r]
      rfl
theorem put_mp (l : Nm) (s : List UInt8) (f : Nat) : put (mp φ l) s (φ f) = mp φ (put l s f) := by
  unfold put
  rw [del_mp]
  exact ins_mp φ (s, f) _
theorem app_mp (c : Ch) (l : Nm) (h : c.tow ≠ [] → ∃ f, c.f = some f) : (c.mp φ).app (mp φ l) = mp φ (c.app l) := by
  unfold Ch.app
  show (if c.tow = [] then _ else _) = _
  split
  · exact del_mp φ l c.frm
  · rename_i hne
    obtain ⟨f, ef⟩ := h hne
    show put (del (mp φ l) c.frm) c.tow ((c.f.map φ).getD 0) = _
    rw [ef, del_mp]
    exact put_mp φ _ _ f
theorem lvF_mp : ∀ (cs : List Ch) (l : Nm), (∀ c ∈ cs, c.tow ≠ [] → ∃ f, c.f = some f) → lvF (cs.map (Ch.mp φ)) (mp φ l) = mp φ (lvF cs l)
  | [], _, _ => rfl
  | c :: r, l, h => by
    show lvF (r.map (Ch.mp φ)) ((c.mp φ).app (mp φ l)) = mp φ (lvF r (c.app l))
    rw [app_mp φ c l (h c (List.mem_cons_self ..)), lvF_mp r _ fun d hd => h d (List.mem_cons_of_mem _ hd)]
end
/-- the same disk, its files elsewhere; armed or not -/
structure Iso (φ : Nat → Nat) (S T : DS) : Prop where
  quota : T.quota = S.quota
  taken : T.taken = S.taken
  nm : T.nm = mp φ S.nm
  la : T.la = mp φ S.la
  ch : T.ch = S.ch.map (Ch.mp φ)
  fo : ∀ f ∈ S.ids, T.fo (φ f) = S.fo f
  inj : ∀ f ∈ S.ids, ∀ g ∈ S.ids, φ f = φ g → f = g
  cf : ∀ c ∈ S.ch, ∀ f, c.f = some f → f ∈ S.ids
section
variable {φ : Nat → Nat} {S T : DS} {N : Nat}
theorem mp_data (h : Iso φ S T) (l : Nm) (hl : ∀ p ∈ l, p.2 ∈ S.ids) : (mp φ l).map (fun p => (p.1, T.fo p.2)) = l.map fun p => (p.1, S.fo p.2) := by
  unfold mp
  rw [List.map_map]
  exact List.map_congr_left fun p hp => by
    show (p.1, T.fo (φ p.2)) = _
    rw [h.fo _ (hl p hp)]
theorem Iso.files (h : Iso φ S T) (hW : WF S N) : files T = files S := by
  have h9 := congrArg (List.map fun x : List UInt8 × Fl => (x.1, x.2.data)) (mp_data h S.nm hW.ids)
  rw [List.map_map, List.map_map] at h9
  unfold Dk.files
  rw [h.nm]
  exact h9
theorem Iso.find (h : Iso φ S T) (hd : T.down = S.down) (s : List UInt8) : (findE T s).1 = (findE S s).1 ∧ ((findE S s).1 = 0 → fil T s = φ (fil S s)) := by
  have ha : askE T [s] = askE S [s] := by unfold askE; rw [hd]
  unfold fil findE
  rw [ha, h.nm, get_mp]
  split
  · cases get S.nm s with
    | none => exact ⟨rfl, fun e => by cases e⟩
    | some f => exact ⟨rfl, fun _ => rfl⟩
  · rename_i hne
    exact ⟨rfl, fun e => absurd e hne⟩
theorem Iso.upd (h : Iso φ S T) {f : Nat} (hf : f ∈ S.ids) (x : Fl) (t t2 : Int) (ht : t2 = t) : Iso φ { S with fo := Dk.upd S.fo f x, taken := t } { T with fo := Dk.upd T.fo (φ f) x, taken := t2 } := by
  refine ⟨h.quota, ht, h.nm, h.la, h.ch, fun k hk => ?_, h.inj, h.cf⟩
  show Dk.upd T.fo (φ f) x (φ k) = Dk.upd S.fo f x k
  by_cases e : k = f
  · rw [e, upd_same, upd_same]
  · rw [upd_ne _ _ e, upd_ne _ _ fun e2 => e (h.inj k hk f hf e2), h.fo k hk]
theorem Iso.cnt (h : Iso φ S T) : Iso φ S (cnt T).2 := by
  obtain ⟨e1, e2, e3, e4, e5, e6, e7⟩ := cnt_same T
  exact ⟨e1.trans h.quota, e2.trans h.taken, e3.trans h.nm, e4.trans h.la, e5.trans h.ch, by rw [e7]; exact h.fo, h.inj, h.cf⟩
theorem Iso.syn (h : Iso φ S T) (hd : T.down = S.down) (ha : S.armed = false) (hc : (Dk.cnt T).1 = 0) (hW : WF S N) (s : List UInt8) : Iso φ (syn S s) (syn T s) := by
  unfold Dk.syn
  rw [(h.find hd s).1]
  split
  · rename_i hf
    have hid := hW.ids _ (get_mem (find_some hf).1)
    rw [cnt_un ha, if_pos rfl, (h.find hd s).2 hf, h.cnt.fo _ hid]
    exact h.cnt.upd hid _ _ _ h.cnt.taken
  · exact h
theorem Iso.app (h : Iso φ S T) (hd : T.down = S.down) (ha : S.armed = false) (hc : (Dk.cnt T).1 = 0) (hW : WF S N) (s : List UInt8) (l : List Nat) : Iso φ (app S s l) (app T s l) := by
  unfold Dk.app
  rw [(h.find hd s).1, h.quota, h.taken]
  split
  · rename_i hf
    have hid := hW.ids _ (get_mem (find_some hf.1).1)
    rw [cnt_un ha, if_pos rfl, (h.find hd s).2 hf.1, h.cnt.fo _ hid]
    exact h.cnt.upd hid _ _ _ rfl
  · exact h
theorem Iso.tru (h : Iso φ S T) (hd : T.down = S.down) (ha : S.armed = false) (hc : (Dk.cnt T).1 = 0) (hW : WF S N) (s : List UInt8) (n : Int) : Iso φ (tru S s n) (tru T s n) := by
  unfold Dk.tru
  by_cases hf : (findE S s).1 = 0
  · have hid := hW.ids _ (get_mem (find_some hf).1)
    have hb : bad T (fil T s) n = bad S (fil S s) n := by
      unfold bad
      rw [(h.find hd s).2 hf, h.fo _ hid]
    rw [(h.find hd s).1, hb]
    split
    · rw [cnt_un ha, if_pos rfl, (h.find hd s).2 hf, h.fo _ hid, h.taken]
      exact h.cnt.upd hid _ _ _ rfl
    · exact h
  · rw [if_neg fun e => hf e.1, if_neg fun e => hf ((h.find hd s).1 ▸ e.1)]
    exact h
theorem Iso.names (h : Iso φ S T) (c : Ch) (hc : c.tow ≠ [] → ∃ f, c.f = some f) (hcf : ∀ f, c.f = some f → f ∈ S.ids) : Iso φ { S with nm := c.app S.nm, ch := S.ch ++ [c] } { T with nm := (c.mp φ).app T.nm, ch := T.ch ++ [c.mp φ] } := by
  refine ⟨h.quota, h.taken, ?_, h.la, ?_, h.fo, h.inj, fun d hd => ?_⟩
  · show (c.mp φ).app T.nm = mp φ (c.app S.nm)
    rw [h.nm, app_mp φ c _ hc]
  · show T.ch ++ [c.mp φ] = (S.ch ++ [c]).map (Ch.mp φ)
    rw [h.ch, List.map_append]
    rfl
  · rcases List.mem_append.1 hd with e | e
    · exact h.cf d e
    · rw [List.mem_singleton.1 e]
      exact hcf
theorem Iso.rem (h : Iso φ S T) (hd : T.down = S.down) (ha : S.armed = false) (hc : (Dk.cnt T).1 = 0) (s : List UInt8) : Iso φ (rem S s) (rem T s) := by
  unfold Dk.rem
  rw [(h.find hd s).1]
  split
  · rw [cnt_un ha, if_pos rfl]
    exact h.cnt.names ⟨s, [], none⟩ (fun e => absurd rfl e) (fun f e => by cases e)
  · exact h
theorem Iso.ren (h : Iso φ S T) (hd : T.down = S.down) (ha : S.armed = false) (hc : (Dk.cnt T).1 = 0) (hW : WF S N) (a b : List UInt8) : Iso φ (ren S a b) (ren T a b) := by
  have hk : askE T [a, b] = askE S [a, b] := by unfold askE; rw [hd]
  unfold Dk.ren
  rw [(h.find hd a).1, hk]
  split
  · rename_i hf
    rw [cnt_un ha, if_pos rfl, (h.find hd a).2 hf.2]
    exact h.cnt.names ⟨a, b, some (fil S a)⟩ (fun _ => ⟨_, rfl⟩) (fun f e => by
      rw [← Option.some.inj e]
      exact hW.ids _ (get_mem (find_some hf.2).1))
  · exact h
theorem Iso.sd (h : Iso φ S T) (hd : T.down = S.down) (ha : S.armed = false) (hc : (Dk.cnt T).1 = 0) (hW : WF S N) : Iso φ (sd S) (sd T) := by
  have hk : askE T [] = askE S [] := by unfold askE; rw [hd]
  unfold Dk.sd
  rw [hk]
  split
  · rw [cnt_un ha, if_pos rfl]
    have ht : Dk.tot T.nm T.fo = Dk.tot S.nm S.fo := by
      have h9 := congrArg (List.map fun x : List UInt8 × Fl => x.2.data.length) (mp_data h S.nm hW.ids)
      rw [List.map_map, List.map_map] at h9
      unfold Dk.tot
      rw [h.nm]
      exact congrArg List.sum h9
    exact ⟨h.cnt.quota, by show (Dk.tot T.nm T.fo : Int) = (Dk.tot S.nm S.fo : Int); rw [ht], h.cnt.nm, h.nm, rfl, h.cnt.fo, h.inj, fun c hc => by cases hc⟩
  · exact h
theorem Iso.crash (h : Iso φ S T) (hW : WF S N) (keep : Int) (cs : List (Int × Int)) : crash T keep cs = crash S keep cs := by
  have hk : lvK T keep = lvK S keep := by unfold lvK; rw [h.ch, List.length_map]
  have hl : lvN T keep = mp φ (lvN S keep) := by
    unfold lvN
    rw [hk, h.ch, h.la, ← List.map_take, lvF_mp]
    intro c hc hne
    obtain ⟨-, f, ef, -⟩ := (hW.ch c (List.mem_of_mem_take hc)).2 hne
    exact ⟨f, ef⟩
  unfold Dk.crash crL
  rw [hl]
  unfold mp
  refine List.ext_getElem (by rw [List.length_mapIdx, List.length_mapIdx, List.length_map]) fun i h1 h2 => ?_
  rw [List.getElem_mapIdx, List.getElem_mapIdx, List.getElem_map]
  show (_, lv (T.fo (φ _)) _) = _
  rw [h.fo _ (hW.left keep _ (List.getElem_mem _)).1]
theorem mp_congr {φ' : Nat → Nat} (l : Nm) (h : ∀ p ∈ l, φ' p.2 = φ p.2) : mp φ' l = mp φ l := List.map_congr_left fun p hp => by rw [h p hp]
theorem Iso.congr {φ' : Nat → Nat} (h : Iso φ S T) (hW : WF S N) (he : ∀ k ∈ S.ids, φ' k = φ k) : Iso φ' S T := by
  refine ⟨h.quota, h.taken, ?_, ?_, ?_, fun f hf => ?_, fun f hf g hg e => ?_, h.cf⟩
  · rw [h.nm, mp_congr S.nm fun p hp => he _ (hW.ids p hp)]
  · rw [h.la, mp_congr S.la fun p hp => he _ (hW.la p hp).1]
  · rw [h.ch]
    refine List.map_congr_left fun c hc => ?_
    unfold Ch.mp
    cases hcf : c.f with
    | none => rfl
    | some f =>
      show Ch.mk _ _ (some (φ f)) = Ch.mk _ _ (some (φ' f))
      rw [he f (h.cf c hc f hcf)]
  · rw [he f hf]
    exact h.fo f hf
  · rw [he f hf, he g hg] at e
    exact h.inj f hf g hg e
theorem Iso.made (h : Iso φ S T) (f : Nat) (hf' : ∀ k ∈ S.ids, φ k ≠ φ f) (hf : f ∉ S.ids) : Iso φ (Dk.mk S f) (Dk.mk T (φ f)) := by
  refine ⟨h.quota, h.taken, h.nm, h.la, h.ch, fun k hk => ?_, fun k hk g hg e => ?_, fun c hc k e => List.mem_append_left _ (h.cf c hc k e)⟩
  · show Dk.upd T.fo (φ f) ⟨[], 0⟩ (φ k) = Dk.upd S.fo f ⟨[], 0⟩ k
    rcases List.mem_append.1 hk with h9 | h9
    · rw [upd_ne _ _ (hf' k h9), upd_ne _ _ fun e => hf (by rw [← e]; exact h9), h.fo k h9]
    · rw [List.mem_singleton.1 h9, upd_same, upd_same]
  · rcases List.mem_append.1 hk with h9 | h9 <;> rcases List.mem_append.1 hg with h8 | h8
    · exact h.inj k h9 g h8 e
    · rw [List.mem_singleton.1 h8] at e
      exact absurd e (hf' k h9)
    · rw [List.mem_singleton.1 h9] at e
      exact absurd e.symm (hf' g h8)
    · rw [List.mem_singleton.1 h9, List.mem_singleton.1 h8]
theorem Iso.crt (h : Iso φ S T) (hd : T.down = S.down) (ha : S.armed = false) (hc : (Dk.cnt T).1 = 0) (s : List UInt8) (f : Nat) (hf' : ∀ k ∈ S.ids, φ k ≠ φ f) (hf : f ∉ S.ids) : Iso φ (crt S s f) (crt T s (φ f)) := by
  have hk : askE T [s] = askE S [s] := by unfold askE; rw [hd]
  have hg : (get T.nm s).isSome = (get S.nm s).isSome := by rw [h.nm, get_mp, Option.isSome_map]
  unfold Dk.crt
  rw [hk, hg]
  split
  · rw [cnt_un ha, if_pos rfl]
    have h9 := (h.cnt.made f hf' hf).names ⟨[], s, some f⟩ (fun _ => ⟨f, rfl⟩) (fun k e => by
      rw [← Option.some.inj e]
      show f ∈ S.ids ++ [f]
      simp)
    have e3 := (cnt_same T).2.2.1
    have e5 := (cnt_same T).2.2.2.2.1
    have h8 : Iso φ { Dk.mk S f with nm := Ch.app ⟨[], s, some f⟩ S.nm, ch := S.ch ++ [⟨[], s, some f⟩] } { Dk.mk (Dk.cnt T).2 (φ f) with nm := Ch.app ⟨[], s, some (φ f)⟩ (Dk.cnt T).2.nm, ch := (Dk.cnt T).2.ch ++ [⟨[], s, some (φ f)⟩] } := h9
    rw [e3, e5] at h8
    exact h8
  · exact h
/-- the error of a call, by that of the other disk, which is not armed -/
theorem Iso.doE (h : Iso φ S T) (hd : T.down = S.down) (ha : S.armed = false) (hW : WF S N) (o : Rop) : doE T o = if doE S o = 0 then (Dk.cnt T).1 else doE S o := by
  have a1 : ∀ ls, askE T ls = askE S ls := fun ls => by unfold askE; rw [hd]
  have a2 : ∀ s, synE T s = if synE S s = 0 then (Dk.cnt T).1 else synE S s := fun s => by
    unfold synE
    rw [(h.find hd s).1, cnt_un ha]
    by_cases e : (findE S s).1 = 0
    · rw [if_pos e, if_pos e, if_pos rfl]
    · rw [if_neg e, if_neg e, if_neg e]
  unfold Dk.doE
  split
  · unfold crtE
    rw [a1, h.nm, get_mp, Option.isSome_map, cnt_un ha]
    by_cases e : askE S [o.a.data.toList] = 0
    · rw [if_pos e, if_pos e]
      cases (get S.nm o.a.data.toList).isSome <;> simp
    · rw [if_neg e, if_neg e, if_neg e]
  split
  · unfold appE
    rw [(h.find hd _).1, cnt_un ha, h.quota, h.taken]
    by_cases e : (findE S o.a.data.toList).1 = 0
    · rw [if_pos e, if_pos e]
      split <;> simp
    · rw [if_neg e, if_neg e, if_neg e]
  split
  · exact a2 _
  split
  · unfold truE
    rw [(h.find hd _).1, cnt_un ha]
    by_cases e : (findE S o.a.data.toList).1 = 0
    · have hb : bad T (fil T o.a.data.toList) o.n = bad S (fil S o.a.data.toList) o.n := by
        unfold bad
        rw [(h.find hd _).2 e, h.fo _ (hW.ids _ (get_mem (find_some e).1))]
      rw [if_pos e, if_pos e, hb]
      split <;> simp
    · rw [if_neg e, if_neg e, if_neg e]
  split
  · unfold renE
    rw [a1]
    by_cases e : askE S [o.a.data.toList, o.b.data.toList] = 0
    · rw [if_pos e, if_pos e]
      exact a2 _
    · rw [if_neg e, if_neg e, if_neg e]
  split
  · exact a2 _
  · unfold sdE
    rw [a1, cnt_un ha]
    by_cases e : askE S [] = 0
    · rw [if_pos e, if_pos e, if_pos rfl]
    · rw [if_neg e, if_neg e, if_neg e]
/-- where the armed one is not stopped, both do the same -/
theorem Iso.do (h : Iso φ S T) (hd : T.down = S.down) (ha : S.armed = false) (hc : (Dk.cnt T).1 = 0) (hW : WF S N) (o : Rop) (f : Nat) (hf' : ∀ k ∈ S.ids, φ k ≠ φ f) (hf : f ∉ S.ids) : Iso φ (doS S o f) (doS T o (φ f)) := by
  unfold doS
  split
  · exact h.crt hd ha hc _ f hf' hf
  split
  · exact h.app hd ha hc hW _ _
  split
  · exact h.syn hd ha hc hW _
  split
  · exact h.tru hd ha hc hW _ _
  split
  · exact h.ren hd ha hc hW _ _
  split
  · exact h.rem hd ha hc _
  · exact h.sd hd ha hc hW
end
end Dk
end Go.Proofs.Ytjepeeopjjnglaa
